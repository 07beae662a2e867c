/- The document's disk: its Act, kind 2 (written by gract.py). -/
import Derived.Test.YtlfigbgcackimaaDiskT
namespace Go.Proofs.Ytlfigbgcackimaa
open Go.RowKit Go.Dk
set_option linter.unusedVariables false
set_option linter.unusedSimpArgs false
set_option maxRecDepth 100000

set_option maxHeartbeats 4000000 in
theorem ract_k2 (r : Rf) (o : Rok r) (G : Nat → Prop) (AL : Option Addr) (cL : Nat) (AK : Option Addr) (cK : Nat) (kind : Int) (hk : W64 kind) (hkk : kind ≠ 0 ∧ kind ≠ 1) (log : Int) (hlog : W64 log) (b : List UInt8) (hb : b.length ≤ 4194304) (w : World) (hm : IsM G w AL cL AK cK r) :
    Calls Try.prog 40 #[vM AL cL AK cK r, .int .i64 kind, .int .i64 log, .string (txt b)] w fun e w' => ∃ A1 c1 A2 c2, e = .returned (.tuple #[vM A1 c1 A2 c2 (r.act kind log b).1, .int .i64 (r.act kind log b).2]) ∧ Below w.heap.size w w' ∧ ∀ G, IsM G w AL cL AK cK r → IsM (fun b => G b ∨ w.heap.size ≤ b) w' A1 c1 A2 c2 (r.act kind log b).1 := by
  have hf := o.few
  unfold W64 at hk hlog
  have HST := Lib.hid (((St.start w).alloc w.heap.size rfl 30 #[.slice AL r.logs.length cL, .int .i64 r.acts, .bool r.off, .int .i64 r.armed, .slice AK r.keep.length cK]).alloc (w.heap.size + 1) (by simp) 30 #[.slice none 0 0, .int .i64 0, .bool false, .int .i64 0, .slice none 0 0])
  -- what is refused: the disk is as it was
  have HSAME : Hid (∀ e w' k, r.act kind log b = (r, k) → Below w.heap.size w w' → e = Ending.returned (.tuple #[.agg #[.slice AL r.logs.length cL, .int .i64 r.acts, .bool r.off, .int .i64 r.armed, .slice AK r.keep.length cK], .int .i64 k]) → ∃ A1 c1 A2 c2, e = .returned (.tuple #[vM A1 c1 A2 c2 (r.act kind log b).1, .int .i64 (r.act kind log b).2]) ∧ Below w.heap.size w w' ∧ ∀ G, IsM G w AL cL AK cK r → IsM (fun b => G b ∨ w.heap.size ≤ b) w' A1 c1 A2 c2 (r.act kind log b).1) := Lib.hid fun e w' k hk hb he => by
    refine ⟨AL, cL, AK, cK, by rw [hk]; exact he, hb, fun G hm => by rw [hk]; exact (hm.call hb).mono fun _ _ h => .inl h⟩
  by_cases hin : 0 ≤ log ∧ log < r.logs.length
  · obtain ⟨i, rfl⟩ : ∃ i : Nat, log = i := ⟨log.toNat, by omega⟩
    have hlt : i < r.logs.length := by omega
    obtain ⟨x, hx⟩ : ∃ x, r.logs[i]? = some x := ⟨_, List.getElem?_eq_getElem hlt⟩
    have hof : r.of i = x := by unfold Rf.of; rw [Int.toNat_natCast, List.getD_eq_getElem?_getD, hx]; rfl
    cases hoff : r.off with
    | true =>
      have HQ : Hid (r.act kind i b = (r, 71)) := Lib.hid (by unfold Rf.act; rw [if_neg (fun h => h hin), hoff]; simp)
      rw [hoff] at HSAME HST
      have h1 : (i : Int) < (r.logs.length : Int) := by omega
      have HV : Hid (vM AL cL AK cK r = .agg #[.slice AL r.logs.length cL, .int .i64 r.acts, .bool true, .int .i64 r.armed, .slice AK r.keep.length cK]) := Lib.hid (by unfold vM; rw [hoff])
      rw [HV.out]
      clear hof hx hm o hin hoff HV
      generalize r.logs.length = ln at *
      generalize r.acts = ac at *
      generalize r.armed = ar at *
      generalize r.keep.length = kn at *
      go_enter Try.func40, Try.ntmps40
      go_wp2_with fail
      refine bodyPost_ret (by simp [results, Try.results40, go_sem]; try rfl) rfl ?_
      exact HSAME.out _ _ 71 HQ.out (by
        have hb := Below.refl w.heap.size w
        go_grown) rfl
    | false =>
      rw [hoff] at HSAME HST
      have hxb := o.logs x (List.mem_of_getElem? hx)
      have HIT := Lib.hid fun w' (hb : Below w.heap.size w w') => (hm.logs.call hb).item i x hx
      have HAR := Lib.hid o.armed
      have HAC := Lib.hid o.acts
      have HKR := Lib.hid o.range
      have hkn := o.keep
      have HACT : Hid (∀ u v, x.next kind b = ⟨u, v⟩ → r.act kind i b = if 4194304 < u.length + v.length then (r, 72) else if r.armed = 1 then (r.crash r.keep, 71) else (r.done i ⟨u, v⟩, 0)) := Lib.hid fun u v hy => by
        unfold Rf.act
        rw [if_neg (fun h => h hin), hoff, if_neg (by simp), hof, hy, Int.toNat_natCast]
      have h1 : (i : Int) < (r.logs.length : Int) := by omega
      have HCR := Lib.hid fun w' (hb : Below w.heap.size w w') => rcrash_any r o G AL cL AK cK AK cK r.keep o.range (by omega) w' (hm.call hb) w'.heap.size (Nat.le_refl _) (hm.keep.call hb).sees
      have HCO := Lib.hid fun w' cx cz (st : St w w' [(w.heap.size, 30, cx), (w.heap.size + 1, 30, cz)]) => Sm.copyB r o G hm st (Nat.le_refl _) (by omega) (by omega)
      have HLG := Lib.hid hx
      have HVM : Hid (∀ A1 c1 A2 c2 (q : Rf), vM A1 c1 A2 c2 q = .agg #[.slice A1 q.logs.length c1, .int .i64 q.acts, .bool q.off, .int .i64 q.armed, .slice A2 q.keep.length c2]) := Lib.hid fun _ _ _ _ _ => rfl
      have HOFF := Lib.hid hoff
      have HOFF2 : Hid (vM AL cL AK cK r = .agg #[.slice AL r.logs.length cL, .int .i64 r.acts, .bool false, .int .i64 r.armed, .slice AK r.keep.length cK]) := Lib.hid (by unfold vM; rw [hoff])
      have HOFF3 : Hid (∀ A1 c1 A2 c2, vM A1 c1 A2 c2 r = .agg #[.slice A1 r.logs.length c1, .int .i64 r.acts, .bool false, .int .i64 r.armed, .slice A2 r.keep.length c2]) := Lib.hid fun _ _ _ _ => by unfold vM; rw [hoff]
      rw [HOFF2.out] at HCR HCO ⊢
      clear hof hx hm o hin hoff
      have ht0 : (txt x.sure).size = x.sure.length := txt_size _
      have ht1 : (txt x.loose).size = x.loose.length := txt_size _
      have ht2 : (txt b).size = b.length := txt_size _
      obtain ⟨k0, k1⟩ := hkk
      · have HN : Hid (x.next kind b = ⟨b, []⟩) := Lib.hid (by unfold Lo.next; rw [if_neg k0, if_neg k1])
        have hact := HACT.out _ _ HN.out
        obtain ⟨ans, hans⟩ : ∃ ans, r.act kind i b = ans := ⟨_, rfl⟩
        rw [hans] at hact
        replace HACT := Lib.hid hact
        have HANS := Lib.hid hans
        clear hact hans
        have HJ : Hid (txt b = txt (b) ∧ ⟨#[]⟩ = txt (([] : List UInt8))) := Lib.hid ⟨by rfl, by rfl⟩
        have HZ0 : Hid ((txt (b)).size = (b).length) := Lib.hid (txt_size _)
        have HZ1 : Hid ((txt (([] : List UInt8))).size = (([] : List UInt8)).length) := Lib.hid (txt_size _)
        have hzz : (b).length + (([] : List UInt8)).length ≤ 8388608 := by simp <;> omega
        go_enter Try.func40, Try.ntmps40
        go_upto_region 5 with fail
        obtain ⟨g, off, rfl, hg, q0, q1⟩ := HIT.out _ HST.out.below
        go_upto_region 6 with fail
        have H5 := Lib.hid ((HST.out.alloc (w.heap.size + 1 + 1) (by simp) 91 #[.string (txt x.sure), .string (txt x.loose)]))
        clear hg q0 q1 HIT HST HN
        generalize (((w.alloc _).alloc _).alloc _) = w5 at H5 ⊢
        have HD : Hid (∀ t ∈ ([(w.heap.size + 1, 30, #[.slice none 0 0, .int .i64 0, .bool false, .int .i64 0, .slice none 0 0]), (w.heap.size, 30, #[.slice (some ⟨g, off, none⟩) r.logs.length cL, .int .i64 r.acts, .bool false, .int .i64 r.armed, .slice AK r.keep.length cK])] : List Row), t.1 ≠ w.heap.size + 1 + 1) := Lib.hid (by
          intro t hr
          simp only [List.mem_cons, List.not_mem_nil, or_false] at hr
          rcases hr with rfl | rfl <;> (show _ ≠ _; simp only; omega))
        obtain ⟨y0, y1, y2, y3, y4⟩ := H5.out.two 0 _ rfl
        obtain ⟨⟨b0, b1, b2, b3, b4⟩, f0, f1, f2, f3, f4⟩ := (H5.out.knows.at 2 rfl).five
        go_upto_region 12 with fail
        have H6 := Lib.hid ((H5.out.set0 (by omega) HD.out 0 (.string (txt b))).set0 (by omega) HD.out 1 (.string ⟨#[]⟩))
        clear y0 y1 y2 y3 y4 b0 b1 b2 b3 b4 f0 f1 f2 f3 f4
        generalize hw6 : (w5.setCell ⟨w.heap.size + 1 + 1, 0, none⟩ (.string (txt b))).setCell ⟨w.heap.size + 1 + 1, 1, none⟩ (.string ⟨#[]⟩) = w6 at H6 ⊢
        clear hw6 H5 w5
        replace H6 : Hid (St w w6 [(w.heap.size + 1 + 1, 91, #[.string (txt (b)), .string (txt (([] : List UInt8)))]), (w.heap.size + 1, 30, #[.slice none 0 0, .int .i64 0, .bool false, .int .i64 0, .slice none 0 0]), (w.heap.size, 30, #[.slice (some ⟨g, off, none⟩) r.logs.length cL, .int .i64 r.acts, .bool false, .int .i64 r.armed, .slice AK r.keep.length cK])]) := Lib.hid (by
          rw [← HJ.out.1, ← HJ.out.2]
          exact H6.out)
        clear HJ ht0 ht1 ht2 hxb HD
        generalize b = us at HZ0 HZ1 HACT H6 hzz
        generalize ([] : List UInt8) = vs at HZ1 HACT H6 hzz
        have HLW := Lib.hid H6.out.below
        obtain ⟨y0, y1, y2, y3, y4⟩ := H6.out.two 0 _ rfl
        obtain ⟨⟨b0, b1, b2, b3, b4⟩, f0, f1, f2, f3, f4⟩ := (H6.out.knows.at 2 rfl).five
        obtain ⟨⟨r0, r1, r2, r3, r4⟩, k0', k1', k2', k3', k4'⟩ := (H6.out.knows.at 1 rfl).five
        have z0 := HZ0.out
        have z1 := HZ1.out
        have hac := HAC.out
        have har := HAR.out
        replace HCR := Lib.hid (HCR.out _ HLW.out)
        replace HCO := Lib.hid (HCO.out w6 _ _ (H6.out.few (L' := [(w.heap.size, 30, #[.slice (some ⟨g, off, none⟩) r.logs.length cL, .int .i64 r.acts, .bool false, .int .i64 r.armed, .slice AK r.keep.length cK]), (w.heap.size + 1, 30, #[.slice none 0 0, .int .i64 0, .bool false, .int .i64 0, .slice none 0 0])]) fun t ht => by
          simp only [List.mem_cons, List.not_mem_nil, or_false] at ht ⊢
          rcases ht with rfl | rfl <;> simp))
        have HDN : Hid (∀ A1 c1 A2 c2, vM A1 c1 A2 c2 (r.done i ⟨us, vs⟩) = .agg #[.slice A1 r.logs.length c1, .int .i64 ((r.acts + 1 : Nat) : Int), .bool false, .int .i64 ((r.armed - 1 : Nat) : Int), .slice A2 r.keep.length c2]) := Lib.hid fun _ _ _ _ => by
          unfold vM Rf.done
          simp only [List.length_set, HOFF.out]
        have HDL : Hid (∀ w' A1 c1 A2 c2, Seen (fun b => w.heap.size ≤ b) w' 2 A1 r.logs.length c1 (flat encL (r.logs.set i ⟨us, vs⟩)) → Seen (fun b => w.heap.size ≤ b) w' 1 A2 r.keep.length c2 (ints r.keep) → IsM (fun b => w.heap.size ≤ b) w' A1 c1 A2 c2 (r.done i ⟨us, vs⟩)) := Lib.hid fun w' A1 c1 A2 c2 h1 h2 => ⟨by show Seen _ w' 2 A1 (r.logs.set i ⟨us, vs⟩).length c1 _; rw [List.length_set]; exact h1, h2⟩
        have HLN := Lib.hid (show i < r.logs.length from hlt)
        by_cases hfull : 4194304 < us.length + vs.length
        · have HQ := HACT.out
          rw [if_pos hfull] at HQ
          have HQ2 := Lib.hid HQ
          have g1 : (4194304 : Int) < (us.length : Int) + (vs.length : Int) := by omega
          clear HQ HACT HCR HCO HDN HDL HVM HOFF3
          go_wp2_with fail
          refine bodyPost_ret (by simp [results, Try.results40, go_sem, r0, r1, r2, r3, r4, k0', k1', k2', k3', k4']; try rfl) rfl ?_
          exact HSAME.out _ _ 72 (HANS.out.trans HQ2.out) (below_five HLW.out (by omega) _ _ _ _ _) rfl
        · have HQ := HACT.out
          rw [if_neg hfull] at HQ
          have g1 : ¬ (4194304 : Int) < (us.length : Int) + (vs.length : Int) := by omega
          by_cases hone : r.armed = 1
          · rw [if_pos hone] at HQ
            have HQ2 := Lib.hid HQ
            have g2 : (r.armed : Int) = 1 := by omega
            clear HQ HACT HCO HDN HDL HVM HOFF3 HSAME
            rw [g2] at b3 HCR
            clear g2 hone
            unfold vM at HCR
            generalize r.crash r.keep = q at *
            go_wp2_with fail
            refine HCR.out.mono ?_
            rintro e w7 ⟨A1, c1, A2, c2, rfl, hb7, hm7⟩
            have HM7 := Lib.hid hm7
            have HB7 := Lib.hid hb7
            clear hm7 HCR
            obtain ⟨⟨r0, r1, r2, r3, r4⟩, k0', k1', k2', k3', k4'⟩ := ((H6.out.call hb7).knows.at 1 rfl).five
            have hz6 := (H6.out.knows.at 1 rfl).lt
            have hz7 := ((H6.out.call hb7).knows.at 1 rfl).lt
            clear hb7
            go_wp2_with fail
            refine bodyPost_ret (by simp [results, Try.results40, go_sem, r0, r1, r2, r3, r4, k0', k1', k2', k3', k4']; try rfl) rfl ?_
            rw [HANS.out, HQ2.out]
            have hB := HLW.out.size
            refine ⟨A1, c1, A2, c2, rfl, below_five ((H6.out.call HB7.out).below) (by omega) _ _ _ _ _, fun G _ => (HM7.out.five _ (fun b hb => ?_) _ _ _ _ _).mono fun b _ hb => .inr (by omega)⟩
            omega
          · rw [if_neg hone] at HQ
            have HQ2 := Lib.hid HQ
            have g2 : ¬ (r.armed : Int) = 1 := by omega
            have HONE := Lib.hid hone
            clear HQ HACT HCR HVM HSAME
            by_cases hmore : 1 < r.armed
            · have g3 : (1 : Int) < (r.armed : Int) := by omega
              go_wp2_with fail
              refine HCO.out.mono ?_
              rintro e w7 ⟨A1, c1, A2, c2, rfl, h7, hb7, hgl⟩
              rw [HOFF3.out]
              have hyl := (H6.out.knows.at 0 rfl).lt
              have hwy := (H6.out.knows.at 0 rfl).below hb7 hyl
              obtain ⟨⟨b0, b1, b2, b3, b4⟩, ⟨f0, f1, f2, f3, f4⟩, lx⟩ := h7.x5
              have H8 := Lib.hid (h7.setX5 (.slice A1 r.logs.length c1) (.int .i64 r.acts) (.bool false) (.int .i64 r.armed) (.slice A2 r.keep.length c2))
              have HY8 := Lib.hid (hwy.away5 (x := w.heap.size) (by omega) (.slice A1 r.logs.length c1) (.int .i64 r.acts) (.bool false) (.int .i64 r.armed) (.slice A2 r.keep.length c2))
              have HGL := Lib.hid (fun b hb => show b ≠ w.heap.size + 1 + 1 from fun e => by
                have h1 := hgl b hb
                omega)
              clear h7 HCO H6 hwy hb7 hgl hyl
              go_upto_region 17 with fail
              generalize hw8 : ((((w7.setCell _ _).setCell _ _).setCell _ _).setCell _ _).setCell _ _ = w8 at H8 HY8 ⊢
              clear hw8 b0 b1 b2 b3 b4 f0 f1 f2 f3 f4 lx
              obtain ⟨⟨b0, b1, b2, b3, b4⟩, ⟨f0, f1, f2, f3, f4⟩, lx⟩ := H8.out.x5
              obtain ⟨x0, rfl, hlx, l0, l1, m0, m1⟩ := own_log H8.out.logs i x HLG.out rfl
              have H9 := Lib.hid ((H8.out.setX 3 (.int .i64 ((r.armed : Int) - 1))).setX 1 (.int .i64 ((r.acts : Int) + 1)))
              have HY9 := Lib.hid ((HY8.out.away (p := ⟨w.heap.size, 3, none⟩) (by show _ ≠ _; simp only; omega) (.int .i64 ((r.armed : Int) - 1))).away (p := ⟨w.heap.size, 1, none⟩) (by show _ ≠ _; simp only; omega) (.int .i64 ((r.acts : Int) + 1)))
              go_upto_region 20 with fail
              generalize hw9 : (w8.setCell _ _).setCell _ _ = w9 at H9 HY9 ⊢
              clear hw9
              clear H8 HY8
              obtain ⟨y0, y1⟩ : w9.cell? ⟨w.heap.size + 1 + 1, 0, none⟩ = some (.string (txt us)) ∧ w9.cell? ⟨w.heap.size + 1 + 1, 1, none⟩ = some (.string (txt vs)) := ⟨HY9.out.cell 0, HY9.out.cell 1⟩
              clear b0 b1 b2 b3 b4 f0 f1 f2 f3 f4 lx hlx l0 l1 m0 m1
              obtain ⟨⟨b0, b1, b2, b3, b4⟩, ⟨f0, f1, f2, f3, f4⟩, lx⟩ := H9.out.x5
              obtain ⟨x1, hx1, hlx, l0, l1, m0, m1⟩ := own_log H9.out.logs i x HLG.out rfl
              injection hx1 with hx1
              injection hx1 with hx1 _ _
              subst hx1
              have H10 := Lib.hid (H9.out.setLog i ⟨us, vs⟩ HLN.out rfl)
              clear H9 HY9
              go_upto_region 21 with fail
              generalize hw10 : (w9.setCell _ _).setCell _ _ = w10 at H10 ⊢
              clear hw10 b0 b1 b2 b3 b4 f0 f1 f2 f3 f4 lx hlx l0 l1 m0 m1 y0 y1
              obtain ⟨⟨b0, b1, b2, b3, b4⟩, ⟨f0, f1, f2, f3, f4⟩, lx⟩ := H10.out.x5
              obtain ⟨⟨r0, r1, r2, r3, r4⟩, ⟨k0', k1', k2', k3', k4'⟩, lz⟩ := H10.out.z5
              go_wp2_with fail
              refine bodyPost_ret (by simp [results, Try.results40, go_sem, r0, r1, r2, r3, r4, k0', k1', k2', k3', k4']; try rfl) rfl ?_
              have H11 := H10.out.setZ5 (.slice (some ⟨x0, 0, none⟩) r.logs.length c1) (.int .i64 (r.acts + 1)) (.bool false) (.int .i64 ((r.armed : Int) - 1)) (.slice A2 r.keep.length c2)
              rw [HANS.out, HQ2.out]
              refine ⟨some ⟨x0, 0, none⟩, c1, A2, c2, ?_, H11.st.below, fun G _ => (HDL.out _ _ _ _ _ (Seen.own H11.logs) (Seen.own H11.keep)).mono fun b _ hb => .inr hb⟩
              have hv := HDN.out (some ⟨x0, 0, none⟩) c1 A2 c2
              rw [show ((r.acts + 1 : Nat) : Int) = (r.acts : Int) + 1 by omega, show ((r.armed - 1 : Nat) : Int) = ((r.armed : Int) - 1) by omega] at hv
              rw [hv]
            · have g3 : ¬ (1 : Int) < (r.armed : Int) := by omega
              go_wp2_with fail
              refine HCO.out.mono ?_
              rintro e w7 ⟨A1, c1, A2, c2, rfl, h7, hb7, hgl⟩
              rw [HOFF3.out]
              have hyl := (H6.out.knows.at 0 rfl).lt
              have hwy := (H6.out.knows.at 0 rfl).below hb7 hyl
              obtain ⟨⟨b0, b1, b2, b3, b4⟩, ⟨f0, f1, f2, f3, f4⟩, lx⟩ := h7.x5
              have H8 := Lib.hid (h7.setX5 (.slice A1 r.logs.length c1) (.int .i64 r.acts) (.bool false) (.int .i64 r.armed) (.slice A2 r.keep.length c2))
              have HY8 := Lib.hid (hwy.away5 (x := w.heap.size) (by omega) (.slice A1 r.logs.length c1) (.int .i64 r.acts) (.bool false) (.int .i64 r.armed) (.slice A2 r.keep.length c2))
              have HGL := Lib.hid (fun b hb => show b ≠ w.heap.size + 1 + 1 from fun e => by
                have h1 := hgl b hb
                omega)
              clear h7 HCO H6 hwy hb7 hgl hyl
              go_upto_region 17 with fail
              generalize hw8 : ((((w7.setCell _ _).setCell _ _).setCell _ _).setCell _ _).setCell _ _ = w8 at H8 HY8 ⊢
              clear hw8 b0 b1 b2 b3 b4 f0 f1 f2 f3 f4 lx
              obtain ⟨⟨b0, b1, b2, b3, b4⟩, ⟨f0, f1, f2, f3, f4⟩, lx⟩ := H8.out.x5
              obtain ⟨x0, rfl, hlx, l0, l1, m0, m1⟩ := own_log H8.out.logs i x HLG.out rfl
              have H9 := Lib.hid (H8.out.setX 1 (.int .i64 ((r.acts : Int) + 1)))
              have HY9 := Lib.hid (HY8.out.away (p := ⟨w.heap.size, 1, none⟩) (by show _ ≠ _; simp only; omega) (.int .i64 ((r.acts : Int) + 1)))
              go_upto_region 20 with fail
              generalize hw9 : w8.setCell _ _ = w9 at H9 HY9 ⊢
              clear hw9
              clear H8 HY8
              obtain ⟨y0, y1⟩ : w9.cell? ⟨w.heap.size + 1 + 1, 0, none⟩ = some (.string (txt us)) ∧ w9.cell? ⟨w.heap.size + 1 + 1, 1, none⟩ = some (.string (txt vs)) := ⟨HY9.out.cell 0, HY9.out.cell 1⟩
              clear b0 b1 b2 b3 b4 f0 f1 f2 f3 f4 lx hlx l0 l1 m0 m1
              obtain ⟨⟨b0, b1, b2, b3, b4⟩, ⟨f0, f1, f2, f3, f4⟩, lx⟩ := H9.out.x5
              obtain ⟨x1, hx1, hlx, l0, l1, m0, m1⟩ := own_log H9.out.logs i x HLG.out rfl
              injection hx1 with hx1
              injection hx1 with hx1 _ _
              subst hx1
              have H10 := Lib.hid (H9.out.setLog i ⟨us, vs⟩ HLN.out rfl)
              clear H9 HY9
              go_upto_region 21 with fail
              generalize hw10 : (w9.setCell _ _).setCell _ _ = w10 at H10 ⊢
              clear hw10 b0 b1 b2 b3 b4 f0 f1 f2 f3 f4 lx hlx l0 l1 m0 m1 y0 y1
              obtain ⟨⟨b0, b1, b2, b3, b4⟩, ⟨f0, f1, f2, f3, f4⟩, lx⟩ := H10.out.x5
              obtain ⟨⟨r0, r1, r2, r3, r4⟩, ⟨k0', k1', k2', k3', k4'⟩, lz⟩ := H10.out.z5
              go_wp2_with fail
              refine bodyPost_ret (by simp [results, Try.results40, go_sem, r0, r1, r2, r3, r4, k0', k1', k2', k3', k4']; try rfl) rfl ?_
              have H11 := H10.out.setZ5 (.slice (some ⟨x0, 0, none⟩) r.logs.length c1) (.int .i64 (r.acts + 1)) (.bool false) (.int .i64 (r.armed : Int)) (.slice A2 r.keep.length c2)
              rw [HANS.out, HQ2.out]
              refine ⟨some ⟨x0, 0, none⟩, c1, A2, c2, ?_, H11.st.below, fun G _ => (HDL.out _ _ _ _ _ (Seen.own H11.logs) (Seen.own H11.keep)).mono fun b _ hb => .inr hb⟩
              have hv := HDN.out (some ⟨x0, 0, none⟩) c1 A2 c2
              rw [show ((r.acts + 1 : Nat) : Int) = (r.acts : Int) + 1 by omega, show ((r.armed - 1 : Nat) : Int) = (r.armed : Int) by have := HONE.out; omega] at hv
              rw [hv]
  · have HQ : Hid (r.act kind log b = (r, 70)) := Lib.hid (by unfold Rf.act; rw [if_pos hin])
    have h2 : log < 0 ∨ (0 ≤ log ∧ (r.logs.length : Int) ≤ log) := by omega
    clear hm o hin
    unfold vM
    generalize r.logs.length = ln at *
    generalize r.acts = ac at *
    generalize r.off = of at *
    generalize r.armed = ar at *
    generalize r.keep.length = kn at *
    rcases h2 with h2 | ⟨h2, h3⟩
    all_goals
      go_enter Try.func40, Try.ntmps40
      go_wp2_with fail
      refine bodyPost_ret (by simp [results, Try.results40, go_sem]; try rfl) rfl ?_
      exact HSAME.out _ _ 70 HQ.out (by
        have hb := Below.refl w.heap.size w
        go_grown) rfl
end Go.Proofs.Ytlfigbgcackimaa
