/- The document's disk: its Crash. -/
import Derived.Test.YtlfigbgcackimaaDiskI
namespace Go.Dk
/-- The first j logs are cut. -/
def Rf.losing (r : Rf) (keep : List Int) (j : Nat) : List Lo := r.logs.mapIdx fun i l => if i < j then l.cut (keep.getD i 0) else l
theorem Rf.losing_zero (r : Rf) (keep : List Int) : r.losing keep 0 = r.logs := by
  unfold Rf.losing
  apply List.ext_getElem?
  intro i
  simp
theorem Rf.losing_at (r : Rf) (keep : List Int) (j : Nat) {l : Lo} (h : r.logs[j]? = some l) : (r.losing keep j)[j]? = some l := by
  unfold Rf.losing
  simp [h]
theorem Rf.losing_next (r : Rf) (keep : List Int) (j : Nat) {l : Lo} (h : r.logs[j]? = some l) : (r.losing keep j).set j (l.cut (keep.getD j 0)) = r.losing keep (j + 1) := by
  unfold Rf.losing
  apply List.ext_getElem?
  intro i
  by_cases e : i = j
  · subst e
    have hl := (List.getElem?_eq_some_iff.1 h).1
    rw [List.getElem?_set_self (by simpa using hl)]
    simp [h]
  · rw [List.getElem?_set_ne (Ne.symm e)]
    simp only [List.getElem?_mapIdx]
    by_cases e2 : i < j
    · simp only [if_pos e2, if_pos (show i < j + 1 by omega)]
    · simp only [if_neg e2, if_neg (show ¬ i < j + 1 by omega)]
theorem Rf.losing_end (r : Rf) (keep : List Int) (ho : r.off = false) : r.losing keep r.logs.length = (r.crash keep).logs := by
  unfold Rf.losing Rf.crash
  rw [if_neg (by simp [ho])]
  apply List.ext_getElem?
  intro i
  simp only [List.getElem?_mapIdx]
  cases h : r.logs[i]? with
  | none => rfl
  | some c =>
    have hl := (List.getElem?_eq_some_iff.1 h).1
    simp only [if_pos hl]
theorem Rf.losing_length (r : Rf) (keep : List Int) (j : Nat) : (r.losing keep j).length = r.logs.length := by simp [Rf.losing]
theorem Rf.crash_len (r : Rf) (keep : List Int) : (r.crash keep).logs.length = r.logs.length := by unfold Rf.crash; split <;> simp
end Go.Dk
namespace Go.Proofs.Ytlfigbgcackimaa
open Go.RowKit Go.Dk
set_option linter.unusedVariables false
set_option linter.unusedSimpArgs false
set_option maxRecDepth 100000

theorem txt_take (l : List UInt8) (k : Nat) (hk : k ≤ l.length) : (txt l).extract 0 k = txt (l.take k) := by
  unfold txt
  apply ByteArray.ext
  simp
theorem Sm.drew {W w : World} {x z n m c1 c2 : Nat} {cx cz : Array Value} {A1 A2 : Option Addr} {fl kl : List Value} (h : Sm W w x z cx cz n A1 c1 fl m A2 c2 kl) : Sm W w.drew x z cx cz n A1 c1 fl m A2 c2 kl :=
  ⟨h.st.drewN 1, h.hx, h.hz, h.ne, h.logs, h.keep⟩
/-- A log that is owned beside boxes is set. -/
theorem Sm.setLog {W w : World} {x z n m c1 c2 g : Nat} {cx cz : Array Value} {A2 : Option Addr} {l : List Lo} {kl : List Value} (h : Sm W w x z cx cz n (some ⟨g, 0, none⟩) c1 (flat encL l) m A2 c2 kl) (i : Nat) (v : Lo) (hi : i < l.length) (hn : n = l.length) :
    Sm W ((w.setCell ⟨g, i * 2, none⟩ (.string (txt v.sure))).setCell ⟨g, i * 2 + 1, none⟩ (.string (txt v.loose))) x z cx cz n (some ⟨g, 0, none⟩) c1 (flat encL (l.set i v)) m A2 c2 kl := by
  subst hn
  obtain ⟨cs, hcs⟩ := own_block h.logs rfl
  have hgx : x ≠ g := whole_unlike (h.st.knows.at 0 rfl) hcs (by decide)
  have hgz : z ≠ g := whole_unlike (h.st.knows.at 1 rfl) hcs (by decide)
  have hlo := (h.logs.lt g rfl).1
  refine ⟨⟨(h.st.below.setCell (p := ⟨g, i * 2, none⟩) hlo _).setCell (p := ⟨g, i * 2 + 1, none⟩) hlo _, fun r hr => ?_⟩, h.hx, h.hz, h.ne, own_setLog h.logs i v hi, ?_⟩
  · simp only [List.mem_cons, List.not_mem_nil, or_false] at hr
    rcases hr with rfl | rfl
    · exact ((h.st.knows.at 0 rfl).away (p := ⟨g, i * 2, none⟩) hgx _).away (p := ⟨g, i * 2 + 1, none⟩) hgx _
    · exact ((h.st.knows.at 1 rfl).away (p := ⟨g, i * 2, none⟩) hgz _).away (p := ⟨g, i * 2 + 1, none⟩) hgz _
  · exact own_unlike (own_unlike h.keep hcs (by decide) _ _) (hcs.set (i * 2) _) (by decide) _ _
/-- What an owned row of logs shows. -/
theorem own_log {w : World} {B n c : Nat} {A : Option Addr} {l : List Lo} (h : w.ownsRow B 91 2 (.slice A n c) n (flat encL l)) (i : Nat) (v : Lo) (hi : l[i]? = some v) (hn : n = l.length) :
    ∃ g, A = some ⟨g, 0, none⟩ ∧ g < w.heap.size ∧ w.cell? ⟨g, i * 2, none⟩ = some (.string (txt v.sure)) ∧ w.cell? ⟨g, i * 2 + 1, none⟩ = some (.string (txt v.loose)) ∧ w.frozen? ⟨g, i * 2, none⟩ = false ∧ w.frozen? ⟨g, i * 2 + 1, none⟩ = false := by
  subst hn
  have hlt := (List.getElem?_eq_some_iff.1 hi).1
  obtain ⟨b, off, hA, hb, q0, q1⟩ := (Seen.own h).item i v hi
  rcases h.2 with ⟨hv, h0⟩ | ⟨g, cap, cur, hv, -, hh, -⟩
  · omega
  · simp only [Value.slice.injEq] at hv
    obtain ⟨rfl, -, -⟩ := hv
    injection hA with hA
    injection hA with e1 e2
    subst e1 e2
    rw [Nat.zero_add] at q0 q1
    have hw : Whole w g _ cur := hh
    exact ⟨g, rfl, hw.lt, q0, q1, hw.free _, hw.free _⟩

set_option maxHeartbeats 2000000 in
theorem rcrash_any (r : Rf) (o : Rok r) (G : Nat → Prop) (AL : Option Addr) (cL : Nat) (AK : Option Addr) (cK : Nat) (A : Option Addr) (cap : Nat) (keep : List Int) (hrg : ∀ n ∈ keep, W64 n) (htop : keep.length ≤ 9223372036854775807) (w : World) (hm : IsM G w AL cL AK cK r) (B : Nat) (hB : B ≤ w.heap.size) (hs : Sees w B 1 A keep.length (ints keep)) :
    Calls Try.prog 39 #[vM AL cL AK cK r, .slice A keep.length cap] w fun e w' => ∃ A1 c1 A2 c2, e = .returned (vM A1 c1 A2 c2 (r.crash keep)) ∧ Below w.heap.size w w' ∧ IsM (fun b => w.heap.size ≤ b) w' A1 c1 A2 c2 (r.crash keep) := by
  have HCC := Lib.hid (Sm.copy r o G hm (((St.start w).alloc w.heap.size rfl 30 #[.slice AL r.logs.length cL, .int .i64 r.acts, .bool r.off, .int .i64 r.armed, .slice AK r.keep.length cK]).alloc (w.heap.size + 1) (by simp) 30 #[.slice none 0 0, .int .i64 0, .bool false, .int .i64 0, .slice none 0 0] |>.few fun r hr => by simp only [List.mem_cons, List.not_mem_nil, or_false] at hr ⊢; exact hr.symm) (Nat.le_refl _) (by omega) (by omega))
  have HB := Lib.hid (fun w' (hb : Below w.heap.size w w') => (hs.below (hb.mono hB)))
  have HR := Lib.hid hrg
  have HLO := Lib.hid o.logs
  have hf := o.few
  have HRL := Lib.hid (fun i (l : Lo) (h : r.logs[i]? = some l) => Lib.hid (o.logs l (List.mem_of_getElem? h)))
  have HEND := Lib.hid (r.losing_end keep)
  have HCL := Lib.hid (r.crash_len keep)
  have HLL := Lib.hid (r.losing_length keep)
  clear hm o hs hrg
  unfold vM at HCC ⊢
  cases hof : r.off with
  | true =>
    have hq : r.crash keep = r := by unfold Rf.crash; rw [if_pos hof]
    have HQ : Hid (∀ w' A1 c1 A2 c2, Below w.heap.size w w' → Seen (fun b => w.heap.size ≤ b) w' 2 A1 r.logs.length c1 (flat encL r.logs) → Seen (fun b => w.heap.size ≤ b) w' 1 A2 r.keep.length c2 (ints r.keep) →
        ∃ A1' c1' A2' c2', Ending.returned (.agg #[.slice A1 r.logs.length c1, .int .i64 r.acts, .bool true, .int .i64 r.armed, .slice A2 r.keep.length c2]) = .returned (vM A1' c1' A2' c2' (r.crash keep)) ∧ Below w.heap.size w w' ∧ IsM (fun b => w.heap.size ≤ b) w' A1' c1' A2' c2' (r.crash keep)) := Lib.hid fun w' A1 c1 A2 c2 hb h1 h2 => by
      refine ⟨A1, c1, A2, c2, ?_, hb, ?_⟩
      · rw [hq]; unfold vM; rw [hof]
      · rw [hq]; exact ⟨h1, h2⟩
    rw [hof] at HCC
    clear HEND HCL HLL HRL HR HB HLO hq hof
    generalize flat encL r.logs = fl at *
    generalize ints r.keep = kl0 at *
    generalize r.logs.length = ln at *
    generalize r.keep.length = kn at *
    generalize r.acts = ac at *
    generalize r.armed = ar at *
    generalize r.crash keep = q at *
    generalize keep.length = m at *
    go_enter Try.func39, Try.ntmps39
    go_wp2_with fail
    refine HCC.out.mono ?_
    rintro e w1 ⟨A1, c1, A2, c2, rfl, h1⟩
    obtain ⟨⟨b0, b1, b2, b3, b4⟩, ⟨f0, f1, f2, f3, f4⟩, lx⟩ := h1.x5
    have H1 := Lib.hid (h1.setX5 (.slice A1 ln c1) (.int .i64 ac) (.bool true) (.int .i64 ar) (.slice A2 kn c2))
    clear h1
    go_upto_region 2 with fail
    generalize (((((w1.setCell ⟨w.heap.size, 0, none⟩ (.slice A1 ln c1)).setCell ⟨w.heap.size, 1, none⟩ (.int .i64 ac)).setCell ⟨w.heap.size, 2, none⟩ (.bool true)).setCell ⟨w.heap.size, 3, none⟩ (.int .i64 ar)).setCell ⟨w.heap.size, 4, none⟩ (.slice A2 kn c2)) = w2 at *
    clear b0 b1 b2 b3 b4 f0 f1 f2 f3 f4 lx w1
    obtain ⟨⟨b0, b1, b2, b3, b4⟩, ⟨f0, f1, f2, f3, f4⟩, lx⟩ := H1.out.x5
    obtain ⟨⟨r0, r1, r2, r3, r4⟩, ⟨k0, k1, k2, k3, k4⟩, lz⟩ := H1.out.z5
    go_wp2_with fail
    refine bodyPost_ret (by simp [results, Try.results39, go_sem, r0, r1, r2, r3, r4, k0, k1, k2, k3, k4]; try rfl) rfl ?_
    have H6 := H1.out.setZ5 (.slice A1 ln c1) (.int .i64 ac) (.bool true) (.int .i64 ar) (.slice A2 kn c2)
    exact HQ.out _ _ _ _ _ H6.st.below (Seen.own H6.logs) (Seen.own H6.keep)
  | false =>
    replace HEND := Lib.hid (HEND.out hof)
    have HQ : Hid (∀ w' A1 c1 A2 c2, Below w.heap.size w w' → Seen (fun b => w.heap.size ≤ b) w' 2 A1 r.logs.length c1 (flat encL (r.crash keep).logs) → Seen (fun b => w.heap.size ≤ b) w' 1 A2 r.keep.length c2 (ints r.keep) →
        ∃ A1' c1' A2' c2', Ending.returned (.agg #[.slice A1 r.logs.length c1, .int .i64 r.acts, .bool true, .int .i64 0, .slice A2 r.keep.length c2]) = .returned (vM A1' c1' A2' c2' (r.crash keep)) ∧ Below w.heap.size w w' ∧ IsM (fun b => w.heap.size ≤ b) w' A1' c1' A2' c2' (r.crash keep)) := Lib.hid fun w' A1 c1 A2 c2 hb h1 h2 => by
      have e : r.crash keep = ⟨(r.crash keep).logs, r.acts, true, 0, r.keep⟩ := by unfold Rf.crash; rw [if_neg (by simp [hof])]
      refine ⟨A1, c1, A2, c2, ?_, hb, ⟨?_, ?_⟩⟩
      · unfold vM; rw [HCL.out, e]; rfl
      · rw [HCL.out]; exact h1
      · rw [e]; exact h2
    rw [hof] at HCC
    have H0 := Lib.hid (r.losing_zero keep)
    generalize ints r.keep = kl0 at *
    generalize r.keep.length = kn at *
    generalize r.acts = ac at *
    generalize r.armed = ar at *
    have HLN : Hid (r.logs.length = r.logs.length) := Lib.hid rfl
    generalize hln : r.logs.length = ln at HCC HQ HEND HCL HLL HLN hf ⊢
    go_enter Try.func39, Try.ntmps39
    go_wp2_with fail
    refine HCC.out.mono ?_
    rintro e w1 ⟨A1, c1, A2, c2, rfl, h1⟩
    obtain ⟨⟨b0, b1, b2, b3, b4⟩, ⟨f0, f1, f2, f3, f4⟩, lx⟩ := h1.x5
    have H1 := Lib.hid (h1.setX5 (.slice A1 ln c1) (.int .i64 ac) (.bool false) (.int .i64 ar) (.slice A2 kn c2))
    clear h1
    go_upto_region 2 with fail
    generalize (((((w1.setCell ⟨w.heap.size, 0, none⟩ (.slice A1 ln c1)).setCell ⟨w.heap.size, 1, none⟩ (.int .i64 ac)).setCell ⟨w.heap.size, 2, none⟩ (.bool false)).setCell ⟨w.heap.size, 3, none⟩ (.int .i64 ar)).setCell ⟨w.heap.size, 4, none⟩ (.slice A2 kn c2)) = w2 at *
    clear b0 b1 b2 b3 b4 f0 f1 f2 f3 f4 lx w1
    obtain ⟨⟨b0, b1, b2, b3, b4⟩, ⟨f0, f1, f2, f3, f4⟩, lx⟩ := H1.out.x5
    go_wp2_with fail
    rw [← H0.out] at H1
    clear b0 b1 b2 b3 b4 f0 f1 f2 f3 f4 lx HCC
    go_loopw [5] (fun i wr => ∃ j : Nat, j ≤ ln ∧ i = .int .i64 (j : Int) ∧ Sm w wr w.heap.size (w.heap.size + 1) #[.slice A1 ln c1, .int .i64 ac, .bool false, .int .i64 ar, .slice A2 kn c2] #[.slice none 0 0, .int .i64 0, .bool false, .int .i64 0, .slice none 0 0] ln A1 c1 (flat encL (r.losing keep j)) kn A2 c2 kl0) (fun i _ => ln - (intOf i).toNat)
    case atStart => exact ⟨0, by omega, rfl, H1.out⟩
    case round =>
      obtain ⟨j, hj, rfl, hsm⟩ := hrel
      have HSM := Lib.hid hsm
      obtain ⟨⟨b0, b1, b2, b3, b4⟩, ⟨f0, f1, f2, f3, f4⟩, lx⟩ := hsm.x5
      obtain ⟨⟨r0, r1, r2, r3, r4⟩, ⟨k0, k1, k2, k3, k4⟩, lz⟩ := hsm.z5
      clear hsm H1
      by_cases hlt : j < ln
      · obtain ⟨v, hv⟩ : ∃ v, r.logs[j]? = some v := ⟨_, List.getElem?_eq_getElem (by omega)⟩
        have hvl := (HRL.out j v hv).out
        have HNX := Lib.hid (r.losing_next keep j hv)
        obtain ⟨g, rfl, hg, q0, q1, q2, q3⟩ := own_log HSM.out.logs j v (r.losing_at keep j hv) (by rw [HLL.out])
        have hjl : (j : Int) < (ln : Int) := by omega
        have hs1 : (txt v.sure).size = v.sure.length := txt_size _
        have hs2 : (txt v.loose).size = v.loose.length := txt_size _
        have ways : ∃ k : Nat, k = min (max (keep.getD j 0) 0).toNat v.loose.length ∧ ((¬ j < keep.length ∧ k = 0) ∨ (j < keep.length ∧ ((∃ kv, keep[j]? = some kv ∧ ¬ 0 < kv ∧ k = 0) ∨ (∃ kv, keep[j]? = some kv ∧ 0 < kv ∧ (v.loose.length : Int) < kv ∧ k = v.loose.length) ∨ ∃ kv, keep[j]? = some kv ∧ 0 < kv ∧ ¬ (v.loose.length : Int) < kv ∧ kv = k))) := by
          refine ⟨_, rfl, ?_⟩
          by_cases hk : j < keep.length
          · have hk2 : keep[j]? = some keep[j] := List.getElem?_eq_getElem hk
            have hg : keep.getD j 0 = keep[j] := by simp [hk2]
            rw [hg]
            generalize keep[j] = kv at *
            refine .inr ⟨hk, ?_⟩
            by_cases h1 : 0 < kv
            · by_cases h2 : (v.loose.length : Int) < kv
              · exact .inr (.inl ⟨kv, hk2, h1, h2, by omega⟩)
              · exact .inr (.inr ⟨kv, hk2, h1, h2, by omega⟩)
            · exact .inl ⟨kv, hk2, h1, by omega⟩
          · refine .inl ⟨hk, ?_⟩
            simp [List.getElem?_eq_none (Nat.le_of_not_lt hk)]
        obtain ⟨k, hk0, ways⟩ := ways
        have HK : Hid (v.cut (keep.getD j 0) = ⟨v.sure ++ v.loose.take k, []⟩) := Lib.hid (by unfold Lo.cut; rw [hk0])
        have hkl : k ≤ v.loose.length := by rw [hk0]; exact Nat.min_le_right _ _
        have HT := Lib.hid (txt_take v.loose k hkl)
        have HJ := Lib.hid (txt_join v.sure (v.loose.take k))
        have hsx : ((txt v.loose).extract 0 k).size = k := by rw [HT.out, txt_size, List.length_take]; omega
        have hsee := Lib.hid (HB.out _ HSM.out.st.below)
        rw [HK.out] at HNX
        clear hk0 HK hv
        have HS2 := Lib.hid (HNX.out ▸ HSM.out.setLog j ⟨v.sure ++ v.loose.take k, []⟩ (by rw [HLL.out]; exact hlt) (by rw [HLL.out]))
        have hem : txt [] = ⟨#[]⟩ := rfl
        simp only [hem] at HS2
        rcases ways with ⟨hk, rfl⟩ | ⟨hk, ⟨kv, hkv, h1, rfl⟩ | ⟨kv, hkv, h1, h2, rfl⟩ | ⟨kv, hkv, h1, h2, rfl⟩⟩
        · have hk2 : ¬ ((j : Int) < (keep.length : Int)) := by omega
          go_upto_region 12 with fail
          go_region
          go_wp2_with fail
          go_roundw
          case rel =>
            refine ⟨j + 1, by omega, by go_num, ?_⟩
            have h3 := HS2.out.drew
            rw [← HJ.out, ← HT.out] at h3
            first
              | exact h3
              | simpa using h3
          case measure => simp [intOf]; omega
        · have hk2 : (j : Int) < (keep.length : Int) := by omega
          obtain ⟨b, off, rfl, hb, hcell⟩ := hsee.out.int j kv hkv
          go_upto_region 12 with fail
          go_region
          go_wp2_with fail
          go_roundw
          case rel =>
            refine ⟨j + 1, by omega, by go_num, ?_⟩
            have h3 := HS2.out.drew
            rw [← HJ.out, ← HT.out] at h3
            first
              | exact h3
              | simpa using h3
          case measure => simp [intOf]; omega
        · have hk2 : (j : Int) < (keep.length : Int) := by omega
          obtain ⟨b, off, rfl, hb, hcell⟩ := hsee.out.int j kv hkv
          go_upto_region 12 with fail
          go_region
          go_wp2_with fail
          go_roundw
          case rel =>
            refine ⟨j + 1, by omega, by go_num, ?_⟩
            have h3 := HS2.out.drew
            rw [← HJ.out, ← HT.out] at h3
            first
              | exact h3
              | simpa using h3
          case measure => simp [intOf]; omega
        · have hk2 : (j : Int) < (keep.length : Int) := by omega
          have hkI : (k : Int) ≤ (v.loose.length : Int) := by omega
          obtain ⟨b, off, rfl, hb, hcell⟩ := hsee.out.int j k hkv
          go_upto_region 12 with fail
          go_region
          go_wp2_with fail
          go_roundw
          case rel =>
            refine ⟨j + 1, by omega, by go_num, ?_⟩
            have h3 := HS2.out.drew
            rw [← HJ.out, ← HT.out] at h3
            first
              | exact h3
              | simpa using h3
          case measure => simp [intOf]; omega
      · obtain rfl : j = ln := by omega
        clear HLO HRL
        rw [HEND.out] at HSM
        go_upto_region 14 with fail
        have H4 := Lib.hid ((HSM.out.setX 2 (.bool true)).setX 3 (.int .i64 0))
        generalize (wr.setCell ⟨w.heap.size, 2, none⟩ (.bool true)).setCell ⟨w.heap.size, 3, none⟩ (.int .i64 0) = w5 at *
        clear b0 b1 b2 b3 b4 f0 f1 f2 f3 f4 lx r0 r1 r2 r3 r4 k0 k1 k2 k3 k4 lz HSM
        obtain ⟨⟨b0, b1, b2, b3, b4⟩, ⟨f0, f1, f2, f3, f4⟩, lx⟩ := H4.out.x5
        obtain ⟨⟨r0, r1, r2, r3, r4⟩, ⟨k0, k1, k2, k3, k4⟩, lz⟩ := H4.out.z5
        go_wp2_with fail
        refine bodyPost_ret (by simp [results, Try.results39, go_sem, r0, r1, r2, r3, r4, k0, k1, k2, k3, k4]; try rfl) rfl ?_
        have H6 := H4.out.setZ5 (.slice A1 j c1) (.int .i64 ac) (.bool true) (.int .i64 0) (.slice A2 kn c2)
        exact HQ.out _ _ _ _ _ H6.st.below (Seen.own H6.logs) (Seen.own H6.keep)
end Go.Proofs.Ytlfigbgcackimaa
