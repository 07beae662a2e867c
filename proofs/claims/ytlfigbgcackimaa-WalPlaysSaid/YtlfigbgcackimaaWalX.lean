/- The document's wal: its Act, where the disk is asked. -/
import Derived.Test.YtlfigbgcackimaaWalT
namespace Go.Proofs.Ytlfigbgcackimaa
open Go.RowKit Go.Fm Go.Dk Go.Wl
set_option linter.unusedVariables false
set_option linter.unusedSimpArgs false
set_option maxRecDepth 100000

theorem Off.drew {F : Nat → Prop} {a w : World} (h : Off F a w) : Off F a w.drew := h.drewN 1
set_option maxHeartbeats 8000000 in
theorem ract_err (r : Rf) (o : Rok r) (u : Rw) (hd : u.dead = false) (G0 : Nat → Prop) (AL : Option Addr) (cL : Nat) (AK : Option Addr) (cK : Nat) (AV : Option Addr) (cV : Nat) (kind : Int) (hk : W64 kind) (hlog : W64 u.log) (B : Nat) (A : Option Addr) (cap : Nat) (ls : List (List UInt8)) (w : World)
    (hs : Sees w B 1 A ls.length (strs ls)) (hB : B ≤ w.heap.size) (hl : ls.length ≤ 1000) (hlen : ∀ l ∈ ls, l.length ≤ 9223372036854775807) (hlo : ¬ Long ls) (hfr : (frames ls).length ≤ 4194304) (hm : IsM G0 w AL cL AK cK r) (he : (r.act kind u.log (frames ls)).2 ≠ 0) :
    Calls Try.prog 36 #[vM AL cL AK cK r, vW AV cV u, .int .i64 kind, .slice A ls.length cap] w (RActs w r u AL cL AK cK AV cV ((r.act kind u.log (frames ls)).1, u.met (r.act kind u.log (frames ls)).2, (r.act kind u.log (frames ls)).2)) := by
  have HF := Lib.hid (fun w' (hb : Below w.heap.size w w') => rframes_any B A cap ls w' (hs.below (hb.mono hB)) (Nat.le_trans hB hb.size) hl hlen)
  have HRA := Lib.hid (fun w' (hb : Below w.heap.size w w') => ract_any r o G0 AL cL AK cK kind hk u.log hlog (frames ls) hfr w' (hm.call hb))
  have HLO := Lib.hid hlo
  have HT : Hid (∀ w1 w2 wf A1 c1 A2 c2, Below w.heap.size w w1 → w.heap.size + 4 ≤ w1.heap.size → Below w1.heap.size w1 w2 → (∀ G, IsM G w1 AL cL AK cK r → IsM (fun b => G b ∨ w1.heap.size ≤ b) w2 A1 c1 A2 c2 (r.act kind u.log (frames ls)).1) → Off (Box w) w2 wf →
      RActs w r u AL cL AK cK AV cV ((r.act kind u.log (frames ls)).1, u.met (r.act kind u.log (frames ls)).2, (r.act kind u.log (frames ls)).2) (.returned (.tuple #[vM A1 c1 A2 c2 (r.act kind u.log (frames ls)).1, .agg #[.int .i64 u.log, .slice AV u.ls.length cV, .int .i64 u.sure, .bool (u.met (r.act kind u.log (frames ls)).2).dead], .int .i64 (r.act kind u.log (frames ls)).2])) wf) := Lib.hid fun w1 w2 wf A1 c1 A2 c2 hb1 h4 hb2 hmm ho => by
    have hls : (u.met (r.act kind u.log (frames ls)).2).ls = u.ls := by unfold Rw.met; split <;> rfl
    have := racts_told (u' := u.met (r.act kind u.log (frames ls)).2) (E := (r.act kind u.log (frames ls)).2) (AV := AV) (cV := cV) (u := u) (A3 := AV) (c3 := cV) (wl := w2) hb1 h4 hb2 hmm ho (.inl ⟨rfl, rfl, hls⟩)
    have e : vW AV cV (u.met (r.act kind u.log (frames ls)).2) = .agg #[.int .i64 u.log, .slice AV u.ls.length cV, .int .i64 u.sure, .bool (u.met (r.act kind u.log (frames ls)).2).dead] := by
      unfold Rw.met; split <;> rfl
    rwa [e] at this
  have HD1 : Hid ((r.act kind u.log (frames ls)).2 = 71 → (u.met (r.act kind u.log (frames ls)).2).dead = true) := Lib.hid fun h => by unfold Rw.met; rw [if_pos h]
  have HD2 : Hid ((r.act kind u.log (frames ls)).2 ≠ 71 → (u.met (r.act kind u.log (frames ls)).2).dead = false) := Lib.hid fun h => by unfold Rw.met; rw [if_neg h]; exact hd
  have HE := Lib.hid he
  have H0 := ((((St.start w).alloc w.heap.size rfl 30 #[.slice AL r.logs.length cL, .int .i64 r.acts, .bool r.off, .int .i64 r.armed, .slice AK r.keep.length cK]).alloc (w.heap.size + 1) (by simp) 37 #[.int .i64 u.log, .slice AV u.ls.length cV, .int .i64 u.sure, .bool false]).alloc (w.heap.size + 2) (by simp) 30 #[.slice none 0 0, .int .i64 0, .bool false, .int .i64 0, .slice none 0 0]).alloc (w.heap.size + 3) (by simp) 37 #[.int .i64 0, .slice none 0 0, .int .i64 0, .bool false]
  have HST := Lib.hid (H0.few (L' := bxL w.heap.size #[.slice AL r.logs.length cL, .int .i64 r.acts, .bool r.off, .int .i64 r.armed, .slice AK r.keep.length cK] #[.int .i64 u.log, .slice AV u.ls.length cV, .int .i64 u.sure, .bool false]) (fun r hr => by
    simp only [List.mem_cons, List.not_mem_nil, or_false] at hr ⊢
    rcases hr with h | h | h | h <;> simp [h]))
  clear H0 hs hlen hlo hm o he
  unfold vM vW at *
  rw [hd] at *
  generalize (u.met (r.act kind u.log (frames ls)).2) = um at *
  generalize (r.act kind u.log (frames ls)) = R at *
  generalize frames ls = fr at *
  generalize r.logs.length = a0 at *
  generalize r.acts = a1 at *
  generalize r.off = a2 at *
  generalize r.armed = a3 at *
  generalize r.keep.length = a4 at *
  generalize u.log = u0 at *
  generalize u.ls.length = u1 at *
  generalize u.sure = u2 at *
  generalize ls.length = n at *
  go_enter Try.func36, Try.ntmps36
  go_wp2_with fail
  refine (HF.out _ HST.out.below).mono ?_
  rintro e w1 ⟨hb, -, hx⟩
  obtain rfl := hx HLO.out
  have H1 := Lib.hid (HST.out.call hb)
  obtain ⟨⟨k0, k1, k2, k3⟩, k4, k5, k6, k7⟩ := (H1.out.knows.at 1 rfl).four
  obtain ⟨⟨m0, m1, m2, m3, m4⟩, m5, m6, m7, m8, m9⟩ := (H1.out.knows.at 0 rfl).five
  have z3 := (H1.out.knows.at 3 rfl).lt
  clear hb hx HF HST
  go_wp2_with fail
  refine (HRA.out _ H1.out.below).mono ?_
  rintro e w2 ⟨A1, c1, A2, c2, rfl, hb2, hmm⟩
  have HB2 := Lib.hid hb2
  have HMM := Lib.hid hmm
  have hzs : Zs w w2 w2 _ _ := ⟨H1.out.call hb2, Off.refl _ _⟩
  obtain ⟨⟨⟨k0, k1, k2, k3, k4⟩, k5, k6, k7, k8, k9⟩, ⟨⟨m0, m1, m2, m3⟩, m4, m5, m6, m7⟩, z4⟩ := hzs.facts
  have HB1 : Hid (Below w.heap.size w w1) := Lib.hid H1.out.below
  clear hb2 hmm HRA
  unfold vM at *
  have hq3 := Lib.hid (hzs.m5 (.slice A1 R.1.logs.length c1) (.int .i64 R.1.acts) (.bool R.1.off) (.int .i64 R.1.armed) (.slice A2 R.1.keep.length c2))
  clear hzs H1
  have z2 := HB2.out.size
  rcases (show R.2 = 71 ∨ R.2 ≠ 71 by omega) with h71 | h71
  · have HDD := Lib.hid (HD1.out h71)
    have H71 := Lib.hid h71
    rw [HDD.out, h71] at HT
    go_upto_region 7 with fail
    generalize (((((w2.setCell ⟨w.heap.size, 0, none⟩ (.slice A1 R.1.logs.length c1)).setCell ⟨w.heap.size, 1, none⟩ (.int .i64 R.1.acts)).setCell ⟨w.heap.size, 2, none⟩ (.bool R.1.off)).setCell ⟨w.heap.size, 3, none⟩ (.int .i64 R.1.armed)).setCell ⟨w.heap.size, 4, none⟩ (.slice A2 R.1.keep.length c2)) = w3 at *
    clear k0 k1 k2 k3 k4 k5 k6 k7 k8 k9 m0 m1 m2 m3 m4 m5 m6 m7 z4
    obtain ⟨⟨⟨k0, k1, k2, k3, k4⟩, k5, k6, k7, k8, k9⟩, ⟨⟨m0, m1, m2, m3⟩, m4, m5, m6, m7⟩, z4⟩ := hq3.out.facts
    have hq4 := Lib.hid (hq3.out.uk 3 (.bool true))
    simp only [List.setIfInBounds_toArray, List.set_cons_succ, List.set_cons_zero] at hq4
    go_upto_region 9 with fail
    generalize w3.setCell ⟨w.heap.size + 1, 3, none⟩ (.bool true) = w4 at *
    clear k0 k1 k2 k3 k4 k5 k6 k7 k8 k9 m0 m1 m2 m3 m4 m5 m6 m7 z4 hq3
    obtain ⟨⟨⟨k0, k1, k2, k3, k4⟩, k5, k6, k7, k8, k9⟩, ⟨⟨m0, m1, m2, m3⟩, m4, m5, m6, m7⟩, z4⟩ := hq4.out.facts
    obtain ⟨⟨⟨n0, n1, n2, n3, n4⟩, n5, n6, n7, n8, n9⟩, ⟨⟨o0, o1, o2, o3⟩, o4, o5, o6, o7⟩⟩ := hq4.out.outs
    go_wp2_with fail
    go_region
    all_goals
      go_wp2_with fail
      refine bodyPost_ret (by simp [results, Try.results36, go_sem, n0, n1, n2, n3, n4, o0, o1, o2, o3]; try rfl) rfl ?_
      rw [H71.out]
      refine HT.out w1 w2 _ A1 c1 A2 c2 HB1.out (by omega) HB2.out HMM.out ?_
      repeat with_reducible first
        | exact hq4.out.off
        | refine Off.drew ?_
        | refine Off.set ?_ (.inl (box_at w 2 (by omega))) _
        | refine Off.set ?_ (.inl (box_at w 3 (by omega))) _
  · have hdd := HD2.out h71
    have HDD := Lib.hid hdd
    have q71 : (R.2 == 71) = false := by simpa using h71
    have q0 : (R.2 != 0) = true := by simpa using HE.out
    rw [hdd] at HT
    clear hdd h71
    go_upto_region 7 with fail
    generalize (((((w2.setCell ⟨w.heap.size, 0, none⟩ (.slice A1 R.1.logs.length c1)).setCell ⟨w.heap.size, 1, none⟩ (.int .i64 R.1.acts)).setCell ⟨w.heap.size, 2, none⟩ (.bool R.1.off)).setCell ⟨w.heap.size, 3, none⟩ (.int .i64 R.1.armed)).setCell ⟨w.heap.size, 4, none⟩ (.slice A2 R.1.keep.length c2)) = w3 at *
    clear k0 k1 k2 k3 k4 k5 k6 k7 k8 k9 m0 m1 m2 m3 m4 m5 m6 m7 z4
    obtain ⟨⟨⟨k0, k1, k2, k3, k4⟩, k5, k6, k7, k8, k9⟩, ⟨⟨m0, m1, m2, m3⟩, m4, m5, m6, m7⟩, z4⟩ := hq3.out.facts
    obtain ⟨⟨⟨n0, n1, n2, n3, n4⟩, n5, n6, n7, n8, n9⟩, ⟨⟨o0, o1, o2, o3⟩, o4, o5, o6, o7⟩⟩ := hq3.out.outs
    go_wp2_with fail
    go_region
    all_goals
      go_wp2_with fail
      refine bodyPost_ret (by simp [results, Try.results36, go_sem, n0, n1, n2, n3, n4, o0, o1, o2, o3]; try rfl) rfl ?_
      refine HT.out w1 w2 _ A1 c1 A2 c2 HB1.out (by omega) HB2.out HMM.out ?_
      repeat with_reducible first
        | exact hq3.out.off
        | refine Off.drew ?_
        | refine Off.set ?_ (.inl (box_at w 2 (by omega))) _
        | refine Off.set ?_ (.inl (box_at w 3 (by omega))) _
end Go.Proofs.Ytlfigbgcackimaa
