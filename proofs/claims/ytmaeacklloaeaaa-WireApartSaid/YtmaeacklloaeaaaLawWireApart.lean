/- Unlike values have unlike bytes, none of which begins with the other one's: WireApart answers true at every two values. No condition. -/
import Derived.Test.YtmaeacklloaeaaaWireZ
namespace Go.Proofs.Ytmaeacklloaeaaa.wireApart
open Go.ChangeShapes Go.WideShapes Go.ChangeAt Go.RowKit Go.Fl Go.Wr
set_option linter.unusedVariables false
set_option linter.unusedSimpArgs false

/-- Both boxed values are there, and nothing old has changed. -/
def Boxes (W : World) (x y : Val) (w0 : World) : Prop :=
  Whole w0 W.heap.size 36 #[.int .i64 x.k, .int .u64 x.u, .int .i64 x.i, .float .f64 x.f, .string x.s] ∧
  Whole w0 (W.heap.size + 1) 36 #[.int .i64 y.k, .int .u64 y.u, .int .i64 y.i, .float .f64 y.f, .string y.s] ∧ Below W.heap.size W w0
theorem Boxes.keep {W w0 w1 : World} {x y : Val} (h : Boxes W x y w0) (hb : Below w0.heap.size w0 w1) : Boxes W x y w1 :=
  ⟨h.1.below hb h.1.lt, h.2.1.below hb h.2.1.lt, h.2.2.trans (hb.mono h.2.2.size)⟩
theorem Boxes.start (W : World) (x y : Val) : Boxes W x y ((W.alloc (.cells #[.int .i64 x.k, .int .u64 x.u, .int .i64 x.i, .float .f64 x.f, .string x.s] 36)).alloc (.cells #[.int .i64 y.k, .int .u64 y.u, .int .i64 y.i, .float .f64 y.f, .string y.s] 36)) := by
  refine ⟨(Whole.fresh W _ _).alloc _, ?_, ((Below.refl _ W).alloc (Nat.le_refl _) _).alloc (by simp) _⟩
  have := Whole.fresh (W.alloc (.cells #[.int .i64 x.k, .int .u64 x.u, .int .i64 x.i, .float .f64 x.f, .string x.s] 36)) 36 #[.int .i64 y.k, .int .u64 y.u, .int .i64 y.i, .float .f64 y.f, .string y.s]
  rw [show (W.alloc (.cells #[.int .i64 x.k, .int .u64 x.u, .int .i64 x.i, .float .f64 x.f, .string x.s] 36)).heap.size = W.heap.size + 1 by simp] at this
  exact this

set_option maxHeartbeats 2000000 in
theorem walk_big (x y : Val) (w : World) (h : 3000 < x.s.size ∨ 3000 < y.s.size) : Calls Try.prog 9 #[aggV x, aggV y] w fun e w' => e = .returned (.bool true) ∧ Below w.heap.size w w' := by
  have HB0 := Lib.hid (Boxes.start w x y).2.2
  by_cases h1 : 3000 < x.s.size
  · have hd : decide ((3000 : Int) < (x.s.size : Int)) = true := by simpa using (by omega : (3000 : Int) < (x.s.size : Int))
    clear h
    go_enter Try.func9, Try.ntmps9
    go_wp2_with fail
    refine (awake_any _).mono ?_
    rintro e w2 ⟨rfl, hb2⟩
    have HB2 := Lib.hid (HB0.out.trans (hb2.mono HB0.out.size))
    clear hb2
    go_wp2_with fail
    go_ret
    exact ⟨rfl, HB2.out⟩
  · have hd : decide ((3000 : Int) < (x.s.size : Int)) = false := by simpa using (by omega : (x.s.size : Int) ≤ 3000)
    have hd2 : decide ((3000 : Int) < (y.s.size : Int)) = true := by simpa using (by omega : (3000 : Int) < (y.s.size : Int))
    clear h
    go_enter Try.func9, Try.ntmps9
    go_wp2_with fail
    refine (awake_any _).mono ?_
    rintro e w2 ⟨rfl, hb2⟩
    have HB2 := Lib.hid (HB0.out.trans (hb2.mono HB0.out.size))
    clear hb2
    go_wp2_with fail
    go_ret
    exact ⟨rfl, HB2.out⟩

theorem one_wf {x : Val} (hx : x.wf) : ∀ v ∈ [x], v.wf := by
  intro v hv
  rw [List.mem_singleton] at hv
  subst hv; exact hx
theorem pack_one (x : Val) (hx : x.wf) (W : World) (g : Nat) (hg : g = W.heap.size) : Calls Try.prog 13 #[.slice (some ⟨g, 0, none⟩) 1 1] (W.alloc (.cells #[.int .i64 x.k, .int .u64 x.u, .int .i64 x.i, .float .f64 x.f, .string x.s] 36))
    fun e w' => ∃ v, e = .returned (.tuple #[v, .int .i64 (packE [x])]) ∧ OwnB w' W.heap.size v (packB [x]) ∧ Below W.heap.size W w' := by
  subst hg
  have hs : SeesV (W.alloc (.cells #[.int .i64 x.k, .int .u64 x.u, .int .i64 x.i, .float .f64 x.f, .string x.s] 36)) (W.heap.size + 1) (some ⟨W.heap.size, 0, none⟩) [x] :=
    seesV_whole (t := 36) (Whole.fresh W 36 _)
  refine (pack_any _ _ 1 [x] _ (one_wf hx) hs (by simp) (by simp) (by omega)).mono ?_
  rintro e w' ⟨v, rfl, ho, hb⟩
  exact ⟨v, rfl, ho.less (by simp), ((Below.refl _ W).alloc (Nat.le_refl _) _).trans (hb.mono (by simp))⟩

set_option maxHeartbeats 2000000 in
theorem walk_bad (x y : Val) (hx : x.wf) (hy : y.wf) (w : World) (h1 : ¬ 3000 < x.s.size) (h2 : ¬ 3000 < y.s.size) (hE : packE [x] ≠ 0 ∨ packE [y] ≠ 0) :
    Calls Try.prog 9 #[aggV x, aggV y] w fun e w' => e = .returned (.bool true) ∧ Below w.heap.size w w' := by
  have hd : decide ((3000 : Int) < (x.s.size : Int)) = false := by simpa using (by omega : (x.s.size : Int) ≤ 3000)
  have hd2 : decide ((3000 : Int) < (y.s.size : Int)) = false := by simpa using (by omega : (y.s.size : Int) ≤ 3000)
  have HB0 := Lib.hid (Boxes.start w x y)
  have HPX := Lib.hid (pack_one x hx)
  have HPY := Lib.hid (pack_one y hy)
  go_enter Try.func9, Try.ntmps9
  go_wp2_with fail
  refine (HPX.out _ _ (by simp)).mono ?_
  rintro e w1 ⟨v1, rfl, ho1, hb1⟩
  have HB1 := Lib.hid (HB0.out.keep hb1)
  obtain ⟨⟨c0, c1, c2, c3, c4⟩, -⟩ := five HB1.out.2.1
  obtain ⟨⟨d0, d1, d2, d3, d4⟩, -⟩ := five HB1.out.1
  obtain ⟨A1, k1, rfl, hk1, hk2⟩ := ho1.slice
  clear ho1 hb1
  go_wp2_with fail
  refine (HPY.out _ _ (by simp)).mono ?_
  rintro e w2 ⟨v2, rfl, ho2, hb2⟩
  have HB2 := Lib.hid (HB1.out.keep hb2)
  clear ho2 hb2 c0 c1 c2 c3 c4 d0 d1 d2 d3 d4
  by_cases g1 : packE [x] = 0
  · have g2 : packE [y] ≠ 0 := by
      rcases hE with h | h
      · exact absurd g1 h
      · exact h
    rw [g1]
    have hne : (packE [y] != 0) = true := by simpa using g2
    clear g1 g2 hE HPX HPY
    generalize packE [y] = z at *
    generalize (packB [x]).length = t at *
    go_wp2_with fail
    refine (awake_any _).mono ?_
    rintro e w3 ⟨rfl, hb3⟩
    have HB3 := Lib.hid (HB2.out.keep hb3)
    clear hb3
    go_wp2_with fail
    refine (awake_any _).mono ?_
    rintro e w4 ⟨rfl, hb4⟩
    have HB4 := Lib.hid (HB3.out.keep hb4)
    clear hb4
    go_wp2_with fail
    go_ret
    exact ⟨rfl, HB4.out.2.2⟩
  · have hne : (packE [x] != 0) = true := by simpa using g1
    clear g1 hE HPX HPY
    generalize packE [x] = z at *
    generalize packE [y] = z2 at *
    generalize (packB [x]).length = t at *
    go_wp2_with fail
    refine (awake_any _).mono ?_
    rintro e w3 ⟨rfl, hb3⟩
    have HB3 := Lib.hid (HB2.out.keep hb3)
    clear hb3
    go_wp2_with fail
    refine (awake_any _).mono ?_
    rintro e w4 ⟨rfl, hb4⟩
    have HB4 := Lib.hid (HB3.out.keep hb4)
    clear hb4
    go_wp2_with fail
    go_ret
    exact ⟨rfl, HB4.out.2.2⟩

theorem packB_one {x : Val} (h : packE [x] = 0) : packB [x] = enc x := by unfold packB; rw [if_pos h]; simp [encs]
theorem valid_one {x : Val} (h : packE [x] = 0) : valid x = 0 := ((packE_zero [x]).1 h).2 x (by simp)
theorem txt_ne {l m : List UInt8} (h : l ≠ m) : ((txt l).toList == (txt m).toList) = false := by
  rw [str_same]
  rw [decide_eq_false_iff_not]
  intro e
  apply h
  have := congrArg (fun s : ByteArray => s.data.toList) e
  simpa [txt] using this
theorem txt_eq (l : List UInt8) : ((txt l).toList == (txt l).toList) = true := by rw [str_same]; simp

set_option maxHeartbeats 4000000 in
theorem walk_good (x y : Val) (hx : x.wf) (hy : y.wf) (w : World) (h1 : ¬ 3000 < x.s.size) (h2 : ¬ 3000 < y.s.size) (hE1 : packE [x] = 0) (hE2 : packE [y] = 0) :
    Calls Try.prog 9 #[aggV x, aggV y] w fun e w' => e = .returned (.bool true) ∧ Below w.heap.size w w' := by
  have hd : decide ((3000 : Int) < (x.s.size : Int)) = false := by simpa using (by omega : (x.s.size : Int) ≤ 3000)
  have hd2 : decide ((3000 : Int) < (y.s.size : Int)) = false := by simpa using (by omega : (y.s.size : Int) ≤ 3000)
  have HB0 := Lib.hid (Boxes.start w x y)
  have HPX := Lib.hid (pack_one x hx)
  have HPY := Lib.hid (pack_one y hy)
  have hv1 := valid_one hE1
  have hv2 := valid_one hE2
  have HBX := Lib.hid (packB_one hE1)
  have HBY := Lib.hid (packB_one hE2)
  have HE1 := Lib.hid hE1
  have HE2 := Lib.hid hE2
  have HSM := Lib.hid (same_any x y hx.2.2.2.2.2.2.1 hy.2.2.2.2.2.2.1)
  have hsame : sameV x y = true → enc x = enc y := same_enc
  have hdiff : sameV x y = false → enc x ≠ enc y := by
    intro h e
    have := (apart hx hy hv1 hv2 [] (by rw [List.append_nil]; exact e.symm)).1
    rw [h] at this; cases this
  have hpre : sameV x y = false → (enc x).length ≤ (enc y).length → (enc y).take (enc x).length ≠ enc x := by
    intro h _ e
    have := (apart hx hy hv1 hv2 ((enc y).drop (enc x).length) ((List.take_append_drop (enc x).length (enc y)).symm.trans (congrArg (· ++ (enc y).drop (enc x).length) e))).1
    rw [h] at this; cases this
  have HSA := Lib.hid hsame
  have HDI := Lib.hid hdiff
  have HPR := Lib.hid hpre
  clear hE1 hE2 hv1 hv2 hsame hdiff hpre
  generalize enc x = bs1 at *
  generalize enc y = bs2 at *
  go_enter Try.func9, Try.ntmps9
  go_wp2_with fail
  refine (HPX.out _ _ (by simp)).mono ?_
  rintro e w1 ⟨v1, rfl, ho1, hb1⟩
  rw [HE1.out]
  rw [HBX.out] at ho1
  have HB1 := Lib.hid (HB0.out.keep hb1)
  obtain ⟨⟨c0, c1, c2, c3, c4⟩, -⟩ := five HB1.out.2.1
  obtain ⟨⟨d0, d1, d2, d3, d4⟩, -⟩ := five HB1.out.1
  obtain ⟨A1, k1, rfl, hk1, hk2⟩ := ho1.slice
  have HO1 := Lib.hid ho1
  clear ho1 hb1
  go_wp2_with fail
  refine (HPY.out _ _ (by simp)).mono ?_
  rintro e w2 ⟨v2, rfl, ho2, hb2⟩
  rw [HE2.out]
  rw [HBY.out] at ho2
  have HB2 := Lib.hid (HB1.out.keep hb2)
  have HO12 := Lib.hid (HO1.out.keep hb2 (Nat.le_refl _))
  obtain ⟨A2, k2, rfl, hl1, hl2⟩ := ho2.slice
  have HO2 := Lib.hid ho2
  clear ho2 hb2 c0 c1 c2 c3 c4 d0 d1 d2 d3 d4
  go_wp2_with fail
  refine (awake_any _).mono ?_
  rintro e w3 ⟨rfl, hb3⟩
  have HB3 := Lib.hid (HB2.out.keep hb3)
  have HO13 := Lib.hid (HO12.out.keep hb3 (Nat.le_refl _))
  have HO23 := Lib.hid (HO2.out.keep hb3 (Nat.le_refl _))
  obtain ⟨⟨c0, c1, c2, c3, c4⟩, -⟩ := five HB3.out.2.1
  obtain ⟨⟨d0, d1, d2, d3, d4⟩, -⟩ := five HB3.out.1
  clear hb3
  go_wp2_with fail
  refine (HSM.out _).mono ?_
  rintro e w4 ⟨rfl, hb4⟩
  have HB4 := Lib.hid (HB3.out.keep hb4)
  have ho14 := HO13.out.keep hb4 (Nat.le_refl _)
  have ho24 := HO23.out.keep hb4 (Nat.le_refl _)
  have hcv1 : ∀ k, (convert 25 9 (.slice A1 bs1.length k1)).run Try.prog (w4.drewN k) = .ok (.string (txt bs1)) (w4.drewN k) := fun k => conv_bytes bs1 A1 k1 _ (w4.drewN k) ((ho14.sees rfl).drewN k)
  have hcv2 : ∀ k, (convert 25 9 (.slice A2 bs2.length k2)).run Try.prog (w4.drewN k) = .ok (.string (txt bs2)) (w4.drewN k) := fun k => conv_bytes bs2 A2 k2 _ (w4.drewN k) ((ho24.sees rfl).drewN k)
  clear hb4 c0 c1 c2 c3 c4 d0 d1 d2 d3 d4
  cases hs : sameV x y with
  | true =>
    have he := HSA.out hs
    subst he
    have hq := txt_eq bs1
    clear ho14 ho24
    generalize txt bs1 = st at *
    go_wp2_with fail
    go_quiet (fail)
    go_wp2_with fail
    go_ret
    refine ⟨rfl, ?_⟩
    have := HB4.out.2.2
    exact ⟨this.os, this.tape, this.output, this.size, this.block⟩
  | false =>
    have hq := txt_ne (HDI.out hs)
    by_cases hlen : bs1.length ≤ bs2.length
    · have hp := txt_ne (HPR.out hs hlen)
      have hdl : decide ((bs2.length : Int) < (bs1.length : Int)) = false := by simpa using (by omega : (bs1.length : Int) ≤ (bs2.length : Int))
      have hcv3 : ∀ k, (convert 25 9 (.slice A2 bs1.length k2)).run Try.prog (w4.drewN k) = .ok (.string (txt (bs2.take bs1.length))) (w4.drewN k) := fun k => by
        have hf := Sees.first (ho24.sees rfl) hlen
        have := conv_bytes (bs2.take bs1.length) A2 k2 w4.heap.size (w4.drewN k) (by
          rw [List.length_take, Nat.min_eq_left hlen]
          rw [Nat.mul_one] at hf
          unfold Lib.byteCells at *
          rw [List.map_take]; exact hf.drewN k)
        rw [List.length_take, Nat.min_eq_left hlen] at this
        exact this
      clear ho14 ho24
      have hk : bs1.length ≤ k2 := by omega
      have hb63 : bs1.length ≤ 9223372036854775807 := by unfold maxLen at hl2; omega
      have hne : ((txt (bs2.take bs1.length)).toList != (txt bs1).toList) = true := by simpa using hp
      generalize txt (bs2.take bs1.length) = st3 at *
      generalize txt bs1 = st1 at *
      generalize txt bs2 = st2 at *
      go_wp2_with fail
      go_quiet (fail)
      go_wp2_with fail
      go_ret
      refine ⟨rfl, ?_⟩
      have := HB4.out.2.2
      exact ⟨this.os, this.tape, this.output, this.size, this.block⟩
    · have hdl : decide ((bs2.length : Int) < (bs1.length : Int)) = true := by simpa using (by omega : (bs2.length : Int) < (bs1.length : Int))
      clear ho14 ho24
      generalize txt bs1 = st1 at *
      generalize txt bs2 = st2 at *
      go_wp2_with fail
      go_quiet (fail)
      go_wp2_with fail
      go_ret
      refine ⟨rfl, ?_⟩
      have := HB4.out.2.2
      exact ⟨this.os, this.tape, this.output, this.size, this.block⟩

theorem walk (x : Val) (hx : x.wf) (y : Val) (hy : y.wf) (w : World) : Calls Try.prog 9 #[aggV x, aggV y] w fun e w' => e = .returned (.bool true) ∧ Below w.heap.size w w' := by
  by_cases h1 : 3000 < x.s.size
  · exact walk_big x y w (.inl h1)
  · by_cases h2 : 3000 < y.s.size
    · exact walk_big x y w (.inr h2)
    · by_cases hE1 : packE [x] = 0
      · by_cases hE2 : packE [y] = 0
        · exact walk_good x y hx hy w h1 h2 hE1 hE2
        · exact walk_bad x y hx hy w h1 h2 (.inr hE2)
      · exact walk_bad x y hx hy w h1 h2 (.inl hE1)

set_option maxRecDepth 100000 in
theorem lifted (os : Os) (started : os.Started) (H : Type) (enc : TypeId × Value → H) :
    ReturnsInHanded {} Try.checked os 9 .any (Rows.wireApartSpec.pre6 enc Try.prog Try.f9 Rows.wireApartRow.domain false) (Rows.wireApartSpec.post enc Try.prog Try.f9 false true false false) := by
  refine returnsInHanded_of_change (C := Try.checked) own started (by kernel_rfl) Try.func9
    (ChangeSpec.witness6 (enc := enc) (C := Try.checked) false ⟨#[], #[.agg #[.int .i64 0, .int .u64 0, .int .i64 0, .float .f64 0, .string ⟨#[]⟩], .agg #[.int .i64 0, .int .u64 0, .int .i64 0, .float .f64 0, .string ⟨#[]⟩]], []⟩ 8 (by kernel_rfl) (by kernel_rfl) (by kernel_rfl) (by kernel_rfl)) ?_
  intro W base args ds gs before hval0 hW hcnd _
  have hval : ∀ (j : Nat) t v, Try.f9.params[j]? = some t → args[j]? = some v → Value.okWide Try.prog W .any base t v := hval0
  have hW' := hW
  obtain ⟨p, q, hA0, hV, rfl, hfz, hnd⟩ := hW
  have hA : DataW.TrodAll enc Try.prog W 0 (fun _ => true) true Try.f9.params.toList args.toList ds p := hA0
  rw [Try.params9] at hA hval
  obtain ⟨v0, vs0, d0, ds0, p0, q0, hargs, rfl, rfl, h0, r0⟩ := trodAll_cons hA
  obtain ⟨v1, vs1, d1, ds1, p1, q1, rfl, rfl, rfl, h1, r1⟩ := trodAll_cons r0
  obtain ⟨rfl, rfl, rfl⟩ := trodAll_nil r1
  obtain rfl : args = #[v0, v1] := by cases args; simp_all
  obtain ⟨rfl, rfl⟩ := trodVars_none hV
  obtain ⟨a0, rfl, w0⟩ := open_val (hval 0 36 v0 rfl rfl) h0
  have lt0 : ∀ x ∈ p0, x.block < W.heap.size := by obtain ⟨m, hm⟩ := h0; exact DataW.trod_lt m _ _ _ hm
  obtain ⟨a1, rfl, w1⟩ := open_val (hval 1 36 v1 rfl rfl) h1
  have lt1 : ∀ x ∈ p1, x.block < W.heap.size := by obtain ⟨m, hm⟩ := h1; exact DataW.trod_lt m _ _ _ hm
  clear hA0 hval0
  simp only [List.append_nil] at hW'
  refine (walk a0 w0 a1 w1 W ).mono fun e W' ⟨he, bel⟩ => ?_
  subst he
  exact ⟨_, rfl, _, _, _, [], _, [], hW', trodAll_mk1 (shut_bool Try.underlying4 _), (trodAll_cons_mk (Below.trod laidOut (by kernel_rfl) (of_decide_eq_true (by kernel_rfl)) h0 bel lt0) (trodAll_cons_mk (Below.trod laidOut (by kernel_rfl) (of_decide_eq_true (by kernel_rfl)) h1 bel lt1) trodAll_mk0)), rfl, bel.frame _, fun h => by cases h⟩

theorem proved : Rows.WireApartSaid :=
  OpenClaim.holds_of_wide 9 Try.f9 rfl rfl rfl rfl rfl rfl rfl ⟨rfl, rfl, rfl, rfl, rfl⟩ rfl rfl rfl rfl rfl (by kernel_rfl) Try.func9 (by kernel_rfl)
    (of_decide_eq_true (by kernel_rfl)) (by unfold Func.isWrapper; first | (rw [if_pos (by decide +kernel)]; kernel_rfl) | (rw [if_neg (by decide +kernel)]; exact ⟨rfl, rfl⟩))
    (fun os started H enc _ => lifted os started H enc)
#print axioms proved
end Go.Proofs.Ytmaeacklloaeaaa.wireApart
