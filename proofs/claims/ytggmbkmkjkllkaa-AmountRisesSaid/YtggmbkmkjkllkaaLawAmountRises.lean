/- A fee is at most its amount; a greater amount, and a greater rate, have no lesser fee: AmountRises answers true at every two charges. No condition. -/
import Derived.Test.YtggmbkmkjkllkaaAmtZ
namespace Go.Proofs.Ytggmbkmkjkllkaa.amountRises
open Go.ChangeShapes Go.WideShapes Go.ChangeAt Go.RowKit Go.Am Go.Fl
set_option linter.unusedVariables false
set_option linter.unusedSimpArgs false

theorem fee_cases (n : Int) (x : Nat) : (feeE n x = 0 ∧ isA n = true ∧ rated x = true ∧ feeV n x = prodF n x) ∨ feeE n x ≠ 0 := by
  unfold feeE feeV
  cases isA n with
  | false => exact .inr (by simp)
  | true =>
    cases rated x with
    | false => exact .inr (by simp)
    | true => exact .inl ⟨rfl, rfl, rfl, rfl⟩
/-- Both boxes stand, and below them nothing has changed. -/
structure Boxes (W w0 : World) (n : Int) (x : Nat) (m : Int) (y : Nat) : Prop where
  one : Whole w0 W.heap.size 44 #[.int .i64 n, .float .f64 x]
  two : Whole w0 (W.heap.size + 1) 44 #[.int .i64 m, .float .f64 y]
  below : Below W.heap.size W w0
theorem boxes_made (W : World) (n : Int) (x : Nat) (m : Int) (y : Nat) : Boxes W ((W.alloc (.cells #[.int .i64 n, .float .f64 x] 44)).alloc (.cells #[.int .i64 m, .float .f64 y] 44)) n x m y := by
  refine ⟨(Whole.fresh W _ _).alloc _, ?_, ((Below.refl W.heap.size W).alloc (Nat.le_refl _) _).alloc (by simp) _⟩
  have := Whole.fresh (W.alloc (.cells #[.int .i64 n, .float .f64 x] 44)) 44 #[.int .i64 m, .float .f64 y]
  rw [show (W.alloc (.cells #[.int .i64 n, .float .f64 x] 44)).heap.size = W.heap.size + 1 by simp] at this
  exact this
theorem boxes_keep {W w0 w1 : World} {n m : Int} {x y : Nat} (h : Boxes W w0 n x m y) (hb : Below w0.heap.size w0 w1) : Boxes W w1 n x m y :=
  ⟨h.one.below hb h.one.lt, h.two.below hb h.two.lt, h.below.trans (hb.mono h.below.size)⟩
theorem boxes_cells {W w0 : World} {n m : Int} {x y : Nat} (h : Boxes W w0 n x m y) : w0.cell? ⟨W.heap.size, 0, none⟩ = some (.int .i64 n) ∧ w0.cell? ⟨W.heap.size, 1, none⟩ = some (.float .f64 x) ∧
    w0.cell? ⟨W.heap.size + 1, 0, none⟩ = some (.int .i64 m) ∧ w0.cell? ⟨W.heap.size + 1, 1, none⟩ = some (.float .f64 y) :=
  ⟨h.one.cell 0, h.one.cell 1, h.two.cell 0, h.two.cell 1⟩

set_option maxHeartbeats 4000000 in
theorem walk_bad (n : Int) (x : Nat) (hn : (-9223372036854775808 ≤ n ∧ n < 9223372036854775808) ∧ x < 18446744073709551616) (m : Int) (y : Nat) (hm : (-9223372036854775808 ≤ m ∧ m < 9223372036854775808) ∧ y < 18446744073709551616) (w : World)
    (hbad : feeE n x ≠ 0 ∨ (feeE n x = 0 ∧ feeE m y ≠ 0)) :
    Calls Try.prog 9 #[.agg #[.int .i64 n, .float .f64 x], .agg #[.int .i64 m, .float .f64 y]] w fun e w' => e = .returned (.bool true) ∧ Below w.heap.size w w' := by
  have H1 := Lib.hid (fun w0 => fee_any n x hn.1 hn.2 w0)
  have H2 := Lib.hid (fun w0 => fee_any m y hm.1 hm.2 w0)
  have HX := Lib.hid (boxes_made w n x m y)
  have hq : (feeE n x != 0) = true ∨ ((feeE n x != 0) = false ∧ (feeE m y != 0) = true) := by
    rcases hbad with h | ⟨h, h2⟩
    · exact .inl (by simpa using h)
    · exact .inr ⟨by rw [h]; rfl, by simpa using h2⟩
  clear hn hm hbad
  generalize feeE n x = E at *
  generalize feeE m y = F at *
  generalize feeV n x = V at *
  generalize feeV m y = U at *
  rcases hq with q1 | ⟨q1, q2⟩
  all_goals
    go_enter Try.func9, Try.ntmps9
    go_wp2_with fail
    refine (H1.out _).mono ?_
    rintro e w1 ⟨rfl, hb1⟩
    have HX1 := Lib.hid (boxes_keep HX.out hb1)
    obtain ⟨g1, g2, g3, g4⟩ := boxes_cells HX1.out
    clear hb1
    go_wp2_with fail
    refine (H2.out _).mono ?_
    rintro e w2 ⟨rfl, hb2⟩
    have HX2 := Lib.hid (boxes_keep HX1.out hb2)
    clear hb2 g1 g2 g3 g4
    go_wp2_with fail
    refine (awake_any _).mono ?_
    rintro e w3 ⟨rfl, hb3⟩
    have HX3 := Lib.hid (boxes_keep HX2.out hb3)
    clear hb3
    go_wp2_with fail
    refine (awake_any _).mono ?_
    rintro e w4 ⟨rfl, hb4⟩
    have HX4 := Lib.hid (boxes_keep HX3.out hb4)
    clear hb4
    go_wp2_with fail
    go_ret
    exact ⟨rfl, HX4.out.below⟩

set_option maxHeartbeats 4000000 in
theorem walk_good (n : Int) (x : Nat) (hn : (-9223372036854775808 ≤ n ∧ n < 9223372036854775808) ∧ x < 18446744073709551616) (m : Int) (y : Nat) (hm : (-9223372036854775808 ≤ m ∧ m < 9223372036854775808) ∧ y < 18446744073709551616) (w : World)
    (h1 : feeE n x = 0 ∧ isA n = true ∧ rated x = true ∧ feeV n x = prodF n x) (h2 : feeE m y = 0 ∧ isA m = true ∧ rated y = true ∧ feeV m y = prodF m y) :
    Calls Try.prog 9 #[.agg #[.int .i64 n, .float .f64 x], .agg #[.int .i64 m, .float .f64 y]] w fun e w' => e = .returned (.bool true) ∧ Below w.heap.size w w' := by
  have H1 := Lib.hid (fun w0 => fee_any n x hn.1 hn.2 w0)
  have H2 := Lib.hid (fun w0 => fee_any m y hm.1 hm.2 w0)
  obtain ⟨e1, i1, r1, v1⟩ := h1
  obtain ⟨e2, i2, r2, v2⟩ := h2
  rw [e1, v1] at H1
  rw [e2, v2] at H2
  have j1 := (isA_iff n).1 i1
  have j2 := (isA_iff m).1 i2
  have fr := fee_range n x j1.1 r1
  have hck : chkE (prodF n x) = 0 := by unfold chkE; rw [(isA_iff _).2 ⟨fr.1, by omega⟩]; rfl
  have H3 := Lib.hid (fun w0 => check_any (prodF n x) w0)
  rw [hck] at H3
  have hle : n ≤ m → (FloatKind.f64.format.order x y == some .gt) = false → prodF n x ≤ prodF m y := fun ha hb => fee_rises n m x y j1.1 ha r1 (rate_order r1 r2 hb)
  have HX := Lib.hid (boxes_made w n x m y)
  obtain ⟨fr0, fr1⟩ := fr
  clear hn hm e1 i1 r1 v1 e2 i2 r2 v2 hck j1 j2
  generalize prodF n x = V at *
  generalize prodF m y = U at *
  have HLE := Lib.hid hle
  clear hle
  have key : m < n ∨ (n ≤ m ∧ ((FloatKind.f64.format.order x y == some .gt) = true ∨ ((FloatKind.f64.format.order x y == some .gt) = false ∧ V ≤ U))) := by
    by_cases g1 : m < n
    · exact .inl g1
    · right
      refine ⟨by omega, ?_⟩
      cases g2 : (FloatKind.f64.format.order x y == some .gt) with
      | true => exact .inl rfl
      | false => exact .inr ⟨rfl, HLE.out (by omega) g2⟩
  rcases key with k1 | ⟨k1, k2 | ⟨k2, k3⟩⟩
  all_goals
    go_enter Try.func9, Try.ntmps9
    go_wp2_with fail
    refine (H1.out _).mono ?_
    rintro e w1 ⟨rfl, hb1⟩
    have HX1 := Lib.hid (boxes_keep HX.out hb1)
    obtain ⟨g1, g2, g3, g4⟩ := boxes_cells HX1.out
    clear hb1
    go_wp2_with fail
    refine (H2.out _).mono ?_
    rintro e w2 ⟨rfl, hb2⟩
    have HX2 := Lib.hid (boxes_keep HX1.out hb2)
    clear hb2 g1 g2 g3 g4
    go_wp2_with fail
    refine (awake_any _).mono ?_
    rintro e w3 ⟨rfl, hb3⟩
    have HX3 := Lib.hid (boxes_keep HX2.out hb3)
    clear hb3
    go_wp2_with fail
    refine (H3.out _).mono ?_
    rintro e w4 ⟨rfl, hb4⟩
    have HX4 := Lib.hid (boxes_keep HX3.out hb4)
    obtain ⟨g1, g2, g3, g4⟩ := boxes_cells HX4.out
    clear hb4
    go_wp2_with fail
    go_ret
    exact ⟨rfl, HX4.out.below⟩

theorem walk (n : Int) (x : Nat) (hn : (-9223372036854775808 ≤ n ∧ n < 9223372036854775808) ∧ x < 18446744073709551616) (m : Int) (y : Nat) (hm : (-9223372036854775808 ≤ m ∧ m < 9223372036854775808) ∧ y < 18446744073709551616) (w : World) :
    Calls Try.prog 9 #[.agg #[.int .i64 n, .float .f64 x], .agg #[.int .i64 m, .float .f64 y]] w fun e w' => e = .returned (.bool true) ∧ Below w.heap.size w w' := by
  rcases fee_cases n x with h1 | h1
  · rcases fee_cases m y with h2 | h2
    · exact walk_good n x hn m y hm w h1 h2
    · exact walk_bad n x hn m y hm w (.inr ⟨h1.1, h2⟩)
  · exact walk_bad n x hn m y hm w (.inl h1)

set_option maxRecDepth 100000 in
theorem lifted (os : Os) (started : os.Started) (H : Type) (enc : TypeId × Value → H) :
    ReturnsInHanded {} Try.checked os 9 .any (Rows.amountRisesSpec.pre6 enc Try.prog Try.f9 Rows.amountRisesRow.domain false) (Rows.amountRisesSpec.post enc Try.prog Try.f9 false true false false) := by
  refine returnsInHanded_of_change (C := Try.checked) own started (by kernel_rfl) Try.func9
    (ChangeSpec.witness6 (enc := enc) (C := Try.checked) false ⟨#[], #[.agg #[.int .i64 0, .float .f64 0], .agg #[.int .i64 0, .float .f64 0]], []⟩ 8 (by kernel_rfl) (by kernel_rfl) (by kernel_rfl) (by kernel_rfl)) ?_
  intro W base args ds gs before hval0 hW hcnd _
  have hval : ∀ (j : Nat) t v, Try.f9.params[j]? = some t → args[j]? = some v → Value.okWide Try.prog W .any base t v := hval0
  have hW' := hW
  obtain ⟨p, q, hA0, hV, rfl, hfz, hnd⟩ := hW
  have hA : DataW.TrodAll enc Try.prog W 0 (fun _ => true) true Try.f9.params.toList args.toList ds p := hA0
  rw [Try.params9] at hA hval
  obtain ⟨v0, vs0, d0, ds0, p0, q0, hargs, rfl, rfl, h0, r0⟩ := trodAll_cons hA
  obtain ⟨v1, vs1, d1, ds1, p1, q1, rfl, rfl, rfl, h1, r1⟩ := trodAll_cons r0
  obtain ⟨rfl, rfl, rfl⟩ := trodAll_nil r1
  obtain rfl : args = #[v0, v1] := by cases args; simp_all
  obtain ⟨rfl, rfl⟩ := trodVars_none hV
  obtain ⟨a0, b0, rfl, w0⟩ := open_charge (hval 0 44 v0 rfl rfl) h0
  have lt0 : ∀ x ∈ p0, x.block < W.heap.size := by obtain ⟨m, hm⟩ := h0; exact DataW.trod_lt m _ _ _ hm
  obtain ⟨a1, b1, rfl, w1⟩ := open_charge (hval 1 44 v1 rfl rfl) h1
  have lt1 : ∀ x ∈ p1, x.block < W.heap.size := by obtain ⟨m, hm⟩ := h1; exact DataW.trod_lt m _ _ _ hm
  clear hA0 hval0
  simp only [List.append_nil] at hW'
  refine (walk a0 b0 w0 a1 b1 w1 W ).mono fun e W' ⟨he, bel⟩ => ?_
  subst he
  exact ⟨_, rfl, _, _, _, [], _, [], hW', trodAll_mk1 (shut_bool Try.underlying4 _), (trodAll_cons_mk (Below.trod laidOut (by kernel_rfl) (of_decide_eq_true (by kernel_rfl)) h0 bel lt0) (trodAll_cons_mk (Below.trod laidOut (by kernel_rfl) (of_decide_eq_true (by kernel_rfl)) h1 bel lt1) trodAll_mk0)), rfl, bel.frame _, fun h => by cases h⟩

theorem proved : Rows.AmountRisesSaid :=
  OpenClaim.holds_of_wide 9 Try.f9 rfl rfl rfl rfl rfl rfl rfl ⟨rfl, rfl, rfl, rfl, rfl⟩ rfl rfl rfl rfl rfl (by kernel_rfl) Try.func9 (by kernel_rfl)
    (of_decide_eq_true (by kernel_rfl)) (by unfold Func.isWrapper; first | (rw [if_pos (by decide +kernel)]; kernel_rfl) | (rw [if_neg (by decide +kernel)]; exact ⟨rfl, rfl⟩))
    (fun os started H enc _ => lifted os started H enc)
#print axioms proved
end Go.Proofs.Ytggmbkmkjkllkaa.amountRises
