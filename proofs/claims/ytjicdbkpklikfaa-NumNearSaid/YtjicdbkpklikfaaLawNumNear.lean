/- A float lies between its two whole numbers, which are the same or neighbours: NumNear answers true at every float. No condition. -/
import Derived.Test.YtjicdbkpklikfaaNumA
namespace Go.Proofs.Ytjicdbkpklikfaa.numNear
open Go.ChangeShapes Go.WideShapes Go.ChangeAt Go.RowKit Go.Fl
set_option linter.unusedVariables false

theorem is_rep {y : Nat} {F : Int} (h : Is y F) : F.natAbs ≠ 0 → ∃ q, q < top ∧ F.natAbs * unit = size q := by
  intro _
  refine ⟨rung y, fin_rung y h.lt h.num h.fin, ?_⟩
  have e := h.eq
  rw [sz_val] at e
  have u := unit_pos
  have k : ((F.natAbs * unit : Nat) : Int) = (size (rung y) : Int) := by
    rw [Int.natCast_mul]
    by_cases g : 9223372036854775808 ≤ y
    · rw [if_pos g] at e
      have : F ≤ 0 := by
        rcases Int.lt_or_le 0 F with z | z
        · have := Int.mul_pos z (show (0 : Int) < unit by omega); omega
        · exact z
      rw [show (F.natAbs : Int) = -F by omega, Int.neg_mul]; omega
    · rw [if_neg g] at e
      have : 0 ≤ F := by
        rcases Int.lt_or_le F 0 with z | z
        · have := Int.mul_neg_of_neg_of_pos z (show (0 : Int) < unit by omega); omega
        · exact z
      rw [show (F.natAbs : Int) = F by omega]; omega
  omega
theorem float_is (F : Int) (h : F.natAbs ≠ 0 → ∃ q, q < top ∧ F.natAbs * unit = size q) : Is (floatOfInt .f64 F) F := by
  have k := write_is (decide (F < 0)) F.natAbs h
  have e : (if decide (F < 0) = true then -(F.natAbs : Int) else (F.natAbs : Int)) = F := by
    by_cases g : F < 0
    · rw [if_pos (by simpa using g)]; omega
    · rw [if_neg (by simpa using g)]; omega
  rw [e] at k
  exact k
theorem floor_ineq (x : Nat) : prodF 1 x * unit ≤ sz x ∧ sz x < (prodF 1 x + 1) * unit := by
  unfold prodF
  rw [Int.one_mul]
  have u : (0 : Int) < unit := by have := unit_pos; omega
  constructor
  · exact Int.ediv_mul_le _ (by omega)
  · rw [Int.add_mul, Int.one_mul]; have := Int.lt_ediv_add_one_mul_self (sz x) u; rw [Int.add_mul, Int.one_mul] at this; exact this
theorem ceil_ineq (x : Nat) : sz x ≤ ceilP x * unit ∧ (ceilP x - 1) * unit < sz x := by
  unfold ceilP prodF
  have u : (0 : Int) < unit := by have := unit_pos; omega
  have a := Int.ediv_mul_le (-1 * sz x) (show (unit : Int) ≠ 0 by omega)
  have b := Int.lt_ediv_add_one_mul_self (-1 * sz x) u
  rw [Int.add_mul, Int.one_mul] at b
  constructor
  · rw [Int.neg_mul]; omega
  · rw [Int.sub_mul, Int.neg_mul, Int.one_mul]; omega
theorem ceil_floor (x : Nat) : ceilP x = prodF 1 x ∨ ceilP x = prodF 1 x + 1 := by
  have a := floor_ineq x
  have b := ceil_ineq x
  have u : (0 : Int) < unit := by have := unit_pos; omega
  have c1 : prodF 1 x < ceilP x + 1 := by
    rcases Int.lt_or_le (prodF 1 x) (ceilP x + 1) with z | z
    · exact z
    · have := Int.mul_le_mul_of_nonneg_right z (show (0 : Int) ≤ unit by omega); rw [Int.add_mul, Int.one_mul] at this; omega
  have c2 : ceilP x - 1 < prodF 1 x + 1 := by
    rcases Int.lt_or_le (ceilP x - 1) (prodF 1 x + 1) with z | z
    · exact z
    · have := Int.mul_le_mul_of_nonneg_right z (show (0 : Int) ≤ unit by omega); omega
  omega
/-- The tests of NumNear on finite floats. -/
theorem near_tests (x : Nat) (h : x < 18446744073709551616) (hn : nan x = false) (hi : inf x = false) :
    (ceilP x = prodF 1 x → (FloatKind.f64.format.order (floatOfInt .f64 (prodF 1 x)) x == some .eq) = true) ∧
    (ceilP x ≠ prodF 1 x → ceilP x = prodF 1 x + 1 ∧ (FloatKind.f64.format.order (floatOfInt .f64 (prodF 1 x)) x == some .lt) = true ∧ (FloatKind.f64.format.order x (floatOfInt .f64 (ceilP x)) == some .lt) = true) := by
  have A := float_is _ (is_rep (floor_is x h hn hi))
  have B := float_is _ (is_rep (ceil_is x h hn hi))
  have a := floor_ineq x
  have b := ceil_ineq x
  have c := ceil_floor x
  constructor
  · intro e
    rw [order_eqs, A.num, hn]
    simp only [Bool.not_false, Bool.true_and, decide_eq_true_eq]
    rw [val_eq_iff _ _ A.lt h, A.eq]
    rw [e] at b; omega
  · intro e
    refine ⟨by omega, ?_, ?_⟩
    · rw [order_lt, A.num, hn]
      simp only [Bool.not_false, Bool.true_and, decide_eq_true_eq]
      rw [val_lt_iff _ _ A.lt h, A.eq]
      have : ceilP x - 1 = prodF 1 x := by omega
      rw [← this]; exact b.2
    · rw [order_lt, B.num, hn]
      simp only [Bool.not_false, Bool.true_and, decide_eq_true_eq]
      rw [val_lt_iff _ _ h B.lt, B.eq]
      have : ceilP x = prodF 1 x + 1 := by omega
      rw [this]; exact a.2

theorem wholeR_val (F : Int) (x : Nat) : ∃ v c : Int, wholeR F x = .tuple #[.int .i64 v, .int .i64 c] ∧ (c = 0 → nan x = false ∧ inf x = false ∧ v = F ∧ -9223372036854775808 ≤ F ∧ F < 9223372036854775808) := by
  unfold wholeR fitV
  cases hn : nan x
  · cases hi : inf x
    · refine ⟨_, _, rfl, fun h => ⟨rfl, rfl, ?_⟩⟩
      revert h; split
      · rename_i g; unfold fits at g; intro _; exact ⟨rfl, by simpa using g⟩
      · intro g; cases g
    · exact ⟨_, _, rfl, fun h => by cases h⟩
  · exact ⟨_, _, rfl, fun h => by cases h⟩

theorem walk (a0 : Nat) (w0 : (Lit.float .f64 a0).wf = true) (w : World) :
    Calls Try.prog 10 #[.float .f64 a0] w fun e w' => e = .returned (.bool true) ∧ Grown w w' := by
  have h0 := f64_lt w0
  clear w0
  obtain ⟨v, c, e1, k1⟩ := wholeR_val (prodF 1 a0) a0
  obtain ⟨v', c', e2, k2⟩ := wholeR_val (ceilP a0) a0
  have K : Hid (c = 0 → c' = 0 → (v' = v → (FloatKind.f64.format.order (floatOfInt .f64 v) a0 == some .eq) = true) ∧
    (v' ≠ v → v' = v + 1 ∧ (FloatKind.f64.format.order (floatOfInt .f64 v) a0 == some .lt) = true ∧ (FloatKind.f64.format.order a0 (floatOfInt .f64 v') == some .lt) = true) ∧ (-9223372036854775808 ≤ v' ∧ v' < 9223372036854775808) ∧ (-9223372036854775808 ≤ v ∧ v < 9223372036854775808)) := Lib.hid fun z z' => by
    have a := k1 z
    have b := k2 z'
    rw [a.2.2.1, b.2.2.1]
    have t := near_tests a0 h0 a.1 a.2.1
    exact ⟨t.1, t.2, b.2.2.2, a.2.2.2⟩
  clear k1 k2
  have E1 := Lib.hid e1
  have E2 := Lib.hid e2
  clear e1 e2
  go_enter Try.func10, Try.ntmps10
  go_wp2_with fail
  refine (floor_any a0 h0 _).mono ?_
  rintro e w2 ⟨rfl, hg2⟩
  rw [E1.out]
  go_wp2_with fail
  refine (ceil_any a0 h0 _).mono ?_
  rintro e w3 ⟨rfl, hg3⟩
  rw [E2.out]
  go_wp2_with fail
  refine (awake_any _).mono ?_
  rintro e w4 ⟨rfl, hg4⟩
  have HG := Lib.hid (grown_trans hg2 (grown_trans hg3 hg4))
  by_cases z1 : c = 0
  · by_cases z2 : c' = 0
    · have k := K.out z1 z2
      subst z1
      subst z2
      have hv := k.2.2.1
      have hv2 := k.2.2.2
      by_cases q : v' = v
      · have t := k.1 q
        subst q
        clear k
        go_wp2_with fail
        go_ret
        exact ⟨by first | rfl | simp, HG.out⟩
      · have t := k.2.1 q
        have t1 := t.1
        have t2 := t.2.1
        have t3 := t.2.2
        subst t1
        clear k t q
        go_wp2_with fail
        go_ret
        exact ⟨by first | rfl | simp, HG.out⟩
    · have z2 : (c' != 0) = true := by simpa using z2
      subst z1
      go_wp2_with fail
      refine (awake_any _).mono ?_
      rintro e w5 ⟨rfl, hg5⟩
      go_wp2_with fail
      go_ret
      exact ⟨rfl, grown_trans HG.out hg5⟩
  · have z1 : (c != 0) = true := by simpa using z1
    go_wp2_with fail
    refine (awake_any _).mono ?_
    rintro e w5 ⟨rfl, hg5⟩
    go_wp2_with fail
    go_ret
    exact ⟨rfl, grown_trans HG.out hg5⟩
theorem own : ownKnob Try.prog.godebug = none := by kernel_rfl
set_option maxRecDepth 100000 in
theorem lifted (os : Os) (started : os.Started) (H : Type) (enc : TypeId × Value → H) :
    ReturnsInHanded {} Try.checked os 10 .any (Rows.numNearSpec.pre6 enc Try.prog Try.f10 Rows.numNearRow.domain false) (Rows.numNearSpec.post enc Try.prog Try.f10 false true false false) := by
  refine returnsInHanded_of_change (C := Try.checked) own started (by kernel_rfl) Try.func10
    (ChangeSpec.witness6 (enc := enc) (C := Try.checked) false ⟨#[], #[.float .f64 0], []⟩ 8 (by kernel_rfl) (by kernel_rfl) (by kernel_rfl) (by kernel_rfl)) ?_
  intro W base args ds gs before hval0 hW hcnd _
  have hval : ∀ (j : Nat) t v, Try.f10.params[j]? = some t → args[j]? = some v → Value.okWide Try.prog W .any base t v := hval0
  have hW' := hW
  obtain ⟨p, q, hA0, hV, rfl, hfz, hnd⟩ := hW
  have hA : DataW.TrodAll enc Try.prog W 0 (fun _ => true) true Try.f10.params.toList args.toList ds p := hA0
  rw [Try.params10] at hA hval
  obtain ⟨v0, vs0, d0, ds0, p0, q0, hargs, rfl, rfl, h0, r0⟩ := trodAll_cons hA
  obtain ⟨rfl, rfl, rfl⟩ := trodAll_nil r0
  obtain rfl : args = #[v0] := by cases args; simp_all
  obtain ⟨rfl, rfl⟩ := trodVars_none hV
  obtain ⟨a0, rfl, rfl, rfl, w0⟩ := open_float Try.underlying22 (hval 0 22 v0 rfl rfl) h0
  clear hA0 hval0
  simp only [List.append_nil] at hW'
  refine (walk a0 w0 W).mono fun e W' ⟨he, hg⟩ => ?_
  subst he
  exact ⟨_, rfl, post_of_same (pa := []) (pv := []) hW' (fun _ _ _ => (trodAll_cons_mk (shut_bool Try.underlying4 _) trodAll_mk0)) (fun sp _ => (trodAll_cons_mk (shut_float Try.underlying22 w0) trodAll_mk0)) (fun _ _ => rfl) rfl
    (hg.frame _) hg.2.1 (ok_one (by kernel_rfl) rfl (okWide_bool_mk Try.underlying4 _))⟩

theorem proved : Rows.NumNearSaid :=
  OpenClaim.holds_of_wide 10 Try.f10 rfl rfl rfl rfl rfl rfl rfl ⟨rfl, rfl, rfl, rfl, rfl⟩ rfl rfl rfl rfl rfl (by kernel_rfl) Try.func10 (by kernel_rfl)
    (of_decide_eq_true (by kernel_rfl)) (by unfold Func.isWrapper; first | (rw [if_pos (by decide +kernel)]; kernel_rfl) | (rw [if_neg (by decide +kernel)]; exact ⟨rfl, rfl⟩))
    (fun os started H enc _ => lifted os started H enc)
#print axioms proved
end Go.Proofs.Ytjicdbkpklikfaa.numNear
