/- An amount's check, a rate's, and the fee of an amount by a rate: layer 4's contracts for the layers above (made out of XAmtX, XAmtE; on XMem's words). -/
import Derived.Test.YtckhddndeojobaaGreatAmtS
import Derived.Test.YtckhddndeojobaaGreatAmtM
import Derived.Test.YtckhddndeojobaaGreatMem
namespace Go.Proofs.YtckhddndeojobaaGreat
open Go.RowKit Go.Am Go.Fl
set_option linter.unusedVariables false
set_option linter.unusedSimpArgs false

/-- What a fee is as a value. -/
theorem fee_value {n : Int} {x : Nat} (hn : isA n = true) (hr : rated x = true) : timesR n x = .tuple #[.int .i64 (feeV n x), .int .i64 (feeE n x)] := by
  obtain ⟨h1, h2⟩ := (isA_iff n).1 hn
  obtain ⟨h3, h4⟩ := fee_range n x h1 hr
  rw [timesR_num (rated_nan hr).1 (rated_nan hr).2]
  have hf : fits (prodF n x) = true := by unfold fits; simp only [decide_eq_true_eq]; omega
  unfold feeV feeE fitV
  simp [hn, hr, hf]
def chkE (n : Int) : Int := if isA n then 0 else 40
def rateE (x : Nat) : Int := if rated x then 0 else 43

theorem check_same (n : Int) (w : World) : Calls Tryz.prog 42 #[.int .i64 n] w fun e w' => e = .returned (.int .i64 (chkE n)) ∧ w' = w := by
  by_cases h : 0 ≤ n ∧ n ≤ 1000000000000000
  · have H : Hid (chkE n = 0) := Lib.hid (by unfold chkE; rw [(isA_iff n).2 h]; rfl)
    obtain ⟨h0, h1⟩ := h
    go_enter Tryz.func42, Tryz.ntmps42
    go_wp2_with fail
    go_ret
    exact ⟨by rw [H.out]; rfl, rfl⟩
  · have hf : isA n = false := by unfold isA; rw [decide_eq_false_iff_not]; exact h
    have H : Hid (chkE n = 40) := Lib.hid (by unfold chkE; rw [hf]; rfl)
    by_cases h0 : n < 0
    · clear h hf
      go_enter Tryz.func42, Tryz.ntmps42
      go_wp2_with fail
      go_ret
      exact ⟨by rw [H.out]; rfl, rfl⟩
    · have h1 : 1000000000000000 < n := by omega
      clear h hf
      go_enter Tryz.func42, Tryz.ntmps42
      go_wp2_with fail
      go_ret
      exact ⟨by rw [H.out]; rfl, rfl⟩

theorem check_any (n : Int) (w : World) : Calls Tryz.prog 42 #[.int .i64 n] w fun e w' => e = .returned (.int .i64 (chkE n)) ∧ Below w.heap.size w w' := by
  refine (check_same n w).mono ?_
  rintro e w1 ⟨rfl, rfl⟩
  exact ⟨rfl, Below.refl _ _⟩

theorem chk_cases (n : Int) : (isA n = true ∧ chkE n = 0 ∧ 0 ≤ n ∧ n ≤ 1000000000000000) ∨ (isA n = false ∧ chkE n = 40 ∧ ¬ (0 ≤ n ∧ n ≤ 1000000000000000)) := by
  unfold chkE
  cases h : isA n with
  | true => exact .inl ⟨rfl, rfl, (isA_iff n).1 h⟩
  | false =>
    refine .inr ⟨rfl, rfl, fun g => ?_⟩
    rw [(isA_iff n).2 g] at h
    cases h
@[go_sem] theorem w_lt1 (x : Nat) (h : x < 18446744073709551616) : (FloatKind.f64.format.order x 4607182418800017408 == some .lt) = decide (x < 4607182418800017408 ∨ 9223372036854775808 ≤ x ∧ x ≤ 18442240474082181120) := by
  rw [order_lt, nan_dec x h, nan_dec 4607182418800017408 (by decide), val_lt (x := 4607182418800017408) (by decide)]
  by_cases g : x < 9223372036854775808
  · rw [val_lt g, Bool.eq_iff_iff]; simp; omega
  · rw [val_ge (by omega) h, Bool.eq_iff_iff]; simp; omega
@[go_sem] theorem w_eq1 (x : Nat) (h : x < 18446744073709551616) : (FloatKind.f64.format.order x 4607182418800017408 == some .eq) = decide (x = 4607182418800017408) := by
  rw [order_eqs, nan_dec x h, nan_dec 4607182418800017408 (by decide), val_lt (x := 4607182418800017408) (by decide)]
  by_cases g : x < 9223372036854775808
  · rw [val_lt g, Bool.eq_iff_iff]; simp; omega
  · rw [val_ge (by omega) h, Bool.eq_iff_iff]; simp; omega
theorem rate_same (x : Nat) (hx : x < 18446744073709551616) (w : World) : Calls Tryz.prog 38 #[.float .f64 x] w fun e w' => e = .returned (.int .i64 (rateE x)) ∧ w' = w := by
  go_enter Tryz.func38, Tryz.ntmps38
  go_wp2_with fail
  all_goals
    go_ret
    refine ⟨ret_i64 ?_, rfl⟩
    unfold rateE rated
    first | (rw [if_pos (by rw [decide_eq_true_eq]; omega)]) | (rw [if_neg (by rw [decide_eq_true_eq]; omega)])
theorem rate_any (x : Nat) (hx : x < 18446744073709551616) (w : World) : Calls Tryz.prog 38 #[.float .f64 x] w fun e w' => e = .returned (.int .i64 (rateE x)) ∧ Below w.heap.size w w' := by
  refine (rate_same x hx w).mono ?_
  rintro e w1 ⟨rfl, rfl⟩
  exact ⟨rfl, Below.refl _ _⟩

theorem fee_any (n : Int) (x : Nat) (hn : -9223372036854775808 ≤ n ∧ n < 9223372036854775808) (hx : x < 18446744073709551616) (w : World) :
    Calls Tryz.prog 54 #[.int .i64 n, .float .f64 x] w fun e w' => e = .returned (.tuple #[.int .i64 (feeV n x), .int .i64 (feeE n x)]) ∧ Below w.heap.size w w' := by
  have HA := Lib.hid (fun w0 => check_same n w0)
  have HR := Lib.hid (fun w0 => rate_any x hx w0)
  rcases chk_cases n with ⟨i1, e1, a0, a1⟩ | ⟨i1, e1, -⟩
  · cases h2 : rated x with
    | false =>
      have HE : Hid (feeE n x = 43 ∧ feeV n x = 0) := Lib.hid (by unfold feeE feeV; rw [i1, h2]; exact ⟨rfl, rfl⟩)
      have e2 : rateE x = 43 := by unfold rateE; rw [h2]; rfl
      rw [e1] at HA
      rw [e2] at HR
      clear i1 e1 h2 e2
      go_enter Tryz.func54, Tryz.ntmps54
      go_wp2_with fail
      refine (HA.out _).mono ?_
      rintro e w1 ⟨rfl, rfl⟩
      go_wp2_with fail
      refine (HR.out _).mono ?_
      rintro e w1 ⟨rfl, hb1⟩
      have HB := Lib.hid hb1
      clear hb1
      go_wp2_with fail
      go_ret2
      exact ⟨by rw [HE.out.1, HE.out.2]; rfl, HB.out⟩
    | true =>
      have e2 : rateE x = 0 := by unfold rateE; rw [h2]; rfl
      have HP := Lib.hid (fun w0 => times_any n x hx (by omega) (by omega) w0)
      rw [fee_value i1 h2] at HP
      rw [e1] at HA
      rw [e2] at HR
      clear i1 e1 h2 e2
      generalize feeV n x = V at *
      generalize feeE n x = E at *
      go_enter Tryz.func54, Tryz.ntmps54
      go_wp2_with fail
      refine (HA.out _).mono ?_
      rintro e w1 ⟨rfl, rfl⟩
      go_wp2_with fail
      refine (HR.out _).mono ?_
      rintro e w1 ⟨rfl, hb1⟩
      have HB := Lib.hid hb1
      clear hb1
      go_wp2_with fail
      refine (HP.out _).mono ?_
      rintro e w2 ⟨rfl, hb2⟩
      have HB2 := Lib.hid (HB.out.trans (hb2.mono HB.out.size))
      clear hb2
      go_wp2_with fail
      go_ret2
      exact ⟨rfl, HB2.out⟩
  · have HE : Hid (feeE n x = 40 ∧ feeV n x = 0) := Lib.hid (by unfold feeE feeV; rw [i1]; exact ⟨rfl, rfl⟩)
    rw [e1] at HA
    clear i1 e1
    go_enter Tryz.func54, Tryz.ntmps54
    go_wp2_with fail
    refine (HA.out _).mono ?_
    rintro e w1 ⟨rfl, rfl⟩
    go_wp2_with fail
    go_ret2
    exact ⟨by rw [HE.out.1, HE.out.2]; rfl, Below.refl _ _⟩

end Go.Proofs.YtckhddndeojobaaGreat
