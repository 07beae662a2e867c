/- Contracts of the document's answers at layer 5 that layer 6 needs: Time, Rated; the product of a time and a rate. (Made out of XSpanC by clkspan.py.) -/
import Derived.Test.YtjpalcolhagpcaaMem
import Derived.Test.YtjpalcolhagpcaaAmtO
import Derived.Test.YtjpalcolhagpcaaSpanM
namespace Go.Proofs.Ytjpalcolhagpcaa
open Go.RowKit Go.Sp Go.Fl
set_option maxRecDepth 100000
set_option linter.unusedVariables false
set_option linter.unusedSimpArgs false

theorem rtime_any (n : Int) (w : World) : Calls Try.prog 34 #[.int .i64 n] w fun e w' => e = .returned (.bool (isT n)) ∧ w' = w := by
  cases h : isT n with
  | true =>
    obtain ⟨h0, h1⟩ := (isT_iff n).1 h
    clear h
    go_enter Try.func34, Try.ntmps34
    go_wp2_with fail
    go_ret
    exact ⟨by first | rfl | (simp [*]; try omega), rfl⟩
  | false =>
    have h1 := (isT_no n).1 h
    clear h
    by_cases h0 : 0 ≤ n
    · have h2 : 1125899906842624 < n := by omega
      clear h1
      go_enter Try.func34, Try.ntmps34
      go_wp2_with fail
      all_goals
        go_ret
        exact ⟨by first | rfl | (simp [*]; try omega), rfl⟩
    · have h2 : n < 0 := by omega
      clear h1
      go_enter Try.func34, Try.ntmps34
      go_wp2_with fail
      all_goals
        go_ret
        exact ⟨by first | rfl | (simp [*]; try omega), rfl⟩

theorem rated_of (x : Nat) (hx : x < 18446744073709551616) : (cls x = 3 → rated x = true) ∧ (cls x = 4 → rated x = true) ∧
    (cls x = 5 → rated x = ((FloatKind.f64.format.order x 4607182418800017408 == some .lt) || (FloatKind.f64.format.order x 4607182418800017408 == some .eq))) ∧ (cls x ≠ 3 → cls x ≠ 4 → cls x ≠ 5 → rated x = false) := by
  have hr : rated x = decide (x ≤ 4607182418800017408 ∨ x = 9223372036854775808) := rfl
  refine ⟨fun h => ?_, fun h => ?_, fun h => ?_, fun h3 h4 h5 => ?_⟩
  · rw [hr, decide_eq_true_eq]; unfold cls at h; (repeat' split at h) <;> omega
  · rw [hr, decide_eq_true_eq]; unfold cls at h; (repeat' split at h) <;> omega
  · have hb : 0 < x ∧ x < 9218868437227405312 := by unfold cls at h; (repeat' split at h) <;> omega
    have hn : nan x = false := by rw [nan_dec x hx, decide_eq_false_iff_not]; omega
    have h1 : nan 4607182418800017408 = false := by rw [nan_dec _ (by omega), decide_eq_false_iff_not]; omega
    rw [order_lt, order_eqs, hn, h1, val_lt (x := x) (by omega), val_lt (x := 4607182418800017408) (by omega), hr]
    simp only [Bool.not_false, Bool.true_and]
    rw [← Bool.decide_or, decide_eq_decide]
    omega
  · rw [hr, decide_eq_false_iff_not]; unfold cls at h3 h4 h5; (repeat' split at h3) <;> omega
theorem rrated_any (x : Nat) (hx : x < 18446744073709551616) (w : World) : Calls Try.prog 29 #[.float .f64 x] w fun e w' => e = .returned (.bool (rated x)) ∧ w' = w := by
  obtain ⟨r3, r4, r5, r0⟩ := rated_of x hx
  have HC := Lib.hid (fun w0 => rcls_any x hx w0)
  by_cases h3 : cls x = 3
  · have HR := Lib.hid (r3 h3)
    rw [h3] at HC
    clear r3 r4 r5 r0 h3
    go_enter Try.func29, Try.ntmps29
    go_wp2_with fail
    refine (HC.out _).mono ?_
    rintro e w1 ⟨rfl, rfl⟩
    go_wp2_with fail
    go_ret
    exact ⟨by rw [HR.out]; rfl, rfl⟩
  · by_cases h4 : cls x = 4
    · have HR := Lib.hid (r4 h4)
      rw [h4] at HC
      clear r3 r4 r5 r0 h3 h4
      go_enter Try.func29, Try.ntmps29
      go_wp2_with fail
      refine (HC.out _).mono ?_
      rintro e w1 ⟨rfl, rfl⟩
      go_wp2_with fail
      go_ret
      exact ⟨by rw [HR.out]; rfl, rfl⟩
    · by_cases h5 : cls x = 5
      · have HR := Lib.hid (r5 h5)
        rw [h5] at HC
        clear r3 r4 r5 r0 h3 h4 h5
        go_enter Try.func29, Try.ntmps29
        go_wp2_with fail
        refine (HC.out _).mono ?_
        rintro e w1 ⟨rfl, rfl⟩
        go_wp2_with fail
        go_ret
        exact ⟨by rw [HR.out]; rfl, rfl⟩
      · have HR := Lib.hid (r0 h3 h4 h5)
        clear r3 r4 r5 r0
        generalize cls x = q at *
        have e3 : (q == 3) = false := by simpa using h3
        have e4 : (q == 4) = false := by simpa using h4
        have e5 : (q == 5) = false := by simpa using h5
        clear h3 h4 h5
        go_enter Try.func29, Try.ntmps29
        go_wp2_with fail
        refine (HC.out _).mono ?_
        rintro e w1 ⟨rfl, rfl⟩
        go_wp2_with fail
        go_ret
        exact ⟨by rw [HR.out]; rfl, rfl⟩


theorem prodT_value {n : Int} {x : Nat} (hn : isT n = true) (hr : rated x = true) : prodR n x true = .tuple #[.int .i64 (moreT n x), .int .i64 0] := by
  obtain ⟨h1, h2⟩ := (isT_iff n).1 hn
  obtain ⟨h3, h4⟩ := more_range n x h1 hr
  rw [prodR_num (rated_nan hr).1 (rated_nan hr).2]
  show fitV (-prodF (-n) x) = _
  have e : -prodF (-n) x = moreT n x := rfl
  rw [e]
  have hf : fits (moreT n x) = true := by unfold fits; simp only [decide_eq_true_eq]; omega
  unfold fitV
  rw [hf]; rfl

end Go.Proofs.Ytjpalcolhagpcaa
