/- The document's product, floor and ceiling. -/
import Derived.Test.YtjpalcolhagpcaaAmtQ
namespace Go.Proofs.Ytjpalcolhagpcaa
open Go.RowKit Go.Fl
set_option maxRecDepth 100000
/-- The document's product: cut downwards, or upwards. -/
def prodR (n : Int) (x : Nat) (up : Bool) : Value :=
  if nan x || (inf x && n == 0) then .tuple #[.int .i64 0, .int .i64 10] else if inf x then .tuple #[.int .i64 0, .int .i64 11] else fitV (if up then -prodF (-n) x else prodF n x)
theorem prodR_nan {n : Int} {x : Nat} {u : Bool} (h : nan x = true) : prodR n x u = .tuple #[.int .i64 0, .int .i64 10] := by unfold prodR; rw [h]; rfl
theorem prodR_inf0 {n : Int} {x : Nat} {u : Bool} (h : inf x = true) (h2 : (n == 0) = true) : prodR n x u = .tuple #[.int .i64 0, .int .i64 10] := by unfold prodR; rw [h, h2]; simp
theorem prodR_inf {n : Int} {x : Nat} {u : Bool} (h : nan x = false) (h1 : inf x = true) (h2 : (n == 0) = false) : prodR n x u = .tuple #[.int .i64 0, .int .i64 11] := by unfold prodR; rw [h, h1, h2]; rfl
theorem prodR_num {n : Int} {x : Nat} {u : Bool} (h : nan x = false) (h1 : inf x = false) : prodR n x u = fitV (if u then -prodF (-n) x else prodF n x) := by unfold prodR; rw [h, h1]; rfl
theorem nan_bits (x : Nat) (hx : x < 18446744073709551616) (h : nan x = true) : (x : Int) / 4503599627370496 % 2048 = 2047 ∧ (x : Int) % 4503599627370496 ≠ 0 := by
  rw [nan_dec x hx, decide_eq_true_eq] at h; omega
theorem inf_bits (x : Nat) (h : inf x = true) : (x : Int) / 4503599627370496 % 2048 = 2047 ∧ (x : Int) % 4503599627370496 = 0 := by
  unfold inf at h; rw [decide_eq_true_eq] at h; omega
theorem num_bits (x : Nat) (hx : x < 18446744073709551616) (h : nan x = false) (h1 : inf x = false) : (x : Int) / 4503599627370496 % 2048 ≠ 2047 := by
  rw [nan_dec x hx, decide_eq_false_iff_not] at h
  unfold inf at h1; rw [decide_eq_false_iff_not] at h1
  omega

theorem numV_shape (F : Int) : (numV F = .tuple #[.int .i64 0, .bool false] ∧ fitV F = .tuple #[.int .i64 0, .int .i64 11]) ∨ (∃ v : Int, numV F = .tuple #[.int .i64 v, .bool true] ∧ fitV F = .tuple #[.int .i64 v, .int .i64 0]) := by
  unfold numV fitV
  cases h : fits F
  · exact Or.inl ⟨rfl, rfl⟩
  · exact Or.inr ⟨_, rfl, rfl⟩
theorem own_one8 (w : World) : (w.alloc (.cells #[.int .u8 0] 5)).ownsRow w.heap.size 5 1 (.slice (some ⟨w.heap.size, 0, none⟩) 1 1) 1 (dv [0]) := by
  refine ⟨rfl, Or.inr ⟨w.heap.size, 1, #[.int .u8 0], rfl, Nat.le_refl _, (MapKept.heap_alloc w _).1, Nat.le_refl _, by unfold maxLen; omega, rfl, rfl⟩⟩
theorem sign_iff (n : Int) (x : Nat) (hx : x < 18446744073709551616) : (!(decide (n < 0) == ((x : Int) / 9223372036854775808 == 1))) = true ↔ ((n < 0 ∧ ¬ 9223372036854775808 ≤ x) ∨ (0 ≤ n ∧ 9223372036854775808 ≤ x)) := by
  have e : ((x : Int) / 9223372036854775808 == 1) = decide (9223372036854775808 ≤ x) := by rw [Bool.eq_iff_iff, beq_iff_eq, decide_eq_true_eq]; omega
  rw [e]
  by_cases h1 : n < 0 <;> by_cases h2 : 9223372036854775808 ≤ x <;> simp [h1, h2] <;> omega
theorem prodR_times (n : Int) (x : Nat) : prodR n x false = timesR n x := rfl
end Go.Proofs.Ytjpalcolhagpcaa
