/- The document's 'more', 'number', 'Size'. -/
import Derived.Test.YtjpalcolhagpcaaAmtP
namespace Go.Proofs.Ytjpalcolhagpcaa
open Go.RowKit Go.Fl
set_option maxRecDepth 100000
theorem dv_append (xs ys : List Nat) : dv (xs ++ ys) = dv xs ++ dv ys := by unfold dv; simp
def numV (F : Int) : Value := .tuple #[.int .i64 (if fits F then F else 0), .bool (fits F)]
theorem numV_yes {F a : Int} (h : -9223372036854775808 ≤ F ∧ F < 9223372036854775808) (e : a = F) : Ending.returned (.tuple #[.int .i64 a, .bool true]) = .returned (numV F) := by
  have f : fits F = true := by unfold fits; exact decide_eq_true h
  unfold numV; rw [f, e]; rfl
theorem numV_no {F : Int} (h : ¬ (-9223372036854775808 ≤ F ∧ F < 9223372036854775808)) : Ending.returned (.tuple #[.int .i64 0, .bool false]) = .returned (numV F) := by
  have f : fits F = false := by unfold fits; exact decide_eq_false h
  unfold numV; rw [f]; rfl
end Go.Proofs.Ytjpalcolhagpcaa
