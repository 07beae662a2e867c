/- Contracts of layer 1's Class and of the document's Class and None, for layer 4. -/
import Derived.Test.YtckhddndeojobaaGreatRows
import Derived.Test.YtckhddndeojobaaGreatFloat
import Derived.WalkKit
import Derived.ProofKit
import Derived.OpenShut
import Derived.Handy
import Derived.WalkLawsBesides
import Derived.Outline
import Derived.Laws.FloatArith
import Derived.Lib.Hide
namespace Go.Proofs.YtckhddndeojobaaGreat
open Go.RowKit Go.Fl

@[go_sem] theorem ext_bits (x : Nat) (w : World) : (callFunc 111 #[.float .f64 x]).run Tryz.prog w = .ok (.value (.int .u64 x)) w :=
  (run_callFunc_extern (e := Extern.MathFloatBits.float64bits) Tryz.func111 (by kernel_rfl) (by kernel_rfl) (by kernel_rfl) (by kernel_rfl) _ w).trans rfl
@[go_sem] theorem ext_from (x : Int) (w : World) : (callFunc 116 #[.int .u64 x]).run Tryz.prog w = .ok (.value (.float .f64 x.toNat)) w :=
  (run_callFunc_extern (e := Extern.MathFloatBits.float64frombits) Tryz.func116 (by kernel_rfl) (by kernel_rfl) (by kernel_rfl) (by kernel_rfl) _ w).trans rfl

theorem ret_u64 {a b : Int} (h : a = b) : Ending.returned (.int .u64 a) = .returned (.int .u64 b) := by rw [h]
theorem ret_i64 {a b : Int} (h : a = b) : Ending.returned (.int .i64 a) = .returned (.int .i64 b) := by rw [h]
theorem ret_bool {a b : Bool} (h : a = b) : Ending.returned (.bool a) = .returned (.bool b) := by rw [h]

@[go_sem] theorem neg_float (k : FloatKind) (b : Nat) : Op.unary .neg (.float k b) = pure (.float k (Op.negFloat k b)) := rfl

/-! ### Tests on floats as bounds on their bits: rules of the walk -/
@[go_sem] theorem w_self (x : Nat) (h : x < 18446744073709551616) : (FloatKind.f64.format.order x x != some .eq) = decide ((9218868437227405312 < x ∧ x < 9223372036854775808) ∨ 18442240474082181120 < x) := self_dec x h
@[go_sem] theorem w_lt0 (x : Nat) (h : x < 18446744073709551616) : (FloatKind.f64.format.order x 0 == some .lt) = decide (9223372036854775808 < x ∧ x ≤ 18442240474082181120) := lt0_dec x h
@[go_sem] theorem w_gt0 (x : Nat) (h : x < 18446744073709551616) : (FloatKind.f64.format.order x 0 == some .gt) = decide (0 < x ∧ x ≤ 9218868437227405312) := gt0_dec x h
@[go_sem] theorem w_eq0 (x : Nat) (h : x < 18446744073709551616) : (FloatKind.f64.format.order x 0 == some .eq) = decide (x = 0 ∨ x = 9223372036854775808) := eq0_dec x h
@[go_sem] theorem w_gtmax (x : Nat) (h : x < 18446744073709551616) : (FloatKind.f64.format.order x 9218868437227405311 == some .gt) = decide (x = 9218868437227405312) := gtmax_dec x h
@[go_sem] theorem w_gtmaxn (x : Nat) (h : x < 18446744073709551616) : (FloatKind.f64.format.order (Op.negFloat .f64 x) 9218868437227405311 == some .gt) = decide (x = 18442240474082181120) := gtmax_neg x h

@[go_sem] theorem w_and (x : Nat) (h : x < 18446744073709551616) : (bits .and .u64 (x : Int) 9223372036854775808 != 0) = decide (9223372036854775808 ≤ x) := and_top_ne x h

@[go_sem] theorem w_xor (x : Nat) (h : x < 18446744073709551616) : bits .xor .u64 IntKind.u64.max (x : Int) = (18446744073709551615 - x : Nat) := xor_all x h
@[go_sem] theorem w_xor2 (x : Nat) (h : x < 18446744073709551616) : bits .xor .u64 (if IntKind.u64.signed = true then -1 else IntKind.u64.max) (x : Int) = (18446744073709551615 - x : Nat) := xor_all x h
@[go_sem] theorem w_andNot (x : Nat) (h : x < 18446744073709551616) : bits .andNot .u64 (x : Int) 9223372036854775808 = (x % 9223372036854775808 : Nat) := andNot_top x h

theorem ret_ub {a b : Int} {p q : Bool} (h : a = b) (h2 : p = q) : Ending.returned (.tuple #[.int .u64 a, .bool p]) = .returned (.tuple #[.int .u64 b, .bool q]) := by rw [h, h2]
theorem ret_fb {a b : Nat} {p q : Bool} (h : a = b) (h2 : p = q) : Ending.returned (.tuple #[.float .f64 a, .bool p]) = .returned (.tuple #[.float .f64 b, .bool q]) := by rw [h, h2]
theorem ret_ie {a b c d : Int} (h : a = b) (h2 : c = d) : Ending.returned (.tuple #[.int .i64 a, .int .i64 c]) = .returned (.tuple #[.int .i64 b, .int .i64 d]) := by rw [h, h2]

end Go.Proofs.YtckhddndeojobaaGreat
