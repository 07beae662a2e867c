/- Contracts under num.Times: math/bits.Mul64 and Len64, num.split, size, product, length, shift, floored. -/
import Derived.Test.YtckhddndeojobaaGreatAmtW
import Derived.Laws.MathBits
import Derived.Lib.BitFns
import Derived.Test.YtckhddndeojobaaGreatTimesM
import Derived.Deep.QuietTactic
import Derived.BigQuiet
namespace Go.Proofs.YtckhddndeojobaaGreat
open Go.RowKit Go.Fl

@[go_sem] theorem w_low32 (z : Int) (h0 : 0 ≤ z) (h1 : z < 18446744073709551616) : bits .and .u64 z 4294967295 = z % 4294967296 := and_low32 z h0 h1
@[go_sem] theorem w_low32w (z : Int) : bits .and .u64 (IntKind.u64.wrap z) 4294967295 = IntKind.u64.wrap z % 4294967296 := by
  rw [IntKind.wrap_u64]; exact and_low32 _ (by omega) (by omega)
theorem ret_uu {a b c d : Int} (h : a = b) (h2 : c = d) : Ending.returned (.tuple #[.int .u64 a, .int .u64 c]) = .returned (.tuple #[.int .u64 b, .int .u64 d]) := by rw [h, h2]
theorem mul64_any (x y : Int) (hx0 : 0 ≤ x) (hx : x < 18446744073709551616) (hy0 : 0 ≤ y) (hy : y < 18446744073709551616) (w : World) :
    Calls Tryz.prog 112 #[.int .u64 x, .int .u64 y] w fun e w' => e = .returned (.tuple #[.int .u64 (x * y / 18446744073709551616), .int .u64 (x * y % 18446744073709551616)]) ∧ w' = w := by
  go_enter Tryz.func112, Tryz.ntmps112
  go_wp2
  go_ret2
  refine ⟨ret_uu ?_ (IntKind.wrap_u64 _), rfl⟩
  have e := mul64_arith x y hx0 hx hy0 hy
  simp only [IntKind.wrap_u64]
  rw [← e]
theorem tab_get (i : Nat) (h : i < Lib.len8tab.size) : (((Lib.len8tab[i]'h).toNat : Nat) : Int) = (Lib.bitLen i : Int) := by
  have h2 : i < 256 := by rw [Lib.len8tab_size] at h; exact h
  have e := Lib.len8_eq ⟨i, h2⟩
  simp only [Lib.len8, Int.toNat_natCast, ByteArray.getElem?_lt' _ _ h, Option.getD_some] at e
  exact e
theorem tab_le (i : Nat) (h : i < Lib.len8tab.size) : Lib.bitLen i ≤ 8 := Lib.bitLen_le8 ⟨i, by rw [Lib.len8tab_size] at h; exact h⟩
theorem len_fold (x : Int) (i : Int) (c k : Nat) (hx : x < 18446744073709551616) (h : 2 ^ c ≤ x.toNat) (e : i.toNat = x.toNat / 2 ^ c) (hk : (k : Int) = c) (hl : Lib.bitLen i.toNat ≤ 8) (hc : c ≤ 56) :
    wrap64 (k + wrap64 (Lib.bitLen i.toNat)) = Lib.bitLen x.toNat := by
  rw [Lib.bitLen_shift c x.toNat h (by omega), ← e]
  unfold wrap64; omega

set_option maxRecDepth 100000 in
set_option maxHeartbeats 4000000 in
theorem len64_any (x : Int) (hx0 : 0 ≤ x) (hx : x < 18446744073709551616) (w : World) :
    Calls Tryz.prog 71 #[.int .u64 x] w fun e w' => e = .returned (.int .i64 (Lib.bitLen x.toNat)) ∧ w' = w := by
  go_enter Tryz.func71, Tryz.ntmps71
  go_wp2
  all_goals first
    | (exfalso; have hz := Lib.len8tab_size; omega)
    | skip
  all_goals
    go_ret
    refine ⟨congrArg Ending.returned (congrArg (Value.int IntKind.i64) ?_), rfl⟩
    simp only [tab_get]
    rename_i hi
    first | have hl := tab_le _ ((Int.toNat_lt hi.1).2 hi.2) | have hl := tab_le _ ((Int.toNat_lt hx0).2 hi)
    first
      | exact len_fold x _ 56 56 hx (by omega) (by omega) rfl hl (by omega)
      | exact len_fold x _ 48 48 hx (by omega) (by omega) rfl hl (by omega)
      | exact len_fold x _ 40 40 hx (by omega) (by omega) rfl hl (by omega)
      | exact len_fold x _ 32 32 hx (by omega) (by omega) rfl hl (by omega)
      | exact len_fold x _ 24 24 hx (by omega) (by omega) rfl hl (by omega)
      | exact len_fold x _ 16 16 hx (by omega) (by omega) rfl hl (by omega)
      | exact len_fold x _ 8 8 hx (by omega) (by omega) rfl hl (by omega)
      | (unfold wrap64; omega)

@[go_sem] theorem w_frac (x : Nat) (hx : x < 18446744073709551616) : bits .and .u64 (x : Int) 4503599627370495 = (x : Int) % 4503599627370496 := and_frac x hx
@[go_sem] theorem w_exp (x : Nat) (hx : x < 18446744073709551616) : bits .and .u64 ((x : Int) / 4503599627370496) 2047 = (x : Int) / 4503599627370496 % 2048 := and_exp x hx
@[go_sem] theorem w_hidden (x : Nat) : bits .or .u64 ((x : Int) % 4503599627370496) 4503599627370496 = (x : Int) % 4503599627370496 + 4503599627370496 := or_hidden x
theorem ret_ui {a b c d : Int} (h : a = b) (h2 : c = d) : Ending.returned (.tuple #[.int .u64 a, .int .i64 c]) = .returned (.tuple #[.int .u64 b, .int .i64 d]) := by rw [h, h2]

theorem split_any (x : Nat) (hx : x < 18446744073709551616) (w : World) :
    Calls Tryz.prog 89 #[.float .f64 x] w fun e w' => e = .returned (.tuple #[.int .u64 (mant (rung x)), .int .i64 ((up (rung x) : Int) - 1074)]) ∧ w' = w := by
  by_cases g : (x : Int) / 4503599627370496 % 2048 = 0
  · have m := mant_low x g
    have M := Lib.hid m
    clear m
    have g1 : ((x : Int) / 4503599627370496 % 2048 == 0) = true := by simpa using g
    have G := Lib.hid g
    clear g
    go_enter Tryz.func89, Tryz.ntmps89
    go_wp2
    go_ret2
    have m := M.out
    exact ⟨ret_ui (by omega) (by omega), rfl⟩
  · have m := mant_high x g
    have M := Lib.hid m
    clear m
    have g1 : ((x : Int) / 4503599627370496 % 2048 == 0) = false := by simpa using g
    have G := Lib.hid g
    clear g
    go_enter Tryz.func89, Tryz.ntmps89
    go_wp2
    go_ret2
    have m := M.out
    exact ⟨ret_ui (by omega) (by omega), rfl⟩

theorem size_any (n : Int) (h0 : -9223372036854775808 ≤ n) (h1 : n < 9223372036854775808) (w : World) :
    Calls Tryz.prog 91 #[.int .i64 n] w fun e w' => e = .returned (.int .u64 n.natAbs) ∧ w' = w := by
  go_enter Tryz.func91, Tryz.ntmps91
  go_wp2
  all_goals
    go_ret
    refine ⟨ret_u64 ?_, rfl⟩
    try simp only [IntKind.wrap_u64]
    omega

theorem xor_small (n : Int) (h0 : 0 ≤ n) (h : n < 9223372036854775808) : bits .xor .u64 IntKind.u64.max n = 18446744073709551615 - n := by
  obtain ⟨k, rfl⟩ := Int.eq_ofNat_of_zero_le h0
  rw [xor_all k (by omega)]; omega
/-- A whole number as an int64, or refused: what is answered. -/
def fitV (n : Int) : Value := .tuple #[.int .i64 (if fits n then n else 0), .int .i64 (if fits n then 0 else 11)]
theorem fitV_yes {n a : Int} (h : -9223372036854775808 ≤ n ∧ n < 9223372036854775808) (e : a = n) : Ending.returned (.tuple #[.int .i64 a, .int .i64 0]) = .returned (fitV n) := by
  unfold fitV fits; rw [if_pos (by simpa using h), if_pos (by simpa using h), e]
theorem fitV_no {n : Int} (h : ¬ (-9223372036854775808 ≤ n ∧ n < 9223372036854775808)) : Ending.returned (.tuple #[.int .i64 0, .int .i64 11]) = .returned (fitV n) := by
  unfold fitV fits; rw [if_neg (by simpa using h), if_neg (by simpa using h)]
theorem floored_any (n : Int) (c b : Bool) (h0 : 0 ≤ n) (h1 : n < 18446744073709551616) (w : World) :
    Calls Tryz.prog 94 #[.int .u64 n, .bool c, .bool b] w fun e w' => e = .returned (fitV (floorV n.toNat c b)) ∧ w' = w := by
  go_enter Tryz.func94, Tryz.ntmps94
  cases c <;> cases b <;> go_wp2
  all_goals
    go_ret2
    refine ⟨?_, rfl⟩
    unfold floorV
    simp only [Bool.false_eq_true, if_false, if_true]
    first
      | (refine fitV_yes ?_ ?_ <;> (try simp only [wrap64, IntKind.wrap_u64]) <;> omega)
      | (refine fitV_yes ?_ ?_ <;> (try rw [xor_small n h0 (by omega)]) <;> (try unfold wrap64) <;> omega)
      | (refine fitV_no ?_; omega)

theorem product_any (a b : Int) (h0 : 0 ≤ a) (h1 : a < 18446744073709551616) (h2 : 0 ≤ b) (h3 : b < 18446744073709551616) (w : World) :
    Calls Tryz.prog 90 #[.int .u64 a, .int .u64 b] w fun e w' => e = .returned (.agg #[.int .u64 (a * b / 18446744073709551616), .int .u64 (a * b % 18446744073709551616)]) ∧ w' = w.alloc (.cells #[.int .u64 (a * b / 18446744073709551616), .int .u64 (a * b % 18446744073709551616)] 144) := by
  go_enter Tryz.func90, Tryz.ntmps90
  go_wp2_with (go_at_call 112; refine (mul64_any a b h0 h1 h2 h3 _).mono ?_; rintro e w1 ⟨rfl, rfl⟩)
  go_returns
  exact ⟨rfl, rfl⟩

theorem length_any (a b : Int) (h0 : 0 ≤ a) (h1 : a < 18446744073709551616) (h2 : 0 ≤ b) (h3 : b < 18446744073709551616) (w : World) :
    Calls Tryz.prog 92 #[.agg #[.int .u64 a, .int .u64 b]] w fun e w' => e = .returned (.int .i64 (lenOf a.toNat b.toNat)) ∧ w' = w.alloc (.cells #[.int .u64 a, .int .u64 b] 144) := by
  have H := Lib.hid (Lib.bitLen_le a.toNat 64 (by omega) (by omega))
  go_enter Tryz.func92, Tryz.ntmps92
  go_wp2_with (go_at_call 71; refine (len64_any _ (by omega) (by omega) _).mono ?_; rintro e w1 ⟨rfl, rfl⟩)
  · go_ret
    rename_i h
    refine ⟨ret_i64 ?_, rfl⟩
    have h := H.out
    unfold lenOf wrap64
    rw [if_pos (by simp at *; omega)]; omega
  · go_ret
    refine ⟨ret_i64 ?_, rfl⟩
    unfold lenOf
    rw [if_neg (by simp at *; omega)]

end Go.Proofs.YtckhddndeojobaaGreat
