/- Floats cut to whole numbers, and compared with the ends of int64: plain mathematics. -/
import Derived.Test.YtjicdbkpklikfaaRound
namespace Go
namespace Fl
open Ieee

theorem sz_val (x : Nat) : sz x = (if 9223372036854775808 ≤ x then -1 else 1) * (size (rung x) : Int) := by
  unfold sz; split <;> simp

theorem val_eq (x : Nat) (h : x < 18446744073709551616) : val x = (if 9223372036854775808 ≤ x then -1 else 1) * (rung x : Int) := by
  by_cases g : 9223372036854775808 ≤ x
  · rw [val_ge g h, if_pos g, rung_ge g h]; omega
  · rw [val_lt (by omega), if_neg g, rung_lt (by omega)]; omega

theorem val_lt_iff (x y : Nat) (hx : x < 18446744073709551616) (hy : y < 18446744073709551616) : val x < val y ↔ sz x < sz y := by
  rw [val_eq x hx, val_eq y hy, sz_val, sz_val]
  have a1 : ∀ r, 0 < r → 0 < size r := fun r h => by have := size_lt h; rw [size_zero] at this; exact this
  have hz : ∀ r, r = 0 → size r = 0 := fun r h => by rw [h, size_zero]
  generalize rung x = r
  generalize rung y = u
  have b1 := a1 r; have b2 := a1 u; have b3 := hz r; have b4 := hz u
  have c1 := @size_lt r u; have c2 := @size_lt u r
  have c3 : r = u → size r = size u := fun h => by rw [h]
  generalize size r = p at *
  generalize size u = q at *
  split <;> split <;> omega
theorem val_eq_iff (x y : Nat) (hx : x < 18446744073709551616) (hy : y < 18446744073709551616) : val x = val y ↔ sz x = sz y := by
  have a := val_lt_iff x y hx hy
  have b := val_lt_iff y x hy hx
  omega

theorem unit_shift (k : Nat) : 2 ^ k * unit = 2 ^ (k + 1074) := by rw [unit_eq, ← Nat.pow_add, ex_eq]
theorem size_pow (q : Nat) (h : 1 ≤ q) : size (q * 2 ^ 52) = 2 ^ (52 + (q - 1)) := by
  unfold size
  rw [if_neg (by omega), Nat.mul_mod_left, Nat.mul_div_cancel _ (by decide), Nat.add_zero, ← Nat.pow_add]
theorem sz_low : sz 14114281232179134464 = (-9223372036854775808 : Int) * unit := by
  have h := unit_shift 63
  rw [sz_val, if_pos (by decide), show rung 14114281232179134464 = 1086 * 2 ^ 52 from rfl]
  have e : size (1086 * 2 ^ 52) = 2 ^ 63 * unit := by
    rw [h, size_pow 1086 (by omega), show 52 + (1086 - 1) = 63 + 1074 from rfl]
  rw [e, Int.natCast_mul]; omega
theorem sz_high : sz 4890909195324358656 = (9223372036854775808 : Int) * unit := by
  have h := unit_shift 63
  rw [sz_val, if_neg (by decide), show rung 4890909195324358656 = 1086 * 2 ^ 52 from rfl]
  have e : size (1086 * 2 ^ 52) = 2 ^ 63 * unit := by
    rw [h, size_pow 1086 (by omega), show 52 + (1086 - 1) = 63 + 1074 from rfl]
  rw [e, Int.natCast_mul]; omega

/-- A float that is the whole number F. -/
structure Is (y : Nat) (F : Int) : Prop where
  lt : y < 18446744073709551616
  num : nan y = false
  fin : inf y = false
  eq : sz y = F * unit

theorem fin_rung (x : Nat) (h : x < 18446744073709551616) (hn : nan x = false) (hi : inf x = false) : rung x < top := by
  rw [nan_dec x h, decide_eq_false_iff_not] at hn
  unfold inf at hi; rw [decide_eq_false_iff_not] at hi
  rw [top_eq]
  by_cases g : x < 9223372036854775808
  · rw [rung_lt g]; omega
  · rw [rung_ge (by omega) h]; omega

theorem word_is (s : Bool) (q : Nat) (hq : q < top) (m : Nat) (h : m * unit = size q) : Is (double.word s q) (if s then -(m : Int) else (m : Int)) := by
  rw [top_eq] at hq
  unfold Format.word
  rw [weight]
  cases s
  · simp only [Bool.false_eq_true, if_false]
    refine ⟨by omega, ?_, ?_, ?_⟩
    · rw [nan_dec _ (by omega), decide_eq_false_iff_not]; omega
    · unfold inf; rw [decide_eq_false_iff_not]; omega
    · rw [sz_val, if_neg (by omega), rung_lt (by omega), ← h]; simp
  · simp only [if_true]
    refine ⟨by omega, ?_, ?_, ?_⟩
    · rw [nan_dec _ (by omega), decide_eq_false_iff_not]; omega
    · unfold inf; rw [decide_eq_false_iff_not]; omega
    · rw [sz_val, if_pos (by omega), rung_ge (by omega) (by omega), show 2 ^ 63 + q - 9223372036854775808 = q by omega, ← h]; simp [Int.neg_mul]

theorem write_is (s : Bool) (m : Nat) (h : m ≠ 0 → ∃ q, q < top ∧ m * unit = size q) : Is (double.write (.number s m 0)) (if s then -(m : Int) else (m : Int)) := by
  show Is (double.nearest s m 0) _
  by_cases hm : m = 0
  · subst hm
    unfold Format.nearest
    rw [if_pos rfl]
    exact word_is s 0 (by decide) 0 (by rw [Nat.zero_mul]; rfl)
  · obtain ⟨q, hq, e⟩ := h hm
    rw [nearest_exact s m q hq hm e]
    exact word_is s q hq m e

def floorB (way : Toward) (x : Nat) : Nat := FloatKind.f64.encode ((FloatKind.f64.decode x).integral way)
def ceilP (x : Nat) : Int := -prodF (-1) x

theorem sgn_dec {x : Nat} (h : x < 18446744073709551616) : (sgn x = true) ↔ 9223372036854775808 ≤ x := by rw [sgn_iff h]; simp

theorem one_natAbs : (1 : Int).natAbs = 1 ∧ (-1 : Int).natAbs = 1 := ⟨rfl, rfl⟩
theorem floor_is (x : Nat) (h : x < 18446744073709551616) (hn : nan x = false) (hi : inf x = false) : Is (floorB .down x) (prodF 1 x) := by
  have hr := fin_rung x h hn hi
  have hp := place_whole (mant (rung x)) (up (rung x))
  have e : floorB .down x = double.write (.number (sgn x) (wholeOf (mant (rung x)) ((up (rung x) : Int) - 1074) + (sgn x && cutOf (mant (rung x)) ((up (rung x) : Int) - 1074)).toNat) 0) := by
    show double.write ((double.read x).integral .down) = _
    rw [read_num x hr]
    show double.write (.number (sgn x) (Toward.down.cut (sgn x) (mant (rung x) <<< (-1074 + (up (rung x) : Int)).toNat) (-(-1074 + (up (rung x) : Int))).toNat) 0) = _
    rw [cut_way .down _ _ _ (by decide), hp.1]
    show double.write (.number (sgn x) (_ + (sgn x && (_ % _ != 0)).toNat) 0) = _
    rw [hp.2]
  rw [e]
  have k := write_is (sgn x) _ (whole_repr (rung x) hr (sgn x))
  have f := prodF_eq 1 x (sgn x) (by rw [sgn_dec h]; omega)
  rw [one_natAbs.1, Nat.one_mul] at f
  rw [f]
  unfold floorV
  cases hs : sgn x
  · rw [hs] at k; simpa using k
  · rw [hs] at k
    cases hc : cutOf (mant (rung x)) ((up (rung x) : Int) - 1074)
    · rw [hc] at k; simpa using k
    · rw [hc] at k
      simp only [Bool.and_self, Bool.toNat_true, if_true] at k ⊢
      rw [show (-((wholeOf (mant (rung x)) ((up (rung x) : Int) - 1074) : Nat) : Int) - 1) = -((wholeOf (mant (rung x)) ((up (rung x) : Int) - 1074) + 1 : Nat) : Int) by omega]
      exact k
theorem ceil_is (x : Nat) (h : x < 18446744073709551616) (hn : nan x = false) (hi : inf x = false) : Is (floorB .up x) (ceilP x) := by
  have hr := fin_rung x h hn hi
  have hp := place_whole (mant (rung x)) (up (rung x))
  have e : floorB .up x = double.write (.number (sgn x) (wholeOf (mant (rung x)) ((up (rung x) : Int) - 1074) + ((!sgn x) && cutOf (mant (rung x)) ((up (rung x) : Int) - 1074)).toNat) 0) := by
    show double.write ((double.read x).integral .up) = _
    rw [read_num x hr]
    show double.write (.number (sgn x) (Toward.up.cut (sgn x) (mant (rung x) <<< (-1074 + (up (rung x) : Int)).toNat) (-(-1074 + (up (rung x) : Int))).toNat) 0) = _
    rw [cut_way .up _ _ _ (by decide), hp.1]
    show double.write (.number (sgn x) (_ + ((!sgn x) && (_ % _ != 0)).toNat) 0) = _
    rw [hp.2]
  rw [e]
  have k := write_is (sgn x) _ (whole_repr (rung x) hr (!sgn x))
  have f := prodF_eq (-1) x (!sgn x) (by rw [Bool.not_eq_true', Bool.eq_false_iff, ne_eq, sgn_dec h]; omega)
  rw [one_natAbs.2, Nat.one_mul] at f
  unfold ceilP
  rw [f]
  unfold floorV
  cases hs : sgn x
  · rw [hs] at k
    cases hc : cutOf (mant (rung x)) ((up (rung x) : Int) - 1074)
    · rw [hc] at k; simpa using k
    · rw [hc] at k
      simp only [Bool.not_false, Bool.and_self, Bool.toNat_true, if_true, Bool.false_eq_true, if_false] at k ⊢
      rw [show -(-((wholeOf (mant (rung x)) ((up (rung x) : Int) - 1074) : Nat) : Int) - 1) = ((wholeOf (mant (rung x)) ((up (rung x) : Int) - 1074) + 1 : Nat) : Int) by omega]
      exact k
  · rw [hs] at k; simpa using k

theorem floor_inf (way : Toward) (x : Nat) (h : x < 18446744073709551616) (hi : inf x = true) : floorB way x = x := by
  unfold inf at hi; rw [decide_eq_true_eq] at hi
  have hr : rung x = top := by
    rw [top_eq]; rcases hi with g | g <;> subst g <;> rfl
  show double.write ((double.read x).integral way) = x
  rw [read_inf x hr]
  show double.word (sgn x) double.infRung = x
  unfold Format.word
  rw [weight, infRung, sgn_iff h, top_eq]
  rcases hi with g | g <;> subst g <;> rfl

theorem toInt_is (y : Nat) (F : Int) (h : Is y F) : (FloatKind.f64.decode y).toInt .zero = some F := by
  have hr := fin_rung y h.lt h.num h.fin
  have hp := place_whole (mant (rung y)) (up (rung y))
  show (double.read y).toInt .zero = some F
  rw [read_num y hr]
  show some (signed (sgn y) (Toward.zero.cut (sgn y) (mant (rung y) <<< (-1074 + (up (rung y) : Int)).toNat) (-(-1074 + (up (rung y) : Int))).toNat) 0) = some F
  rw [cut_way .zero _ _ _ (by decide), hp.1]
  show some (signed (sgn y) (wholeOf (mant (rung y)) ((up (rung y) : Int) - 1074) + 0) 0) = some F
  rw [signed_eq, Nat.add_zero, Nat.pow_zero, Nat.mul_one]
  have e := h.eq
  have u := unit_pos
  rw [sz_eq] at e
  have f := floor_pos (mant (rung y)) (up (rung y))
  unfold floorV at f
  simp only [Bool.false_eq_true, if_false] at f
  congr 1
  rw [← f]
  by_cases g : 9223372036854775808 ≤ y
  · rw [if_pos ((sgn_dec h.lt).2 g)]
    rw [if_pos g] at e
    rw [show ((mant (rung y) * 2 ^ up (rung y) : Nat) : Int) = (-F) * unit by rw [Int.neg_mul, ← e]; omega, Int.mul_ediv_cancel _ (by omega)]; omega
  · rw [if_neg (by rw [sgn_dec h.lt]; exact g)]
    rw [if_neg g] at e
    rw [show ((mant (rung y) * 2 ^ up (rung y) : Nat) : Int) = F * unit by rw [← e]; omega, Int.mul_ediv_cancel _ (by omega)]; omega

/-- The two tests: below -2^63, at or above 2^63. -/
theorem below_dec (y : Nat) (F : Int) (h : Is y F) : (FloatKind.f64.format.order y 14114281232179134464 == some .lt) = decide (F < -9223372036854775808) := by
  have u : (0 : Int) < (unit : Int) := by have := unit_pos; omega
  rw [order_lt, h.num, nan_dec _ (by decide), Bool.eq_iff_iff]
  simp only [Bool.not_false, Bool.true_and, decide_eq_true_eq, Bool.and_eq_true, Bool.not_eq_true', decide_eq_false_iff_not]
  rw [val_lt_iff _ _ h.lt (by decide), h.eq, sz_low]
  constructor
  · intro g; exact Int.lt_of_mul_lt_mul_right g.2 (by omega)
  · intro g; exact ⟨by decide, Int.mul_lt_mul_of_pos_right g u⟩
theorem above_dec (y : Nat) (F : Int) (h : Is y F) : (FloatKind.f64.format.order y 4890909195324358656 == some .gt || FloatKind.f64.format.order y 4890909195324358656 == some .eq) = decide (9223372036854775808 ≤ F) := by
  have u : (0 : Int) < (unit : Int) := by have := unit_pos; omega
  have k : val y < val 4890909195324358656 ↔ F < 9223372036854775808 := by
    rw [val_lt_iff _ _ h.lt (by decide), h.eq, sz_high]
    exact ⟨fun g => Int.lt_of_mul_lt_mul_right g (by omega), fun g => Int.mul_lt_mul_of_pos_right g u⟩
  rw [order_gt, order_eqs, h.num, nan_dec _ (by decide), Bool.eq_iff_iff]
  simp only [Bool.not_false, Bool.true_and, decide_eq_true_eq, Bool.and_eq_true, Bool.or_eq_true, Bool.not_eq_true', decide_eq_false_iff_not]
  constructor
  · intro g; rcases g with g | g <;> omega
  · intro g
    by_cases q : val y = val 4890909195324358656
    · exact Or.inr ⟨by decide, q⟩
    · exact Or.inl ⟨by decide, by omega⟩

end Fl
end Go
