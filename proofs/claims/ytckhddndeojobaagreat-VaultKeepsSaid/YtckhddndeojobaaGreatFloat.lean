/- Floats by their bits: the order of float64 words is that of their rungs with a sign; keys, classes. Plain mathematics, no program. -/
import Derived.Laws.FloatArith
import Derived.Laws.BitsAllLaws
namespace Go
namespace Fl

def sgn (b : Nat) : Bool := b / 2 ^ 63 % 2 == 1
def rung (b : Nat) : Nat := b % 2 ^ 63
def top : Nat := 2047 * 2 ^ 52
def nan (b : Nat) : Bool := decide (top < rung b)
def val (b : Nat) : Int := if sgn b then -(rung b : Int) else (rung b : Int)
/-- A finite rung's size, in units of the least number. -/
def size (r : Nat) : Nat := if r < 2 ^ 52 then r else (2 ^ 52 + r % 2 ^ 52) * 2 ^ (r / 2 ^ 52 - 1)

theorem size_zero : size 0 = 0 := rfl

theorem size_lo (r : Nat) (h : 2 ^ 52 ≤ r) : 2 ^ 52 * 2 ^ (r / 2 ^ 52 - 1) ≤ size r ∧ size r < 2 ^ 52 * 2 ^ (r / 2 ^ 52) := by
  unfold size
  rw [if_neg (by omega)]
  have hq : 1 ≤ r / 2 ^ 52 := by omega
  obtain ⟨q, hq'⟩ : ∃ q, r / 2 ^ 52 = q + 1 := ⟨r / 2 ^ 52 - 1, by omega⟩
  have e2 : 2 ^ (q + 1) = 2 * 2 ^ q := by rw [Nat.pow_succ, Nat.mul_comm]
  rw [hq', Nat.add_sub_cancel, e2]
  have hm : r % 2 ^ 52 < 2 ^ 52 := Nat.mod_lt _ (by omega)
  have hp : 0 < 2 ^ q := Nat.two_pow_pos _
  constructor
  · exact Nat.mul_le_mul_right _ (by omega)
  · rw [← Nat.mul_assoc]
    exact Nat.mul_lt_mul_of_pos_right (by omega) hp

theorem size_lt {r s : Nat} (h : r < s) : size r < size s := by
  by_cases hs : s < 2 ^ 52
  · unfold size; rw [if_pos hs, if_pos (by omega)]; exact h
  · by_cases hr : r < 2 ^ 52
    · have := (size_lo s (by omega)).1
      have hp : 0 < 2 ^ (s / 2 ^ 52 - 1) := Nat.two_pow_pos _
      have : 2 ^ 52 * 1 ≤ 2 ^ 52 * 2 ^ (s / 2 ^ 52 - 1) := Nat.mul_le_mul_left _ hp
      have e : size r = r := by unfold size; rw [if_pos hr]
      omega
    · by_cases hq : r / 2 ^ 52 = s / 2 ^ 52
      · unfold size
        rw [if_neg hs, if_neg hr, hq]
        exact Nat.mul_lt_mul_of_pos_right (by omega) (Nat.two_pow_pos _)
      · have h1 := (size_lo r (by omega)).2
        have h2 := (size_lo s (by omega)).1
        have : 2 ^ (r / 2 ^ 52) ≤ 2 ^ (s / 2 ^ 52 - 1) := Nat.pow_le_pow_right (by omega) (by omega)
        have : 2 ^ 52 * 2 ^ (r / 2 ^ 52) ≤ 2 ^ 52 * 2 ^ (s / 2 ^ 52 - 1) := Nat.mul_le_mul_left _ this
        omega

theorem size_lt_iff {r s : Nat} : size r < size s ↔ r < s := by
  constructor
  · intro h
    rcases Nat.lt_trichotomy r s with g | g | g
    · exact g
    · subst g; omega
    · have := size_lt g; omega
  · exact size_lt

theorem size_inj {r s : Nat} : size r = size s ↔ r = s := by
  constructor
  · intro h
    rcases Nat.lt_trichotomy r s with g | g | g
    · have := size_lt g; omega
    · exact g
    · have := size_lt g; omega
  · intro h; rw [h]

theorem weight : Ieee.double.signWeight = 2 ^ 63 := rfl
theorem binade : Ieee.double.binade = 2 ^ 52 := rfl
theorem infRung : Ieee.double.infRung = top := rfl
theorem least : Ieee.double.leastPlace = -1074 := rfl

theorem read_nan (b : Nat) (h : nan b = true) : Ieee.double.read b = .nan (sgn b) (rung b - top) := by
  have h' : top < rung b := by simpa [nan] using h
  unfold Ieee.Format.read
  simp only [weight, binade, infRung]
  show (if rung b < 2 ^ 52 then _ else if rung b < top then _ else if rung b = top then _ else _) = _
  have ht : top = 2047 * 2 ^ 52 := rfl
  rw [if_neg (by omega), if_neg (by omega), if_neg (by omega)]
  rfl

theorem read_inf (b : Nat) (h : rung b = top) : Ieee.double.read b = .infinity (sgn b) := by
  unfold Ieee.Format.read
  simp only [weight, binade, infRung]
  show (if rung b < 2 ^ 52 then _ else if rung b < top then _ else if rung b = top then _ else _) = _
  have ht : top = 2047 * 2 ^ 52 := rfl
  rw [if_neg (by omega), if_neg (by omega), if_pos h]
  rfl

/-- The whole number ahead of the power of two, and the power above the least one. -/
def mant (r : Nat) : Nat := if r < 2 ^ 52 then r else 2 ^ 52 + r % 2 ^ 52
def up (r : Nat) : Nat := if r < 2 ^ 52 then 0 else r / 2 ^ 52 - 1

theorem size_eq (r : Nat) : size r = mant r * 2 ^ up r := by
  unfold size mant up; split <;> simp

theorem read_num (b : Nat) (h : rung b < top) : Ieee.double.read b = .number (sgn b) (mant (rung b)) (-1074 + (up (rung b) : Nat)) := by
  unfold Ieee.Format.read
  simp only [weight, binade, infRung, least]
  show (if rung b < 2 ^ 52 then _ else if rung b < top then Ieee.Datum.number _ (2 ^ 52 + rung b % 2 ^ 52) (-1074 + ((rung b / 2 ^ 52 - 1 : Nat) : Int)) else if rung b = top then _ else _) = _
  unfold mant up
  by_cases h1 : rung b < 2 ^ 52
  · rw [if_pos h1, if_pos h1, if_pos h1]; rfl
  · rw [if_neg h1, if_neg h1, if_neg h1, if_pos h]; rfl

theorem shl (m n : Nat) : m <<< n = m * 2 ^ n := Nat.shiftLeft_eq m n

theorem signed_eq (s : Bool) (m u : Nat) : Ieee.signed s m u = (if s then -1 else 1) * ((m * 2 ^ u : Nat) : Int) := by
  unfold Ieee.signed; rw [shl]; cases s <;> simp

theorem compare_mul (a b : Int) (c : Nat) (hc : 0 < c) : compare (a * c) (b * c) = compare a b := by
  have hc' : (0 : Int) < c := by omega
  simp only [compare, compareOfLessAndEq]
  by_cases h1 : a < b
  · rw [if_pos (Int.mul_lt_mul_of_pos_right h1 hc'), if_pos h1]
  · have h2 : ¬ a * c < b * c := by
      intro h; exact h1 (Int.lt_of_mul_lt_mul_right h (Int.le_of_lt hc'))
    rw [if_neg h2, if_neg h1]
    by_cases h3 : a = b
    · subst h3; simp
    · have : a * c ≠ b * c := by
        intro h
        exact h3 (Int.eq_of_mul_eq_mul_right (by omega) h)
      rw [if_neg this, if_neg h3]

theorem order_num (s t : Bool) (m n : Nat) (i j : Nat) :
    Ieee.Datum.order (.number s m (-1074 + (i : Int))) (.number t n (-1074 + (j : Int))) = some (compare ((if s then -1 else 1) * ((m * 2 ^ i : Nat) : Int)) ((if t then -1 else 1) * ((n * 2 ^ j : Nat) : Int))) := by
  show some (compare (Ieee.signed s m ((-1074 + (i : Int)) - min (-1074 + (i : Int)) (-1074 + (j : Int))).toNat) (Ieee.signed t n ((-1074 + (j : Int)) - min (-1074 + (i : Int)) (-1074 + (j : Int))).toNat)) = _
  rw [signed_eq, signed_eq]
  have e1 : ((-1074 + (i : Int)) - min (-1074 + (i : Int)) (-1074 + (j : Int))).toNat = i - min i j := by omega
  have e2 : ((-1074 + (j : Int)) - min (-1074 + (i : Int)) (-1074 + (j : Int))).toNat = j - min i j := by omega
  rw [e1, e2, ← compare_mul _ _ (2 ^ min i j) (Nat.two_pow_pos _)]
  have p1 : 2 ^ (i - min i j) * 2 ^ min i j = 2 ^ i := by rw [← Nat.pow_add]; congr 1; omega
  have p2 : 2 ^ (j - min i j) * 2 ^ min i j = 2 ^ j := by rw [← Nat.pow_add]; congr 1; omega
  have q1 : ((m * 2 ^ (i - min i j) : Nat) : Int) * ((2 ^ min i j : Nat) : Int) = ((m * 2 ^ i : Nat) : Int) := by
    rw [← Int.natCast_mul, Nat.mul_assoc, p1]
  have q2 : ((n * 2 ^ (j - min i j) : Nat) : Int) * ((2 ^ min i j : Nat) : Int) = ((n * 2 ^ j : Nat) : Int) := by
    rw [← Int.natCast_mul, Nat.mul_assoc, p2]
  rw [Int.mul_assoc, Int.mul_assoc, q1, q2]

theorem compare_lt {a b : Int} (h : a < b) : compare a b = .lt := by simp [compare, compareOfLessAndEq, h]
theorem compare_gt {a b : Int} (h : b < a) : compare a b = .gt := by
  simp only [compare, compareOfLessAndEq]; rw [if_neg (by omega), if_neg (by omega)]
theorem compare_eq {a b : Int} (h : a = b) : compare a b = .eq := by
  subst h; simp [compare, compareOfLessAndEq]

theorem compare_size (s t : Bool) (r u : Nat) :
    compare ((if s then -1 else 1) * (size r : Int)) ((if t then -1 else 1) * (size u : Int)) = compare (if s then -(r : Int) else r) (if t then -(u : Int) else u) := by
  have a1 : ∀ r, 0 < r → 0 < size r := fun r h => by have := size_lt h; rw [size_zero] at this; exact this
  have hz : ∀ r, r = 0 → size r = 0 := fun r h => by rw [h, size_zero]
  have b1 := a1 r; have b2 := a1 u; have b3 := hz r; have b4 := hz u
  have c1 := @size_lt r u; have c2 := @size_lt u r
  have c3 : r = u → size r = size u := fun h => by rw [h]
  generalize size r = x at *
  generalize size u = y at *
  have key : ∀ a b c d : Int, (a < b ↔ c < d) → (a = b ↔ c = d) → compare a b = compare c d := by
    intro a b c d h1 h2
    simp only [compare, compareOfLessAndEq]
    by_cases g : a < b
    · rw [if_pos g, if_pos (h1.1 g)]
    · rw [if_neg g, if_neg (fun h => g (h1.2 h))]
      by_cases g2 : a = b
      · rw [if_pos g2, if_pos (h2.1 g2)]
      · rw [if_neg g2, if_neg (fun h => g2 (h2.2 h))]
  cases s <;> cases t <;> simp only [Bool.false_eq_true, if_false, if_true] <;> apply key <;> omega

theorem order_eq (x y : Nat) : FloatKind.f64.format.order x y = if nan x || nan y then none else some (compare (val x) (val y)) := by
  show Ieee.double.order x y = _
  unfold Ieee.Format.order
  by_cases hx : nan x = true
  · rw [read_nan x hx, hx]; rfl
  by_cases hy : nan y = true
  · rw [read_nan y hy, hy]
    simp only [Bool.or_true, if_true]
    cases Ieee.double.read x <;> rfl
  have hx' : nan x = false := by simpa using hx
  have hy' : nan y = false := by simpa using hy
  rw [hx', hy']
  simp only [Bool.or_self, Bool.false_eq_true, if_false]
  have kx : rung x ≤ top := by simpa [nan] using hx'
  have ky : rung y ≤ top := by simpa [nan] using hy'
  unfold val
  have tp : 0 < top := by decide
  by_cases ix : rung x = top
  · rw [read_inf x ix]
    by_cases iy : rung y = top
    · rw [read_inf y iy, ix, iy]
      cases sgn x <;> cases sgn y <;> rfl
    · rw [read_num y (by omega)]
      cases sgn x
      · show some Ordering.gt = _
        refine congrArg some (compare_gt ?_).symm
        simp only [Bool.false_eq_true, if_false]
        split <;> omega
      · show some Ordering.lt = _
        refine congrArg some (compare_lt ?_).symm
        simp only [if_true]
        split <;> omega
  · rw [read_num x (by omega)]
    by_cases iy : rung y = top
    · rw [read_inf y iy]
      cases sgn y
      · show some Ordering.lt = _
        refine congrArg some (compare_lt ?_).symm
        simp only [Bool.false_eq_true, if_false]
        split <;> omega
      · show some Ordering.gt = _
        refine congrArg some (compare_gt ?_).symm
        simp only [if_true]
        split <;> omega
    · rw [read_num y (by omega), order_num, ← size_eq, ← size_eq, compare_size]

/-! ### Keys and classes -/
theorem sgn_lt {x : Nat} (h : x < 9223372036854775808) : sgn x = false := by
  unfold sgn; rw [Nat.div_eq_of_lt (by omega)]; rfl
theorem sgn_ge {x : Nat} (h : 9223372036854775808 ≤ x) (h2 : x < 18446744073709551616) : sgn x = true := by
  unfold sgn; rw [show x / 2 ^ 63 = 1 by omega]; rfl
theorem sgn_iff {x : Nat} (h2 : x < 18446744073709551616) : sgn x = decide (9223372036854775808 ≤ x) := by
  by_cases h : x < 9223372036854775808
  · rw [sgn_lt h]; symm; simpa using h
  · rw [sgn_ge (by omega) h2]; symm; simpa using h
theorem rung_lt {x : Nat} (h : x < 9223372036854775808) : rung x = x := Nat.mod_eq_of_lt (by omega)
theorem rung_ge {x : Nat} (h : 9223372036854775808 ≤ x) (h2 : x < 18446744073709551616) : rung x = x - 9223372036854775808 := by
  unfold rung; omega
theorem top_eq : top = 9218868437227405312 := rfl

def key (x : Nat) : Nat := if (9218868437227405312 < x ∧ x < 9223372036854775808) ∨ 18442240474082181120 < x then 0 else if 9223372036854775808 ≤ x then 18446744073709551615 - x else x + 9223372036854775808
def cls (x : Nat) : Int :=
  if (9218868437227405312 < x ∧ x < 9223372036854775808) ∨ 18442240474082181120 < x then 0 else if x = 18442240474082181120 then 1 else if 9223372036854775808 < x then 2
  else if x = 9223372036854775808 then 3 else if x = 0 then 4 else if x = 9218868437227405312 then 6 else 5

theorem nan_iff (x : Nat) (h2 : x < 18446744073709551616) : nan x = true ↔ (9218868437227405312 < x ∧ x < 9223372036854775808) ∨ 18442240474082181120 < x := by
  unfold nan; rw [top_eq, decide_eq_true_eq]
  by_cases h : x < 9223372036854775808
  · rw [rung_lt h]; omega
  · rw [rung_ge (by omega) h2]; omega

theorem order_self (x : Nat) : (FloatKind.f64.format.order x x != some .eq) = nan x := by
  rw [order_eq]
  cases h : nan x
  · simp
  · simp

theorem and_top (x : Nat) (h : x < 18446744073709551616) : bits .and .u64 (x : Int) 9223372036854775808 = if x < 9223372036854775808 then 0 else 9223372036854775808 := by
  have e := u64_and_nat x 9223372036854775808 h (by decide)
  rw [show ((9223372036854775808 : Nat) : Int) = 9223372036854775808 from rfl] at e
  rw [e, show (9223372036854775808 : Nat) = 2 ^ 63 from rfl, nat_bit]
  by_cases g : x < 2 ^ 63
  · rw [if_pos g, Nat.div_eq_of_lt g]; rfl
  · rw [if_neg g, show x / 2 ^ 63 = 1 by omega]; rfl

theorem and_top_ne (x : Nat) (h : x < 18446744073709551616) : (bits .and .u64 (x : Int) 9223372036854775808 != 0) = decide (9223372036854775808 ≤ x) := by
  rw [and_top x h, Bool.eq_iff_iff]; by_cases g : x < 9223372036854775808
  · rw [if_pos g]; simp; omega
  · rw [if_neg g]; simp; omega

theorem or_top (x : Nat) (h : x < 9223372036854775808) : bits .or .u64 (x : Int) 9223372036854775808 = (x + 9223372036854775808 : Nat) := by
  have e := u64_or_nat x 9223372036854775808 (by omega) (by decide)
  rw [show ((9223372036854775808 : Nat) : Int) = 9223372036854775808 from rfl] at e
  rw [e, Nat.or_comm, nat_join 63 9223372036854775808 x (by decide) h, Nat.add_comm]

theorem xor_all (x : Nat) (h : x < 18446744073709551616) : bits .xor .u64 IntKind.u64.max (x : Int) = (18446744073709551615 - x : Nat) := by
  have e := u64_xor_nat 18446744073709551615 x (by decide) h
  rw [show IntKind.u64.max = ((18446744073709551615 : Nat) : Int) from rfl, e]
  congr 1
  apply Nat.eq_of_testBit_eq
  intro i
  have h2 : 18446744073709551615 - x = 2 ^ 64 - (x + 1) := by omega
  rw [h2, Nat.testBit_two_pow_sub_succ (by omega), Nat.testBit_xor, show (18446744073709551615 : Nat) = 2 ^ 64 - 1 from rfl, Nat.testBit_two_pow_sub_one]
  by_cases g : i < 64
  · simp [g]
  · have : x.testBit i = false := Nat.testBit_lt_two_pow (Nat.lt_of_lt_of_le h (Nat.pow_le_pow_right (by omega) (by omega) : 2 ^ 64 ≤ 2 ^ i))
    simp [g, this]

theorem andNot_top (x : Nat) (h : x < 18446744073709551616) : bits .andNot .u64 (x : Int) 9223372036854775808 = (x % 9223372036854775808 : Nat) := by
  have e := u64_andNot_nat x 9223372036854775808 h (by decide)
  rw [show ((9223372036854775808 : Nat) : Int) = 9223372036854775808 from rfl] at e
  rw [e, show 18446744073709551615 - 9223372036854775808 = 2 ^ 63 - 1 from rfl, Nat.and_two_pow_sub_one_eq_mod]

theorem key_lt (x : Nat) (h : x < 18446744073709551616) : key x < 18446744073709551616 := by
  unfold key; (repeat' split) <;> omega

/-! ### What comparing says, as bounds on the bits -/
theorem val_lt {x : Nat} (h : x < 9223372036854775808) : val x = x := by unfold val; rw [sgn_lt h, rung_lt h]; rfl
theorem val_ge {x : Nat} (h : 9223372036854775808 ≤ x) (h2 : x < 18446744073709551616) : val x = -((x : Int) - 9223372036854775808) := by
  unfold val; rw [sgn_ge h h2, rung_ge h h2]; simp only [if_true]; omega

/-- The word of a key, and whether there is one. -/
def ofB (k : Nat) : Nat := if k < 9223372036854775808 then 18446744073709551615 - k else k - 9223372036854775808
def ofBits (k : Nat) : Nat := if k = 0 then 9221120237041090561 else if (9218868437227405312 < ofB k ∧ ofB k < 9223372036854775808) ∨ 18442240474082181120 < ofB k then 0 else ofB k
def ofOk (k : Nat) : Bool := if k = 0 then true else if (9218868437227405312 < ofB k ∧ ofB k < 9223372036854775808) ∨ 18442240474082181120 < ofB k then false else true
theorem ofB_lt (k : Nat) (h : k < 18446744073709551616) : ofB k < 18446744073709551616 := by unfold ofB; split <;> omega
theorem ofBits_lt (k : Nat) (h : k < 18446744073709551616) : ofBits k < 18446744073709551616 := by
  have := ofB_lt k h; unfold ofBits; (repeat' split) <;> omega

/-- Two floats' order: by their keys. -/
def ord (a b : Nat) : Int := if key a < key b then -1 else if key b < key a then 1 else 0

theorem cmp_lt (a b : Int) : (some (compare a b) == some Ordering.lt) = decide (a < b) := by
  rcases Int.lt_trichotomy a b with h | h | h
  · rw [compare_lt h]; simp [h]
  · rw [compare_eq h]; simp [h]
  · rw [compare_gt h]; symm; simp; omega
theorem cmp_gt (a b : Int) : (some (compare a b) == some Ordering.gt) = decide (b < a) := by
  rcases Int.lt_trichotomy a b with h | h | h
  · rw [compare_lt h]; symm; simp; omega
  · rw [compare_eq h]; simp [h]
  · rw [compare_gt h]; simp [h]
theorem cmp_eq (a b : Int) : (some (compare a b) == some Ordering.eq) = decide (a = b) := by
  rcases Int.lt_trichotomy a b with h | h | h
  · rw [compare_lt h]; symm; simp; omega
  · rw [compare_eq h]; simp [h]
  · rw [compare_gt h]; symm; simp; omega

theorem order_lt (x y : Nat) : (FloatKind.f64.format.order x y == some .lt) = (!nan x && !nan y && decide (val x < val y)) := by
  rw [order_eq]; cases nan x <;> cases nan y <;> first | exact cmp_lt _ _ | rfl
theorem order_gt (x y : Nat) : (FloatKind.f64.format.order x y == some .gt) = (!nan x && !nan y && decide (val y < val x)) := by
  rw [order_eq]; cases nan x <;> cases nan y <;> first | exact cmp_gt _ _ | rfl
theorem order_eqs (x y : Nat) : (FloatKind.f64.format.order x y == some .eq) = (!nan x && !nan y && decide (val x = val y)) := by
  rw [order_eq]; cases nan x <;> cases nan y <;> first | exact cmp_eq _ _ | rfl

theorem nan_dec (x : Nat) (h : x < 18446744073709551616) : nan x = decide ((9218868437227405312 < x ∧ x < 9223372036854775808) ∨ 18442240474082181120 < x) := by
  have := nan_iff x h
  cases hn : nan x
  · symm; rw [decide_eq_false_iff_not]; intro g; rw [this.2 g] at hn; cases hn
  · symm; rw [decide_eq_true_eq]; exact this.1 hn
theorem neg_eq (x : Nat) (h : x < 18446744073709551616) : Op.negFloat .f64 x = if x < 9223372036854775808 then x + 9223372036854775808 else x - 9223372036854775808 := by
  show x ^^^ 2 ^ 63 = _
  by_cases g : x < 2 ^ 63
  · rw [if_pos g]
    have e : x ^^^ 2 ^ 63 = 2 ^ 63 ||| x := by
      apply Nat.eq_of_testBit_eq; intro i
      rw [Nat.testBit_xor, Nat.testBit_or]
      by_cases hi : i = 63
      · subst hi; rw [Nat.testBit_lt_two_pow g]; simp
      · rw [Nat.testBit_two_pow_of_ne (by omega)]; simp
    rw [e, nat_join 63 (2 ^ 63) x (by decide) g, Nat.add_comm]
  · rw [if_neg g]
    obtain ⟨y, rfl⟩ : ∃ y, x = 2 ^ 63 + y := ⟨x - 2 ^ 63, by omega⟩
    have hy : y < 2 ^ 63 := by omega
    rw [← nat_join 63 (2 ^ 63) y (by decide) hy]
    have e : (2 ^ 63 ||| y) ^^^ 2 ^ 63 = y := by
      apply Nat.eq_of_testBit_eq; intro i
      rw [Nat.testBit_xor, Nat.testBit_or]
      by_cases hi : i = 63
      · subst hi; rw [Nat.testBit_lt_two_pow hy]; simp
      · rw [Nat.testBit_two_pow_of_ne (by omega)]; simp
    rw [e, nat_join 63 (2 ^ 63) y (by decide) hy]; omega

/-- The same as bounds, for the walk: each holds of any word. -/
theorem self_dec (x : Nat) (h : x < 18446744073709551616) : (FloatKind.f64.format.order x x != some .eq) = decide ((9218868437227405312 < x ∧ x < 9223372036854775808) ∨ 18442240474082181120 < x) := by
  rw [order_self, nan_dec x h]
theorem lt0_dec (x : Nat) (h : x < 18446744073709551616) : (FloatKind.f64.format.order x 0 == some .lt) = decide (9223372036854775808 < x ∧ x ≤ 18442240474082181120) := by
  rw [order_lt, nan_dec x h, nan_dec 0 (by decide), val_lt (x := 0) (by decide)]
  by_cases g : x < 9223372036854775808
  · rw [val_lt g, Bool.eq_iff_iff]; simp; omega
  · rw [val_ge (by omega) h, Bool.eq_iff_iff]; simp; omega
theorem gt0_dec (x : Nat) (h : x < 18446744073709551616) : (FloatKind.f64.format.order x 0 == some .gt) = decide (0 < x ∧ x ≤ 9218868437227405312) := by
  rw [order_gt, nan_dec x h, nan_dec 0 (by decide), val_lt (x := 0) (by decide)]
  by_cases g : x < 9223372036854775808
  · rw [val_lt g, Bool.eq_iff_iff]; simp; omega
  · rw [val_ge (by omega) h, Bool.eq_iff_iff]; simp; omega
theorem eq0_dec (x : Nat) (h : x < 18446744073709551616) : (FloatKind.f64.format.order x 0 == some .eq) = decide (x = 0 ∨ x = 9223372036854775808) := by
  rw [order_eqs, nan_dec x h, nan_dec 0 (by decide), val_lt (x := 0) (by decide)]
  by_cases g : x < 9223372036854775808
  · rw [val_lt g, Bool.eq_iff_iff]; simp; omega
  · rw [val_ge (by omega) h, Bool.eq_iff_iff]; simp; omega
theorem gtmax_dec (x : Nat) (h : x < 18446744073709551616) : (FloatKind.f64.format.order x 9218868437227405311 == some .gt) = decide (x = 9218868437227405312) := by
  rw [order_gt, nan_dec x h, nan_dec 9218868437227405311 (by decide), val_lt (x := 9218868437227405311) (by decide)]
  by_cases g : x < 9223372036854775808
  · rw [val_lt g, Bool.eq_iff_iff]; simp; omega
  · rw [val_ge (by omega) h, Bool.eq_iff_iff]; simp; omega
theorem gtmax_neg (x : Nat) (h : x < 18446744073709551616) : (FloatKind.f64.format.order (Op.negFloat .f64 x) 9218868437227405311 == some .gt) = decide (x = 18442240474082181120) := by
  rw [neg_eq x h, gtmax_dec _ (by split <;> omega), Bool.eq_iff_iff]; simp; split <;> omega
theorem gtmax_abs (x : Nat) (h : x < 18446744073709551616) : (FloatKind.f64.format.order (x % 9223372036854775808) 9218868437227405311 == some .gt) = decide (x = 9218868437227405312 ∨ x = 18442240474082181120) := by
  rw [gtmax_dec _ (by omega), Bool.eq_iff_iff]; simp; omega

theorem key_of_cls_lt (x y : Nat) (hx : x < 18446744073709551616) (hy : y < 18446744073709551616) (h : cls x < cls y) : key x < key y := by
  unfold cls at h; unfold key
  by_cases a : (9218868437227405312 < x ∧ x < 9223372036854775808) ∨ 18442240474082181120 < x
  · rw [if_pos a] at h ⊢
    by_cases b : (9218868437227405312 < y ∧ y < 9223372036854775808) ∨ 18442240474082181120 < y
    · rw [if_pos b] at h; omega
    · rw [if_neg b]; split <;> omega
  · rw [if_neg a] at h ⊢
    by_cases b : (9218868437227405312 < y ∧ y < 9223372036854775808) ∨ 18442240474082181120 < y
    · rw [if_pos b] at h; revert h; (repeat' split) <;> omega
    · rw [if_neg b] at h ⊢; revert h; (repeat' split) <;> omega
theorem key_of_cls_eq (x y : Nat) (hx : x < 18446744073709551616) (hy : y < 18446744073709551616) (h : cls x = cls y) (h2 : cls x ≠ 2) (h5 : cls x ≠ 5) : key x = key y := by
  unfold cls at h h2 h5; unfold key
  by_cases a : (9218868437227405312 < x ∧ x < 9223372036854775808) ∨ 18442240474082181120 < x
  · rw [if_pos a] at h ⊢
    by_cases b : (9218868437227405312 < y ∧ y < 9223372036854775808) ∨ 18442240474082181120 < y
    · rw [if_pos b]
    · rw [if_neg b] at h; revert h; (repeat' split) <;> omega
  · rw [if_neg a] at h h2 h5 ⊢
    by_cases b : (9218868437227405312 < y ∧ y < 9223372036854775808) ∨ 18442240474082181120 < y
    · rw [if_pos b] at h; revert h; (repeat' split) <;> omega
    · rw [if_neg b] at h ⊢; revert h h2 h5; (repeat' split) <;> omega
theorem cls_num (x : Nat) (hx : x < 18446744073709551616) (h : cls x = 2 ∨ cls x = 5) :
    nan x = false ∧ ((cls x = 2 ∧ 9223372036854775808 < x ∧ x ≤ 18442240474082181120) ∨ (cls x = 5 ∧ x < 9218868437227405312)) := by
  rw [nan_dec x hx, decide_eq_false_iff_not]
  unfold cls at *; revert h; (repeat' split) <;> omega
theorem key_num (x : Nat) (h : nan x = false) (hx : x < 18446744073709551616) : key x = if 9223372036854775808 ≤ x then 18446744073709551615 - x else x + 9223372036854775808 := by
  rw [nan_dec x hx, decide_eq_false_iff_not] at h
  unfold key; rw [if_neg h]
theorem ord_num (x y : Nat) (hx : x < 18446744073709551616) (hy : y < 18446744073709551616) (h : cls x = cls y) (h2 : cls x = 2 ∨ cls x = 5) :
    (FloatKind.f64.format.order x y == some .lt) = decide (key x < key y) ∧ (FloatKind.f64.format.order x y == some .gt) = decide (key y < key x) := by
  have a := cls_num x hx h2
  have b := cls_num y hy (by omega)
  rw [order_lt, order_gt, a.1, b.1, key_num x a.1 hx, key_num y b.1 hy]
  by_cases g : x < 9223372036854775808
  · have g2 : y < 9223372036854775808 := by omega
    rw [val_lt g, val_lt g2, if_neg (by omega), if_neg (by omega)]
    constructor <;> (rw [Bool.eq_iff_iff]; simp)
  · rw [val_ge (by omega) hx, val_ge (by omega) hy, if_pos (by omega), if_pos (by omega)]
    constructor <;> (rw [Bool.eq_iff_iff]; simp; omega)

theorem of_zero : ofBits 0 = 9221120237041090561 ∧ ofOk 0 = true := ⟨rfl, rfl⟩
theorem of_nan (k : Nat) (hz : k ≠ 0) (hk : k < 18446744073709551616) (h : nan (ofB k) = true) : ofBits k = 0 ∧ ofOk k = false := by
  rw [nan_dec _ (ofB_lt k hk), decide_eq_true_eq] at h
  unfold ofBits ofOk; rw [if_neg hz, if_neg hz, if_pos h, if_pos h]; exact ⟨rfl, rfl⟩
theorem of_num (k : Nat) (hz : k ≠ 0) (hk : k < 18446744073709551616) (h : nan (ofB k) = false) : ofBits k = ofB k ∧ ofOk k = true := by
  rw [nan_dec _ (ofB_lt k hk), decide_eq_false_iff_not] at h
  unfold ofBits ofOk; rw [if_neg hz, if_neg hz, if_neg h, if_neg h]; exact ⟨rfl, rfl⟩

/-! ### A key bit by bit -/
theorem bit_dec (x k : Nat) : x / 2 ^ k % 2 = (x.testBit k).toNat := by
  rw [Nat.testBit_eq_decide_div_mod_eq]
  rcases Nat.mod_two_eq_zero_or_one (x / 2 ^ k) with h | h <;> rw [h] <;> rfl
theorem key_bit (x k : Nat) (hx : x < 18446744073709551616) (hn : nan x = false) (hk : k < 64) :
    key x / 2 ^ k % 2 = if 9223372036854775808 ≤ x ∨ k = 63 then 1 - x / 2 ^ k % 2 else x / 2 ^ k % 2 := by
  rw [key_num x hn hx, bit_dec, bit_dec]
  by_cases g : 9223372036854775808 ≤ x
  · rw [if_pos g, if_pos (Or.inl g), show 18446744073709551615 - x = 2 ^ 64 - (x + 1) by omega, Nat.testBit_two_pow_sub_succ (by omega)]
    rw [show decide (k < 64) = true by simpa using hk]
    cases x.testBit k <;> rfl
  · rw [if_neg g, Nat.add_comm, ← nat_join 63 9223372036854775808 x (by decide) (by omega), Nat.testBit_or, show 9223372036854775808 = 2 ^ 63 from rfl]
    by_cases h : k = 63
    · subst h
      rw [if_pos (Or.inr rfl), Nat.testBit_lt_two_pow (by omega : x < 2 ^ 63), Nat.testBit_two_pow_self]; rfl
    · rw [if_neg (by omega), Nat.testBit_two_pow_of_ne (by omega)]; rfl
theorem and_one (x k : Nat) (hx : x < 18446744073709551616) : bits .and .u64 ((x : Int) / 2 ^ k) 1 = ((x / 2 ^ k % 2 : Nat) : Int) := by
  have e := u64_and_nat (x / 2 ^ k) 1 (Nat.lt_of_le_of_lt (Nat.div_le_self _ _) hx) (by decide)
  rw [nat_mask1] at e
  rw [← e]; simp
theorem pow_cast (k : Nat) : (2 : Int) ^ k = ((2 ^ k : Nat) : Int) := by simp
theorem bit_step (K k b : Nat) (hK : K < 18446744073709551616) (hb : b = K / 2 ^ k % 2) :
    IntKind.u64.wrap (((K % 2 ^ k : Nat) : Int) + IntKind.u64.wrap ((b : Int) * 2 ^ k)) = ((K % 2 ^ (k + 1) : Nat) : Int) := by
  have e : K % 2 ^ (k + 1) = K % 2 ^ k + 2 ^ k * b := by rw [hb, Nat.mod_pow_succ]
  have l : K % 2 ^ (k + 1) < 18446744073709551616 := Nat.lt_of_le_of_lt (Nat.mod_le _ _) hK
  rw [pow_cast, ← Int.natCast_mul, Nat.mul_comm b]
  rw [IntKind.wrap_u64, IntKind.wrap_u64, Int.emod_eq_of_lt (a := ((2 ^ k * b : Nat) : Int)) (by omega) (by omega)]
  rw [Int.emod_eq_of_lt (by omega) (by omega)]
  omega
theorem step_keep (x k : Nat) (hx : x < 18446744073709551616) (hn : nan x = false) (hk : k < 64) (h : ¬ (9223372036854775808 ≤ x ∨ k = 63)) :
    IntKind.u64.wrap ((key x : Int) % 2 ^ k + IntKind.u64.wrap ((x : Int) / 2 ^ k % 2 * 2 ^ k)) = ((key x % 2 ^ (k + 1) : Nat) : Int) := by
  have e := key_bit x k hx hn hk
  rw [if_neg h] at e
  rw [← bit_step (key x) k (x / 2 ^ k % 2) (key_lt x hx) e.symm]
  simp
theorem step_flip (x k : Nat) (hx : x < 18446744073709551616) (hn : nan x = false) (hk : k < 64) (h : 9223372036854775808 ≤ x ∨ k = 63) :
    IntKind.u64.wrap ((key x : Int) % 2 ^ k + IntKind.u64.wrap ((1 - (x : Int) / 2 ^ k % 2) * 2 ^ k)) = ((key x % 2 ^ (k + 1) : Nat) : Int) := by
  have e := key_bit x k hx hn hk
  rw [if_pos h] at e
  rw [← bit_step (key x) k (1 - x / 2 ^ k % 2) (key_lt x hx) e.symm]
  have l : x / 2 ^ k % 2 < 2 := Nat.mod_lt _ (by omega)
  have c : (1 - (x : Int) / 2 ^ k % 2) = ((1 - x / 2 ^ k % 2 : Nat) : Int) := by
    rw [show (x : Int) / 2 ^ k = ((x / 2 ^ k : Nat) : Int) by simp]; omega
  rw [c]; simp
theorem bit_flip (b : Nat) (h : b < 2) : IntKind.u64.wrap (1 - (b : Int)) = ((1 - b : Nat) : Int) := by
  rw [IntKind.wrap_u64]; omega

end Fl
end Go
