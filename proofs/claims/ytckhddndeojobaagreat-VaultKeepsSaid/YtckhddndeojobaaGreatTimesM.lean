/- Exact products of an integer and a float, cut downwards: plain mathematics, no program. -/
import Derived.Test.YtckhddndeojobaaGreatFloat
import Derived.Lib.BitFns
namespace Go
namespace Fl

/-- The unit: a float's size is so many of 1 / unit. -/
@[irreducible] def ex : Nat := 1074
theorem ex_eq : ex = 1074 := by unfold ex; rfl
@[irreducible] def unit : Nat := 2 ^ ex
theorem unit_eq : unit = 2 ^ ex := by unfold unit; rfl
theorem unit_pos : 0 < unit := by unfold unit; exact Nat.two_pow_pos _
/-- A finite float, times the unit. -/
def sz (x : Nat) : Int := if 9223372036854775808 ≤ x then -(size (rung x) : Int) else (size (rung x) : Int)
/-- The greatest whole number that is not above n times x. -/
def prodF (n : Int) (x : Nat) : Int := n * sz x / unit
def inf (x : Nat) : Bool := decide (x = 9218868437227405312 ∨ x = 18442240474082181120)
def fits (n : Int) : Bool := decide (-9223372036854775808 ≤ n ∧ n < 9223372036854775808)
def timesV (n : Int) (x : Nat) : Int := if nan x || inf x then 0 else if fits (prodF n x) then prodF n x else 0
def timesE (n : Int) (x : Nat) : Int :=
  if nan x || (inf x && n == 0) then 10 else if inf x then 11 else if fits (prodF n x) then 0 else 11

/-- P times 2 to the power of e, cut downwards, and whether something was cut off. -/
def wholeOf (P : Nat) (e : Int) : Nat := if 0 ≤ e then P * 2 ^ e.toNat else P / 2 ^ (-e).toNat
def cutOf (P : Nat) (e : Int) : Bool := if 0 ≤ e then false else decide (P % 2 ^ (-e).toNat ≠ 0)

/-- What a size that is whole, and a bit more if something was cut off, comes to. -/
def floorV (whole : Nat) (cut below : Bool) : Int := if below then (if cut then -(whole : Int) - 1 else -(whole : Int)) else (whole : Int)

theorem floor_pos (P u : Nat) : ((P * 2 ^ u : Nat) : Int) / unit = floorV (wholeOf P ((u : Int) - 1074)) (cutOf P ((u : Int) - 1074)) false := by
  have hx := ex_eq
  unfold floorV wholeOf unit
  simp only [Bool.false_eq_true, if_false]
  rw [← Int.natCast_ediv]
  congr 1
  by_cases h : 1074 ≤ u
  · rw [if_pos (by omega)]
    have e : 2 ^ u = 2 ^ ((u : Int) - 1074).toNat * 2 ^ ex := by rw [← Nat.pow_add]; congr 1; omega
    rw [e, ← Nat.mul_assoc, Nat.mul_div_cancel _ (Nat.two_pow_pos _)]
  · rw [if_neg (by omega)]
    have e : 2 ^ ex = 2 ^ u * 2 ^ (-((u : Int) - 1074)).toNat := by rw [← Nat.pow_add]; congr 1; omega
    rw [e, Nat.mul_comm P, Nat.mul_div_mul_left _ _ (Nat.two_pow_pos _)]

theorem neg_floor (a d : Nat) (hd : 0 < d) : (-(a : Int)) / (d : Int) = if a % d = 0 then -((a / d : Nat) : Int) else -((a / d : Nat) : Int) - 1 := by
  have h := Nat.div_add_mod a d
  have l := Nat.mod_lt a hd
  have hd' : (0 : Int) < (d : Int) := by omega
  generalize a / d = q at *
  generalize a % d = r at *
  subst h
  split
  · subst r
    rw [show (-((d * q + 0 : Nat) : Int)) = (-(q : Int)) * (d : Int) by rw [Nat.add_zero, Int.natCast_mul, Int.neg_mul, Int.mul_comm]]
    exact Int.mul_ediv_cancel _ (by omega)
  · have e : (-((d * q + r : Nat) : Int)) = ((d : Int) - r) + (-(q : Int) - 1) * (d : Int) := by
      rw [Int.natCast_add, Int.natCast_mul, Int.sub_mul, Int.neg_mul, Int.one_mul, Int.mul_comm (q : Int)]; omega
    rw [e, Int.add_mul_ediv_right _ _ (by omega), Int.ediv_eq_zero_of_lt (by omega) (by omega)]; omega

theorem floor_neg (P u : Nat) : (-((P * 2 ^ u : Nat) : Int)) / unit = floorV (wholeOf P ((u : Int) - 1074)) (cutOf P ((u : Int) - 1074)) true := by
  have hx := ex_eq
  have hp := floor_pos P u
  rw [neg_floor _ _ unit_pos]
  rw [← Int.natCast_ediv] at hp
  unfold floorV at *
  simp only [Bool.false_eq_true, if_false, if_true] at *
  have hp' : P * 2 ^ u / unit = wholeOf P ((u : Int) - 1074) := by omega
  have hm : (P * 2 ^ u % unit = 0) ↔ cutOf P ((u : Int) - 1074) = false := by
    unfold cutOf unit
    by_cases h : 1074 ≤ u
    · rw [if_pos (by omega)]
      have e : 2 ^ u = 2 ^ ((u : Int) - 1074).toNat * 2 ^ ex := by rw [← Nat.pow_add]; congr 1; omega
      rw [e, ← Nat.mul_assoc, Nat.mul_mod_left]; simp
    · rw [if_neg (by omega)]
      have e : 2 ^ ex = 2 ^ u * 2 ^ (-((u : Int) - 1074)).toNat := by rw [← Nat.pow_add]; congr 1; omega
      have hq := Nat.two_pow_pos u
      rw [e, Nat.mul_comm P, Nat.mul_mod_mul_left, decide_eq_false_iff_not, Nat.mul_eq_zero]
      constructor
      · intro g; rcases g with g | g
        · omega
        · simpa using g
      · intro g; right; simpa using g
  rw [hp']
  by_cases g : P * 2 ^ u % unit = 0
  · rw [if_pos g, hm.1 g]; simp
  · rw [if_neg g]
    have : cutOf P ((u : Int) - 1074) = true := by
      cases hc : cutOf P ((u : Int) - 1074)
      · exact absurd (hm.2 hc) g
      · rfl
    rw [this]; simp

/-! ### How long a number is -/
theorem bitLen_spec (x : Nat) (hx : x < 18446744073709551616) : x < 2 ^ Lib.bitLen x ∧ (x ≠ 0 → 2 ^ Lib.bitLen x ≤ 2 * x) := by
  by_cases h0 : x = 0
  · subst h0; exact ⟨by decide, by omega⟩
  · have h1 := Nat.log2_self_le h0
    have h2 : x < 2 ^ (x.log2 + 1) := Nat.lt_log2_self
    have hd : x / 2 ^ x.log2 = 1 := by
      have hp := Nat.two_pow_pos x.log2
      have : x / 2 ^ x.log2 < 2 := (Nat.div_lt_iff_lt_mul hp).2 (by rw [Nat.mul_comm, ← Nat.pow_succ]; exact h2)
      have : 1 ≤ x / 2 ^ x.log2 := (Nat.le_div_iff_mul_le hp).2 (by omega)
      omega
    have e : Lib.bitLen x = x.log2 + 1 := by
      rw [Lib.bitLen_shift x.log2 x h1 hx, hd]; rfl
    rw [e]
    refine ⟨h2, fun _ => ?_⟩
    rw [Nat.pow_succ]; omega

/-- The length of hi * 2^64 + lo. -/
def lenOf (hi lo : Nat) : Nat := if hi ≠ 0 then 64 + Lib.bitLen hi else Lib.bitLen lo
theorem lenOf_spec (hi lo : Nat) (h1 : hi < 18446744073709551616) (h2 : lo < 18446744073709551616) :
    hi * 18446744073709551616 + lo < 2 ^ lenOf hi lo ∧ (hi * 18446744073709551616 + lo ≠ 0 → 2 ^ lenOf hi lo ≤ 2 * (hi * 18446744073709551616 + lo) ∧ 1 ≤ lenOf hi lo) := by
  unfold lenOf
  by_cases h : hi = 0
  · subst h
    have := bitLen_spec lo h2
    simp only [ne_eq, not_true_eq_false, if_false, Nat.zero_mul, Nat.zero_add]
    refine ⟨this.1, fun g => ⟨this.2 g, ?_⟩⟩
    by_cases z : Lib.bitLen lo = 0
    · rw [z] at this; omega
    · omega
  · have := bitLen_spec hi h1
    rw [if_pos h, Nat.pow_add, show (2 : Nat) ^ 64 = 18446744073709551616 from rfl]
    generalize 2 ^ Lib.bitLen hi = B at *
    exact ⟨by omega, fun _ => ⟨by omega, by omega⟩⟩
theorem lenOf_le (hi lo : Nat) (h1 : hi < 18446744073709551616) (h2 : lo < 18446744073709551616) : lenOf hi lo ≤ 128 := by
  unfold lenOf
  have a := Lib.bitLen_le hi 64 (by omega) h1
  have b := Lib.bitLen_le lo 64 (by omega) h2
  split <;> omega

/-! ### Shifting a number of 128 bits -/
theorem whole_lt (P L : Nat) (e : Int) (h : P < 2 ^ L) (hl : (L : Int) + e ≤ 64) : wholeOf P e < 18446744073709551616 := by
  unfold wholeOf
  by_cases g : 0 ≤ e
  · rw [if_pos g]
    have : P * 2 ^ e.toNat < 2 ^ L * 2 ^ e.toNat := Nat.mul_lt_mul_of_pos_right h (Nat.two_pow_pos _)
    rw [← Nat.pow_add] at this
    have k : 2 ^ (L + e.toNat) ≤ 2 ^ 64 := Nat.pow_le_pow_right (by omega) (by omega)
    omega
  · rw [if_neg g]
    have hp := Nat.two_pow_pos (-e).toNat
    rw [Nat.div_lt_iff_lt_mul hp, show 18446744073709551616 = 2 ^ 64 from rfl, ← Nat.pow_add]
    exact Nat.lt_of_lt_of_le h (Nat.pow_le_pow_right (by omega) (by omega))
theorem whole_ge (P L : Nat) (e : Int) (h : 2 ^ L ≤ 2 * P) (hl : 64 < (L : Int) + e) (hL : 1 ≤ L) : 18446744073709551616 ≤ wholeOf P e := by
  unfold wholeOf
  obtain ⟨l, rfl⟩ : ∃ l, L = l + 1 := ⟨L - 1, by omega⟩
  rw [Nat.pow_succ] at h
  have h' : 2 ^ l ≤ P := by omega
  by_cases g : 0 ≤ e
  · rw [if_pos g]
    have : 2 ^ l * 2 ^ e.toNat ≤ P * 2 ^ e.toNat := Nat.mul_le_mul_right _ h'
    rw [← Nat.pow_add] at this
    have k : 2 ^ 64 ≤ 2 ^ (l + e.toNat) := Nat.pow_le_pow_right (by omega) (by omega)
    omega
  · rw [if_neg g]
    have hp := Nat.two_pow_pos (-e).toNat
    rw [Nat.le_div_iff_mul_le hp, show 18446744073709551616 = 2 ^ 64 from rfl, ← Nat.pow_add]
    exact Nat.le_trans (Nat.pow_le_pow_right (by omega) (by omega)) h'

theorem shift_low (hi lo s : Nat) (h2 : lo < 2 ^ 64) (s1 : 1 ≤ s) (s2 : s < 64) :
    (hi * 2 ^ 64 + lo) / 2 ^ s = hi * 2 ^ (64 - s) + lo / 2 ^ s ∧ (hi * 2 ^ 64 + lo) % 2 ^ s = lo % 2 ^ s ∧ lo / 2 ^ s < 2 ^ (64 - s) := by
  have e : 2 ^ 64 = 2 ^ (64 - s) * 2 ^ s := by rw [← Nat.pow_add]; congr 1; omega
  have hp := Nat.two_pow_pos s
  refine ⟨?_, ?_, ?_⟩
  · rw [e, ← Nat.mul_assoc, Nat.add_comm, Nat.add_mul_div_right _ _ hp, Nat.add_comm]
  · rw [e, ← Nat.mul_assoc, Nat.add_comm, Nat.add_mul_mod_self_right]
  · rw [Nat.div_lt_iff_lt_mul hp, ← e]; exact h2
theorem shift_high (hi lo s : Nat) (h2 : lo < 2 ^ 64) (s1 : 64 ≤ s) :
    (hi * 2 ^ 64 + lo) / 2 ^ s = hi / 2 ^ (s - 64) ∧ ((hi * 2 ^ 64 + lo) % 2 ^ s = 0 ↔ lo = 0 ∧ hi % 2 ^ (s - 64) = 0) := by
  have e : 2 ^ s = 2 ^ 64 * 2 ^ (s - 64) := by rw [← Nat.pow_add]; congr 1; omega
  have a : (hi * 2 ^ 64 + lo) / 2 ^ 64 = hi := by omega
  have b : (hi * 2 ^ 64 + lo) % 2 ^ 64 = lo := by omega
  refine ⟨by rw [e, ← Nat.div_div_eq_div_mul, a], ?_⟩
  rw [e, Nat.mod_mul, a, b]
  constructor
  · intro h
    refine ⟨by omega, ?_⟩
    have : 2 ^ 64 * (hi % 2 ^ (s - 64)) = 0 := by omega
    rcases Nat.mul_eq_zero.1 this with g | g
    · exact absurd g (by decide)
    · exact g
  · rintro ⟨h, g⟩; rw [h, g]

theorem wrap_shl (a s : Nat) (hs : s ≤ 64) : (IntKind.u64.wrap ((a : Int) * 2 ^ (64 - s)) != 0) = decide (a % 2 ^ s ≠ 0) := by
  rw [IntKind.wrap_u64, pow_cast, ← Int.natCast_mul, show (18446744073709551616 : Int) = ((2 ^ 64 : Nat) : Int) from rfl, ← Int.natCast_emod]
  have e : 2 ^ 64 = 2 ^ (64 - s) * 2 ^ s := by rw [← Nat.pow_add]; congr 1; omega
  have m : a * 2 ^ (64 - s) % 2 ^ 64 = 2 ^ (64 - s) * (a % 2 ^ s) := by rw [e, Nat.mul_comm a, Nat.mul_mod_mul_left]
  rw [m]
  have hp := Nat.two_pow_pos (64 - s)
  rw [Bool.eq_iff_iff]
  simp only [bne_iff_ne, ne_eq, decide_eq_true_eq, Int.natCast_eq_zero, Nat.mul_eq_zero]
  constructor
  · intro h g; exact h (Or.inr g)
  · intro h g; rcases g with g | g
    · omega
    · exact h g

/-! ### A float's fraction and exponent -/
theorem and_frac (x : Nat) (hx : x < 18446744073709551616) : bits .and .u64 (x : Int) 4503599627370495 = (x : Int) % 4503599627370496 := by
  have e := u64_and_nat x 4503599627370495 hx (by decide)
  rw [show (4503599627370495 : Nat) = 2 ^ 52 - 1 from rfl, Nat.and_two_pow_sub_one_eq_mod] at e
  exact e
theorem and_exp (x : Nat) (hx : x < 18446744073709551616) : bits .and .u64 ((x : Int) / 4503599627370496) 2047 = (x : Int) / 4503599627370496 % 2048 := by
  have e := u64_and_nat (x / 4503599627370496) 2047 (by omega) (by decide)
  rw [show (2047 : Nat) = 2 ^ 11 - 1 from rfl, Nat.and_two_pow_sub_one_eq_mod] at e
  exact e
theorem or_hidden (x : Nat) : bits .or .u64 ((x : Int) % 4503599627370496) 4503599627370496 = (x : Int) % 4503599627370496 + 4503599627370496 := by
  have e := u64_or_nat (x % 4503599627370496) 4503599627370496 (by omega) (by decide)
  rw [Nat.or_comm, nat_join 52 4503599627370496 (x % 4503599627370496) (by decide) (Nat.mod_lt _ (by decide))] at e
  rw [show (x : Int) % 4503599627370496 = ((x % 4503599627370496 : Nat) : Int) by omega]
  rw [show (4503599627370496 : Int) = ((4503599627370496 : Nat) : Int) from rfl, e]
  omega
theorem mant_low (x : Nat) (h : (x : Int) / 4503599627370496 % 2048 = 0) : mant (rung x) = x % 4503599627370496 ∧ up (rung x) = 0 := by
  have r : rung x = x % 9223372036854775808 := rfl
  have g : rung x < 2 ^ 52 := by omega
  unfold mant up; rw [if_pos g, if_pos g]; omega
theorem mant_high (x : Nat) (h : ¬ (x : Int) / 4503599627370496 % 2048 = 0) : mant (rung x) = x % 4503599627370496 + 4503599627370496 ∧ (up (rung x) : Int) = (x : Int) / 4503599627370496 % 2048 - 1 := by
  have r : rung x = x % 9223372036854775808 := rfl
  have g : ¬ rung x < 2 ^ 52 := by omega
  unfold mant up; rw [if_neg g, if_neg g]; omega
theorem mant_lt (r : Nat) : mant r < 9007199254740992 := by
  unfold mant; split <;> omega
theorem up_le (r : Nat) (h : r < 9223372036854775808) : up r ≤ 2046 := by
  unfold up; split <;> omega
theorem mant_zero (r : Nat) : mant r = 0 ↔ r = 0 := by
  unfold mant; split <;> omega
theorem sz_eq (x : Nat) : sz x = (if 9223372036854775808 ≤ x then -1 else 1) * ((mant (rung x) * 2 ^ up (rung x) : Nat) : Int) := by
  unfold sz; rw [size_eq]; split <;> simp

/-! ### The product -/
theorem prodF_eq (n : Int) (x : Nat) (b : Bool) (hb : b = true ↔ ((n < 0 ∧ ¬ 9223372036854775808 ≤ x) ∨ (0 ≤ n ∧ 9223372036854775808 ≤ x))) :
    prodF n x = floorV (wholeOf (n.natAbs * mant (rung x)) ((up (rung x) : Int) - 1074)) (cutOf (n.natAbs * mant (rung x)) ((up (rung x) : Int) - 1074)) b := by
  unfold prodF
  rw [sz_eq]
  generalize mant (rung x) = m
  generalize up (rung x) = u
  have e : ∀ k : Nat, (k : Int) * ((m * 2 ^ u : Nat) : Int) = ((k * m * 2 ^ u : Nat) : Int) := fun k => by rw [← Int.natCast_mul, Nat.mul_assoc]
  by_cases hn : n < 0
  · obtain ⟨k, rfl⟩ : ∃ k : Nat, n = -(k : Int) := ⟨n.natAbs, by omega⟩
    rw [Int.natAbs_neg, Int.natAbs_natCast]
    by_cases hx : 9223372036854775808 ≤ x
    · have : b = false := Bool.eq_false_iff.2 (fun g => by have := hb.1 g; omega)
      rw [if_pos hx, this, show -(k : Int) * (-1 * ((m * 2 ^ u : Nat) : Int)) = (k : Int) * ((m * 2 ^ u : Nat) : Int) by rw [Int.neg_mul, Int.neg_mul, Int.one_mul, Int.mul_neg, Int.neg_neg], e]
      exact floor_pos _ _
    · have : b = true := hb.2 (Or.inl ⟨hn, hx⟩)
      rw [if_neg hx, this, Int.one_mul, Int.neg_mul, e]
      exact floor_neg _ _
  · obtain ⟨k, rfl⟩ : ∃ k : Nat, n = (k : Int) := ⟨n.natAbs, by omega⟩
    rw [Int.natAbs_natCast]
    by_cases hx : 9223372036854775808 ≤ x
    · have : b = true := hb.2 (Or.inr ⟨by omega, hx⟩)
      rw [if_pos hx, this, Int.neg_mul, Int.one_mul, Int.mul_neg, e]
      exact floor_neg _ _
    · have : b = false := Bool.eq_false_iff.2 (fun g => by have := hb.1 g; omega)
      rw [if_neg hx, this, Int.one_mul, e]
      exact floor_pos _ _
theorem floorV_far (w : Nat) (c b : Bool) (h : 18446744073709551616 ≤ w) : ¬ (-9223372036854775808 ≤ floorV w c b ∧ floorV w c b < 9223372036854775808) := by
  unfold floorV; cases b <;> cases c <;> simp <;> omega
theorem prodF_zero (n : Int) (x : Nat) (h : n = 0 ∨ x = 0 ∨ x = 9223372036854775808) : prodF n x = 0 := by
  have : n * sz x = 0 := by
    rcases h with h | h | h
    · rw [h, Int.zero_mul]
    · rw [h, show sz 0 = 0 from rfl, Int.mul_zero]
    · rw [h, show sz 9223372036854775808 = 0 by rw [sz_eq, if_pos (by omega), show rung 9223372036854775808 = 0 from rfl, (mant_zero 0).2 rfl, Nat.zero_mul]; rfl, Int.mul_zero]
  unfold prodF; rw [this]; exact Int.zero_ediv _
/-- A product whose digits reach too far is no int64. -/
theorem prodF_far (n : Int) (x p : Nat) (hp : p = n.natAbs * mant (rung x)) (h0 : p ≠ 0) (h1 : p / 18446744073709551616 < 18446744073709551616)
    (h : 64 < (lenOf (p / 18446744073709551616) (p % 18446744073709551616) : Int) + ((up (rung x) : Int) - 1074)) :
    ¬ (-9223372036854775808 ≤ prodF n x ∧ prodF n x < 9223372036854775808) := by
  have l := lenOf_spec (p / 18446744073709551616) (p % 18446744073709551616) h1 (Nat.mod_lt _ (by decide))
  rw [show p / 18446744073709551616 * 18446744073709551616 + p % 18446744073709551616 = p by omega] at l
  have l2 := l.2 h0
  have k := whole_ge p _ _ l2.1 h l2.2
  rw [prodF_eq n x (decide ((n < 0 ∧ ¬ 9223372036854775808 ≤ x) ∨ (0 ≤ n ∧ 9223372036854775808 ≤ x))) (by rw [decide_eq_true_eq]), ← hp]
  exact floorV_far _ _ _ k
theorem whole_near (p : Nat) (e : Int) (h1 : p / 18446744073709551616 < 18446744073709551616)
    (h : (lenOf (p / 18446744073709551616) (p % 18446744073709551616) : Int) + e ≤ 64) : wholeOf p e < 18446744073709551616 := by
  have l := lenOf_spec (p / 18446744073709551616) (p % 18446744073709551616) h1 (Nat.mod_lt _ (by decide))
  rw [show p / 18446744073709551616 * 18446744073709551616 + p % 18446744073709551616 = p by omega] at l
  exact whole_lt p _ _ l.1 h
theorem len_pos (p : Nat) (h0 : p ≠ 0) (h1 : p / 18446744073709551616 < 18446744073709551616) : 1 ≤ lenOf (p / 18446744073709551616) (p % 18446744073709551616) := by
  have l := lenOf_spec (p / 18446744073709551616) (p % 18446744073709551616) h1 (Nat.mod_lt _ (by decide))
  rw [show p / 18446744073709551616 * 18446744073709551616 + p % 18446744073709551616 = p by omega] at l
  exact (l.2 h0).2

theorem below_iff (n : Int) (x : Nat) (hb : ¬ ((9218868437227405312 < x ∧ x < 9223372036854775808) ∨ 18442240474082181120 < x)) (hz : ¬ (x = 0 ∨ x = 9223372036854775808)) :
    (!(decide (n < 0) == (decide (9223372036854775808 < x) && decide (x ≤ 18442240474082181120)))) = true ↔ ((n < 0 ∧ ¬ 9223372036854775808 ≤ x) ∨ (0 ≤ n ∧ 9223372036854775808 ≤ x)) := by
  by_cases g : 9223372036854775808 ≤ x
  · rw [decide_eq_true (show 9223372036854775808 < x by omega), decide_eq_true (show x ≤ 18442240474082181120 by omega)]
    by_cases h : n < 0 <;> simp [h, g] <;> omega
  · rw [decide_eq_false (show ¬ 9223372036854775808 < x by omega)]
    by_cases h : n < 0 <;> simp [h, g] <;> omega

end Fl
end Go
