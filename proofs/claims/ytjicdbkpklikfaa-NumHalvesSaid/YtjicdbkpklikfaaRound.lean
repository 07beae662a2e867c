/- Rounding: numbers that a float64 has are written exactly; cutting to whole numbers. Plain mathematics. -/
import Derived.Test.YtjicdbkpklikfaaTimesM
namespace Go
namespace Fl
open Ieee

theorem cut_exact (neg : Bool) (a d : Nat) (ha : a ≠ 0) : Toward.even.cut neg (a * 2 ^ d) d = a := by
  unfold Toward.cut
  have hl : d ≤ (a * 2 ^ d).log2 + 2 := by
    have h1 : 2 ^ d ≤ a * 2 ^ d := Nat.le_mul_of_pos_left _ (by omega)
    have := (Nat.le_log2 (by have := Nat.two_pow_pos d; intro h; rcases Nat.mul_eq_zero.1 h with g | g <;> omega)).2 h1
    omega
  have hp := Nat.two_pow_pos d
  have e : (1 <<< min d ((a * 2 ^ d).log2 + 2)) = 2 ^ d := by rw [Nat.min_eq_left hl, Nat.shiftLeft_eq, Nat.one_mul]
  simp only [e, Nat.mul_div_cancel _ hp, Nat.mul_mod_left]
  rw [show (decide (2 ^ d < 2 * 0) || 2 ^ d == 2 * 0 && a % 2 == 1) = false by simp]
  rfl

theorem log2_mul (a d : Nat) (ha : a ≠ 0) : (a * 2 ^ d).log2 = a.log2 + d := by
  rw [Nat.log2_eq_iff (by have := Nat.two_pow_pos d; intro h; rcases Nat.mul_eq_zero.1 h with g | g <;> omega)]
  have h1 := Nat.log2_self_le ha
  have h2 : a < 2 ^ (a.log2 + 1) := Nat.lt_log2_self
  constructor
  · rw [Nat.pow_add]; exact Nat.mul_le_mul_right _ h1
  · rw [show a.log2 + d + 1 = (a.log2 + 1) + d by omega, Nat.pow_add]; exact Nat.mul_lt_mul_of_pos_right h2 (Nat.two_pow_pos _)

theorem up_mant (r : Nat) : (up r) * 2 ^ 52 + mant r = r := by
  unfold up mant; split <;> omega

/-- A whole number that a float has: it is written as that float. -/
theorem nearest_exact (neg : Bool) (mag r : Nat) (hr : r < top) (hm : mag ≠ 0) (h : mag * unit = size r) : double.nearest neg mag 0 = double.word neg r := by
  unfold Format.nearest
  rw [if_neg hm]
  dsimp only
  rw [infRung, least, binade]
  have hx := ex_eq
  have hmant : mant r ≠ 0 := by
    intro g; rw [size_eq, g, Nat.zero_mul] at h
    rcases Nat.mul_eq_zero.1 h with g | g
    · exact hm g
    · have := unit_pos; omega
  rw [size_eq] at h
  have hlog : mag.log2 + 1074 = (mant r).log2 + up r := by
    have e := congrArg Nat.log2 h
    unfold unit at e
    rw [log2_mul _ _ hm, log2_mul _ _ hmant] at e
    omega
  have hrn : (up r) * 2 ^ 52 + mant r = r := up_mant r
  have hlm : (2 ^ 52 ≤ r ∧ (mant r).log2 = 52) ∨ (r < 2 ^ 52 ∧ up r = 0 ∧ (mant r).log2 < 52) := by
    by_cases g : r < 2 ^ 52
    · right
      have : mant r = r := by unfold mant; rw [if_pos g]
      refine ⟨g, by unfold up; rw [if_pos g], ?_⟩
      rw [this]; exact (Nat.log2_lt (by rw [this] at hmant; exact hmant)).2 g
    · left
      refine ⟨by omega, ?_⟩
      rw [Nat.log2_eq_iff hmant]; unfold mant; rw [if_neg g]
      have := Nat.mod_lt r (show 0 < 2 ^ 52 by decide)
      exact ⟨Nat.le_add_right _ _, by rw [show 2 ^ (52 + 1) = 2 ^ 52 + 2 ^ 52 from rfl]; exact Nat.add_lt_add_left this _⟩
  have hlast : max (0 + (mag.log2 : Int) - (double.fractionBits : Int)) (-1074) = -1074 + (up r : Int) := by
    show max (0 + (mag.log2 : Int) - 52) (-1074) = -1074 + (up r : Int)
    omega
  rw [hlast]
  have h2 : mag <<< (0 - (-1074 + (up r : Int))).toNat = mant r * 2 ^ ((-1074 + (up r : Int)) - 0).toNat := by
    rw [shl]
    by_cases g : up r ≤ 1074
    · have e1 : unit = 2 ^ (0 - (-1074 + (up r : Int))).toNat * 2 ^ up r := by unfold unit; rw [← Nat.pow_add]; congr 1; omega
      rw [e1, ← Nat.mul_assoc] at h
      rw [show ((-1074 + (up r : Int)) - 0).toNat = 0 by omega, Nat.pow_zero, Nat.mul_one]
      exact Nat.eq_of_mul_eq_mul_right (Nat.two_pow_pos _) h
    · have e1 : 2 ^ up r = 2 ^ ((-1074 + (up r : Int)) - 0).toNat * unit := by unfold unit; rw [← Nat.pow_add]; congr 1; omega
      rw [e1, ← Nat.mul_assoc] at h
      rw [show (0 - (-1074 + (up r : Int))).toNat = 0 by omega, Nat.pow_zero, Nat.mul_one]
      exact Nat.eq_of_mul_eq_mul_right unit_pos h
  rw [h2, cut_exact neg _ _ hmant, show ((-1074 + (up r : Int)) - -1074).toNat = up r by omega, hrn, Nat.min_eq_left (by omega)]

/-- The rung of a whole number below 2^53. -/
def rungOf (k : Nat) : Nat := (1023 + k.log2) * 2 ^ 52 + (k * 2 ^ (52 - k.log2) - 2 ^ 52)
theorem rungOf_spec (k : Nat) (h0 : k ≠ 0) (h : k < 2 ^ 53) : rungOf k < top ∧ k * unit = size (rungOf k) := by
  have hx := ex_eq
  have h1 := Nat.log2_self_le h0
  have h2 : k < 2 ^ (k.log2 + 1) := Nat.lt_log2_self
  have hl : k.log2 ≤ 52 := by have := (Nat.log2_lt h0).2 h; omega
  have e : 2 ^ 52 = 2 ^ k.log2 * 2 ^ (52 - k.log2) := by rw [← Nat.pow_add]; congr 1; omega
  have a : 2 ^ 52 ≤ k * 2 ^ (52 - k.log2) := by rw [e]; exact Nat.mul_le_mul_right _ h1
  have b : k * 2 ^ (52 - k.log2) < 2 ^ 53 := by
    rw [show 2 ^ 53 = 2 ^ (k.log2 + 1) * 2 ^ (52 - k.log2) by rw [← Nat.pow_add]; congr 1; omega]
    exact Nat.mul_lt_mul_of_pos_right h2 (Nat.two_pow_pos _)
  unfold rungOf
  have ht := top_eq
  have hq : ((1023 + k.log2) * 2 ^ 52 + (k * 2 ^ (52 - k.log2) - 2 ^ 52)) / 2 ^ 52 = 1023 + k.log2 := by omega
  have hm : ((1023 + k.log2) * 2 ^ 52 + (k * 2 ^ (52 - k.log2) - 2 ^ 52)) % 2 ^ 52 = k * 2 ^ (52 - k.log2) - 2 ^ 52 := by omega
  refine ⟨by omega, ?_⟩
  unfold size
  rw [if_neg (by omega), hq, hm, show 2 ^ 52 + (k * 2 ^ (52 - k.log2) - 2 ^ 52) = k * 2 ^ (52 - k.log2) by omega, Nat.mul_assoc, ← Nat.pow_add]
  have e2 : 52 - k.log2 + (1023 + k.log2 - 1) = ex := by omega
  rw [e2, unit_eq]

/-! ### Cutting to a whole number -/
theorem cut_way (way : Toward) (neg : Bool) (n d : Nat) (hw : way ≠ .even) :
    way.cut neg n d = n / 2 ^ d + (match way with | .down => neg && n % 2 ^ d != 0 | .up => !neg && n % 2 ^ d != 0 | _ => false).toNat := by
  unfold Toward.cut
  have e : (1 <<< min d (n.log2 + 2)) = 2 ^ min d (n.log2 + 2) := by rw [Nat.shiftLeft_eq, Nat.one_mul]
  have k : n / 2 ^ min d (n.log2 + 2) = n / 2 ^ d ∧ n % 2 ^ min d (n.log2 + 2) = n % 2 ^ d := by
    by_cases g : d ≤ n.log2 + 2
    · rw [Nat.min_eq_left g]; exact ⟨rfl, rfl⟩
    · rw [Nat.min_eq_right (by omega)]
      have h2 : n < 2 ^ (n.log2 + 1) := Nat.lt_log2_self
      have h3 : n < 2 ^ (n.log2 + 2) := Nat.lt_of_lt_of_le h2 (Nat.pow_le_pow_right (by omega) (by omega))
      have h4 : n < 2 ^ d := Nat.lt_of_lt_of_le h2 (Nat.pow_le_pow_right (by omega) (by omega))
      rw [Nat.div_eq_of_lt h3, Nat.div_eq_of_lt h4, Nat.mod_eq_of_lt h3, Nat.mod_eq_of_lt h4]; exact ⟨rfl, rfl⟩
  simp only [e, k.1, k.2]
  cases way <;> first | rfl | exact absurd rfl hw

theorem place_whole (m u : Nat) : (m <<< ((-1074 + (u : Int))).toNat) / 2 ^ (-(-1074 + (u : Int))).toNat = wholeOf m ((u : Int) - 1074) ∧
    ((m <<< ((-1074 + (u : Int))).toNat) % 2 ^ (-(-1074 + (u : Int))).toNat != 0) = cutOf m ((u : Int) - 1074) := by
  rw [shl]; unfold wholeOf cutOf
  by_cases g : 1074 ≤ u
  · rw [if_pos (by omega), if_pos (by omega), show (-(-1074 + (u : Int))).toNat = 0 by omega, Nat.pow_zero, Nat.div_one, Nat.mod_one, show (-1074 + (u : Int)).toNat = ((u : Int) - 1074).toNat by omega]
    exact ⟨rfl, rfl⟩
  · rw [if_neg (by omega), if_neg (by omega), show (-1074 + (u : Int)).toNat = 0 by omega, Nat.pow_zero, Nat.mul_one, show (-(-1074 + (u : Int))).toNat = (-((u : Int) - 1074)).toNat by omega]
    refine ⟨rfl, ?_⟩
    rw [Bool.eq_iff_iff]; simp

theorem whole_repr (r : Nat) (hr : r < top) (b : Bool) (h : wholeOf (mant r) ((up r : Int) - 1074) + (b && cutOf (mant r) ((up r : Int) - 1074)).toNat ≠ 0) :
    ∃ q, q < top ∧ (wholeOf (mant r) ((up r : Int) - 1074) + (b && cutOf (mant r) ((up r : Int) - 1074)).toNat) * unit = size q := by
  have hx := ex_eq
  by_cases g : 1074 ≤ up r
  · refine ⟨r, hr, ?_⟩
    have c : cutOf (mant r) ((up r : Int) - 1074) = false := by unfold cutOf; rw [if_pos (by omega)]
    rw [c, Bool.and_false, show false.toNat = 0 from rfl, Nat.add_zero]
    unfold wholeOf; rw [if_pos (by omega), size_eq, Nat.mul_assoc]
    unfold unit; rw [← Nat.pow_add]; congr 2; omega
  · refine ⟨_, rungOf_spec _ h ?_⟩
    have hm := mant_lt r
    have : wholeOf (mant r) ((up r : Int) - 1074) < 2 ^ 52 := by
      unfold wholeOf; rw [if_neg (by omega)]
      have : 2 ^ 1 ≤ 2 ^ (-((up r : Int) - 1074)).toNat := Nat.pow_le_pow_right (by omega) (by omega)
      rw [Nat.div_lt_iff_lt_mul (Nat.two_pow_pos _)]
      have : 2 ^ 52 * 2 ^ 1 ≤ 2 ^ 52 * 2 ^ (-((up r : Int) - 1074)).toNat := Nat.mul_le_mul_left _ this
      omega
    have : (b && cutOf (mant r) ((up r : Int) - 1074)).toNat ≤ 1 := Bool.toNat_le _
    omega

end Fl
end Go
