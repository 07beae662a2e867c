/- Half of a float: exact, but where the least place is lost. Plain mathematics, no program. -/
import Derived.Test.YtpnojhcjaneleaaClockM
namespace Go
namespace Fl
set_option linter.unusedVariables false
set_option maxRecDepth 100000
set_option exponentiation.threshold 2000
open Go.Ck

theorem two_read : Ieee.double.read 4611686018427387904 = .number false (2 ^ 52) (-51) := by decide +kernel
theorem mant_lt53 (r : Nat) : mant r < 2 ^ 53 := by unfold mant; split <;> omega
theorem cut_near (neg : Bool) (n d : Nat) (hd : d ≤ n.log2 + 2) : 2 * (Ieee.Toward.even.cut neg n d) * 2 ^ d ≤ 2 * n + 2 ^ d ∧ Ieee.Toward.even.cut neg n d ≤ n / 2 ^ d + 1 ∧ (n % 2 ^ d = 0 → Ieee.Toward.even.cut neg n d = n / 2 ^ d) := by
  have hg : (1 : Nat) <<< min d (n.log2 + 2) = 2 ^ d := by rw [shl, Nat.one_mul, Nat.min_eq_left hd]
  unfold Ieee.Toward.cut
  simp only [hg]
  have hp : 0 < 2 ^ d := Nat.two_pow_pos d
  generalize 2 ^ d = G at *
  have hdm := Nat.div_add_mod n G
  have hm := Nat.mod_lt n hp
  generalize n / G = q at *
  generalize n % G = r at *
  have e : 2 * (q + 1) * G = 2 * (G * q) + 2 * G := by rw [Nat.mul_assoc, Nat.add_mul, Nat.one_mul, Nat.mul_comm q, Nat.mul_add]
  have e0 : 2 * q * G = 2 * (G * q) := by rw [Nat.mul_assoc, Nat.mul_comm q]
  cases hb : (decide (G < 2 * r) || (G == 2 * r && q % 2 == 1)) with
  | false =>
    simp only [Bool.toNat_false, Nat.add_zero]
    exact ⟨by omega, by omega, fun _ => by first | rfl | trivial⟩
  | true =>
    simp only [Bool.toNat_true]
    have hr : G ≤ 2 * r := by
      rw [Bool.or_eq_true, Bool.and_eq_true, decide_eq_true_eq, beq_iff_eq] at hb
      omega
    exact ⟨by omega, by omega, fun h => by omega⟩
theorem log_mul (m k : Nat) (hm : m ≠ 0) : (m * 2 ^ k).log2 = m.log2 + k := by
  have h1 := Nat.log2_self_le hm
  have h2 : m < 2 ^ (m.log2 + 1) := Nat.lt_log2_self
  have hp := Nat.two_pow_pos k
  have hne : m * 2 ^ k ≠ 0 := by
    intro h
    rcases Nat.mul_eq_zero.1 h with h | h <;> omega
  refine (Nat.log2_eq_iff hne).2 ⟨?_, ?_⟩
  · rw [Nat.pow_add]; exact Nat.mul_le_mul_right _ h1
  · rw [show m.log2 + k + 1 = (m.log2 + 1) + k by omega, Nat.pow_add]; exact Nat.mul_lt_mul_of_pos_right h2 hp

theorem size_place (m v : Nat) (h0 : 2 ^ 52 ≤ m) (h1 : m < 2 ^ 53) : size (v * 2 ^ 52 + m) = m * 2 ^ v := by
  unfold size
  rw [if_neg (by omega)]
  have q : (v * 2 ^ 52 + m) / 2 ^ 52 = v + 1 := by omega
  have r : 2 ^ 52 + (v * 2 ^ 52 + m) % 2 ^ 52 = m := by omega
  rw [q, r, Nat.add_sub_cancel]
/-- Half of a finite float that isn't nought, by its whole number and its place. -/
theorem half_write (s : Bool) (m u : Nat) (hm : m ≠ 0) (hm2 : m < 2 ^ 53) (hu : u ≤ 1020) (hn : 0 < u → 2 ^ 52 ≤ m) :
    ∃ ρ, ((Ieee.Datum.number s m (-1074 + (u : Int))).quotient 54 (.number false (2 ^ 52) (-51))).map Ieee.double.write = some (Ieee.double.word s ρ) ∧ ρ < top ∧ 2 * size ρ ≤ m * 2 ^ u + 1 := by
  have hl : m.log2 ≤ 52 := by
    have := (Nat.log2_lt hm).2 hm2
    omega
  have hl2 : (2 ^ 52 : Nat).log2 = 52 := by decide
  obtain ⟨k, hk⟩ : ∃ k, 54 + 52 - m.log2 = 52 + k ∧ k = 54 - m.log2 := ⟨54 - m.log2, by omega, rfl⟩
  have e1 : m <<< (54 + 52 - m.log2) = m * 2 ^ k * 2 ^ 52 := by rw [shl, hk.1, Nat.pow_add, Nat.mul_comm (2 ^ 52), Nat.mul_assoc]
  have e2 : m * 2 ^ k * 2 ^ 52 / 2 ^ 52 = m * 2 ^ k := Nat.mul_div_cancel _ (by decide)
  have e3 : m * 2 ^ k * 2 ^ 52 % 2 ^ 52 = 0 := Nat.mul_mod_left _ _
  have hq : (Ieee.Datum.number s m (-1074 + (u : Int))).quotient 54 (.number false (2 ^ 52) (-51)) = some (.number s (m * 2 ^ (k + 1)) (-1074 + (u : Int) + 50 - ((52 + k : Nat) : Int))) := by
    unfold Ieee.Datum.quotient
    simp only [show ¬ ((2 : Nat) ^ 52 = 0) by decide, if_false, hl2, e1, e2, e3]
    simp only [bne_self_eq_false, Bool.toNat_false, Nat.add_zero, Bool.xor_false, Option.some.injEq, Ieee.Datum.number.injEq, true_and]
    refine ⟨?_, ?_⟩
    · rw [Nat.pow_succ, Nat.mul_left_comm, Nat.mul_comm 2]
    · rw [hk.1]; omega
  rw [hq]
  show ∃ ρ, some (Ieee.double.nearest s (m * 2 ^ (k + 1)) (-1074 + (u : Int) + 50 - ((52 + k : Nat) : Int))) = _ ∧ _
  have hmag : m * 2 ^ (k + 1) ≠ 0 := by
    intro h
    rcases Nat.mul_eq_zero.1 h with h | h
    · exact hm h
    · have := Nat.two_pow_pos (k + 1); omega
  have hlog : (m * 2 ^ (k + 1)).log2 = 55 := by rw [log_mul m (k + 1) hm]; omega
  unfold Ieee.Format.nearest
  rw [if_neg hmag, hlog, least, show (Ieee.double.fractionBits : Int) = 52 from rfl, binade, infRung]
  generalize hD : (max (-1074 + (u : Int) + 50 - ((52 + k : Nat) : Int) + ((55 : Nat) : Int) - 52) (-1074) : Int) = last
  have hlast : last = -1074 + ((u + m.log2 - 53 : Nat) : Int) := by rw [← hD]; omega
  clear hD
  subst hlast
  have z1 : (-1074 + (u : Int) + 50 - ((52 + k : Nat) : Int) - (-1074 + ((u + m.log2 - 53 : Nat) : Int))).toNat = 0 := by omega
  have z2 : (-1074 + ((u + m.log2 - 53 : Nat) : Int) - -1074).toNat = u + m.log2 - 53 := by omega
  obtain ⟨dr, hdr⟩ : ∃ dr, (-1074 + ((u + m.log2 - 53 : Nat) : Int) - (-1074 + (u : Int) + 50 - ((52 + k : Nat) : Int))).toNat = dr ∧ dr + u = 56 - m.log2 + (u + m.log2 - 53) := ⟨_, rfl, by omega⟩
  show ∃ ρ, some (Ieee.double.word s (min ((-1074 + ((u + m.log2 - 53 : Nat) : Int) - -1074).toNat * 2 ^ 52 + Ieee.Toward.even.cut s ((m * 2 ^ (k + 1)) <<< (-1074 + (u : Int) + 50 - ((52 + k : Nat) : Int) - (-1074 + ((u + m.log2 - 53 : Nat) : Int))).toNat) (-1074 + ((u + m.log2 - 53 : Nat) : Int) - (-1074 + (u : Int) + 50 - ((52 + k : Nat) : Int))).toNat) top)) = _ ∧ _
  rw [z1, z2, hdr.1, shl, Nat.pow_zero, Nat.mul_one]
  obtain ⟨c1, c2, c3⟩ := cut_near s (m * 2 ^ (k + 1)) dr (by rw [hlog]; omega)
  generalize Ieee.Toward.even.cut s (m * 2 ^ (k + 1)) dr = kept at *
  have key : kept ≤ 2 ^ 53 ∧ 2 * size ((u + m.log2 - 53) * 2 ^ 52 + kept) ≤ m * 2 ^ u + 1 := by
    rcases Nat.lt_or_ge 53 (u + m.log2) with hc | hc
    · have hL : m.log2 = 52 := by
        by_cases h0 : u = 0
        · omega
        · have := hn (by omega)
          have : 52 ≤ m.log2 := (Nat.le_log2 hm).2 this
          omega
      have hk2 : k + 1 = 3 := by omega
      have hd3 : dr = 3 := by omega
      rw [hk2, hd3] at c3
      have : kept = m := by
        rw [c3 (by omega)]; omega
      subst this
      obtain ⟨v, rfl⟩ : ∃ v, u = v + 1 := ⟨u - 1, by omega⟩
      have hD : v + 1 + kept.log2 - 53 = v := by omega
      have h52 := hn (by omega)
      have e : 2 * (kept * 2 ^ v) = kept * 2 ^ (v + 1) := by rw [Nat.pow_succ, Nat.mul_left_comm, Nat.mul_comm 2]
      rw [hD, size_place kept v h52 (by omega), e]
      exact ⟨by omega, Nat.le_succ _⟩
    · have hD : u + m.log2 - 53 = 0 := by omega
      rw [hD, Nat.zero_mul, Nat.zero_add]
      have hdu : dr = 56 - m.log2 - u := by omega
      have ek : 2 * (m * 2 ^ (k + 1)) = m * 2 ^ u * 2 ^ dr := by
        rw [Nat.mul_assoc, ← Nat.pow_add, Nat.mul_left_comm, ← Nat.pow_succ', show u + dr = k + 1 + 1 by omega]
      have hp := Nat.two_pow_pos dr
      have hle : 2 * kept ≤ m * 2 ^ u + 1 := by
        refine Nat.le_of_mul_le_mul_right ?_ hp
        rw [Nat.add_mul, Nat.one_mul, ← ek]
        exact c1
      have hsz : m * 2 ^ u < 2 ^ 54 := by
        have h1 : m < 2 ^ (m.log2 + 1) := Nat.lt_log2_self
        have h2 : m * 2 ^ u < 2 ^ (m.log2 + 1) * 2 ^ u := Nat.mul_lt_mul_of_pos_right h1 (Nat.two_pow_pos u)
        rw [← Nat.pow_add] at h2
        have h3 : 2 ^ (m.log2 + 1 + u) ≤ 2 ^ 54 := Nat.pow_le_pow_right (by omega) (by omega)
        omega
      have hk53 : kept ≤ 2 ^ 53 := by omega
      refine ⟨hk53, ?_⟩
      have hs : size kept = kept := by
        unfold size
        by_cases g : kept < 2 ^ 52
        · rw [if_pos g]
        · rw [if_neg g]
          by_cases g2 : kept = 2 ^ 53
          · subst g2; decide
          · have q : kept / 2 ^ 52 = 1 := by omega
            rw [q, Nat.sub_self, Nat.pow_zero]; omega
      rw [hs]; exact hle
  have ht : top = 2047 * 2 ^ 52 := rfl
  have hb : (u + m.log2 - 53) * 2 ^ 52 + kept < top := by
    have : u + m.log2 - 53 ≤ 1019 := by omega
    have : (u + m.log2 - 53) * 2 ^ 52 ≤ 1019 * 2 ^ 52 := Nat.mul_le_mul_right _ this
    omega
  refine ⟨(u + m.log2 - 53) * 2 ^ 52 + kept, ?_, hb, key.2⟩
  rw [Nat.min_eq_left (by omega)]

/-- Half of a clock's rate. -/
theorem half_rate (x : Nat) (hx : crated x = true) : ∃ y, FloatKind.f64.format.div x 4611686018427387904 = some y ∧ crated y = true ∧ 2 * sz y ≤ sz x + 1 := by
  have hf : FloatKind.f64.format = Ieee.double := rfl
  rw [hf]
  have hx' := hx
  unfold crated at hx'
  simp only [decide_eq_true_eq] at hx'
  by_cases h0 : x = 9223372036854775808
  · subst h0
    refine ⟨9223372036854775808, by decide +kernel, by decide +kernel, ?_⟩
    have e : sz 9223372036854775808 = 0 := by decide +kernel
    rw [e]; omega
  · have hlt : x ≤ 4576918229304087675 := by omega
    by_cases hz : x = 0
    · subst hz
      refine ⟨0, by decide +kernel, by decide +kernel, ?_⟩
      have e : sz 0 = 0 := by decide +kernel
      rw [e]; omega
    · have hr : rung x = x := rung_lt (by omega)
      have hs : sgn x = false := by
        unfold sgn
        rw [Nat.div_eq_of_lt (by omega)]; rfl
      have hread : Ieee.double.read x = .number false (mant x) (-1074 + (up x : Nat)) := by
        have := read_num x (by rw [hr]; unfold top; omega)
        rw [hr, hs] at this
        exact this
      have hmant : mant x ≠ 0 := by unfold mant; split <;> omega
      have hup : up x ≤ 1020 := by unfold up; split <;> omega
      have hnorm : 0 < up x → 2 ^ 52 ≤ mant x := by unfold up mant; split <;> intro h <;> omega
      obtain ⟨ρ, h1, h2, h3⟩ := half_write false (mant x) (up x) hmant (mant_lt53 x) hup hnorm
      have ht : top = 2047 * 2 ^ 52 := rfl
      have hle : ρ ≤ x := by
        rw [← size_eq] at h3
        have h4 : ¬ size x < size ρ := by
          have : 0 < size x := by
            have := size_lt (r := 0) (s := x) (by omega)
            rw [size_zero] at this
            exact this
          omega
        rw [size_lt_iff] at h4
        omega
      refine ⟨ρ, ?_, ?_, ?_⟩
      · unfold Ieee.Format.div
        rw [hread, two_read]
        exact h1
      · unfold crated; simp only [decide_eq_true_eq]; omega
      · unfold sz
        rw [if_neg (by omega), if_neg (by omega), rung_lt (by omega : ρ < 9223372036854775808), hr]
        rw [← size_eq] at h3
        omega
theorem unit_big : 1099511627776 ≤ unit := by
  rw [unit_eq, ex_eq]
  exact Nat.le_trans (by decide : 1099511627776 ≤ 2 ^ 40) (Nat.pow_le_pow_right (by omega) (by omega))
/-- What half of the rate allows of the true time, the rate allows of the reading. -/
theorem half_allows {x y : Nat} (hx : crated x = true) (hy : 2 * sz y ≤ sz x + 1) (d a k : Int) (hd : 0 ≤ d ∧ d ≤ 4294967295) (ha : 0 ≤ a) (hk : k ≤ a) (h : a * unit ≤ d * sz y) : a * unit ≤ sz x * (d - k) := by
  obtain ⟨z0, z1⟩ := crated_sz hx
  have hu := unit_big
  have step : a * unit ≤ sz x * (d - a) := by
    by_cases h0 : a = 0
    · subst h0
      rw [Int.zero_mul]
      exact Int.mul_nonneg z0 (by omega)
    · have h1 : 2 * (a * unit) ≤ d * (sz x + 1) := by
        have : d * (2 * sz y) ≤ d * (sz x + 1) := Int.mul_le_mul_of_nonneg_left hy hd.1
        rw [Int.mul_left_comm] at this
        omega
      have h2 : a * (64 * sz x) ≤ a * unit := Int.mul_le_mul_of_nonneg_left z1 ha
      have h3 : 1 * (unit : Int) ≤ a * unit := Int.mul_le_mul_of_nonneg_right (by omega) (by omega)
      rw [Int.mul_left_comm] at h2
      rw [Int.mul_add, Int.mul_one] at h1
      rw [Int.mul_sub, Int.mul_comm (sz x) d, Int.mul_comm (sz x) a]
      generalize a * sz x = p at *
      generalize d * sz x = q at *
      generalize a * (unit : Int) = r at *
      omega
  have : sz x * (d - a) ≤ sz x * (d - k) := Int.mul_le_mul_of_nonneg_left (by omega) z0
  omega
end Fl
end Go
