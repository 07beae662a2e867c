/- Clocks: the plain mathematics of layer 6 (no program): set, asked; right clocks. -/
import Derived.Test.YtjpalcolhagpcaaSpanM
namespace Go.Ck
set_option linter.unusedVariables false
open Go.Fl Go.Sp

/-! ### Rates -/
def crated (x : Nat) : Bool := decide (x ≤ 4576918229304087675 ∨ x = 9223372036854775808)
theorem crated_rated {x : Nat} (h : crated x = true) : rated x = true := by
  unfold crated at h
  unfold rated
  simp only [decide_eq_true_eq] at *
  omega
theorem crated_num {x : Nat} (h : crated x = true) : x < 18446744073709551616 := by
  unfold crated at h
  simp only [decide_eq_true_eq] at h
  omega
theorem part_size : 64 * size 4580160821035794432 = unit := by
  have hm : mant 4580160821035794432 = 2 ^ 52 := by decide +kernel
  have hu : 6 + (52 + up 4580160821035794432) = ex := by rw [ex_eq]; decide +kernel
  rw [size_eq, hm, ← Nat.pow_add, show (64 : Nat) = 2 ^ 6 from rfl, ← Nat.pow_add, hu, unit_eq]
theorem crated_sz {x : Nat} (h : crated x = true) : 0 ≤ sz x ∧ 64 * sz x ≤ unit := by
  unfold crated at h
  simp only [decide_eq_true_eq] at h
  rcases h with h | h
  · unfold sz
    rw [if_neg (by omega), rung_lt (by omega)]
    refine ⟨by omega, ?_⟩
    have := size_lt (r := x) (s := 4580160821035794432) (by omega)
    have := part_size
    omega
  · subst h
    have e : sz 9223372036854775808 = 0 := by decide +kernel
    rw [e]; omega
/-- What is above it by so much is less than one more. -/
theorem more_up (n : Int) (x : Nat) (s : Int) (h : s * unit ≤ sz x * n) : s ≤ moreT n x := by
  have hu : (0 : Int) < unit := by have := unit_pos; omega
  unfold moreT prodF
  have e : -n * sz x ≤ (-s) * (unit : Int) := by rw [Int.neg_mul, Int.neg_mul, Int.mul_comm n]; omega
  have := Int.ediv_le_ediv hu e
  rw [Int.mul_ediv_cancel _ (by omega)] at this
  omega
theorem prod_down (n : Int) (x : Nat) : prodF n x * unit ≤ n * sz x := by
  unfold prodF
  exact Int.ediv_mul_le _ (by have := unit_pos; omega)
theorem prod_range (n : Int) (x : Nat) (hn : 0 ≤ n) (h : rated x = true) : 0 ≤ prodF n x ∧ prodF n x ≤ n := by
  obtain ⟨h0, h1⟩ := rated_sz h
  have hu : (0 : Int) < unit := by have := unit_pos; omega
  unfold prodF
  have a : 0 ≤ n * sz x := Int.mul_nonneg hn h0
  have b : n * sz x ≤ n * unit := Int.mul_le_mul_of_nonneg_left h1 hn
  refine ⟨Int.ediv_nonneg a (by omega), ?_⟩
  have := Int.ediv_le_ediv hu b
  rwa [Int.mul_ediv_cancel _ (by omega)] at this

/-! ### A clock -/
structure Ck where
  rate : Nat
  on : Bool
  r : Int
  t : Int
  e : Int
  last : Int
  floor : Int
def fresh (x : Nat) : Ck := ⟨x, false, 0, 0, 0, 0, 0⟩
def mx (a b : Int) : Int := if a < b then b else a
def mn (a b : Int) : Int := if b < a then b else a
theorem mx_cases (a b : Int) : (a < b ∧ mx a b = b) ∨ (b ≤ a ∧ mx a b = a) := by unfold mx; split <;> omega
theorem mn_cases (a b : Int) : (b < a ∧ mn a b = b) ∨ (a ≤ b ∧ mn a b = a) := by unfold mn; split <;> omega
namespace Ck
def sum (c : Ck) (h : Int) : Int := c.t + (h - c.r)
def setE (c : Ck) (h t e : Int) : Int := if isT h && (isT t && isT e) then (if h < c.last then 62 else 0) else 61
def set (c : Ck) (h t e : Int) : Ck := if c.setE h t e = 0 then ⟨c.rate, true, h, t, e, h, c.floor⟩ else c
def nowE (c : Ck) (h : Int) : Int := if isT h then (if c.on then (if h < c.last then 62 else if isT (c.sum h) then 0 else 64) else 63) else 61
def more (c : Ck) (h : Int) : Int := moreT (h - c.r) c.rate
def lo (c : Ck) (h : Int) : Int := mx (c.sum h - c.e - c.more h) c.floor
def hi (c : Ck) (h : Int) : Int := mx (mn (c.sum h + c.e + c.more h) 1125899906842624) (c.lo h)
def nowL (c : Ck) (h : Int) : Int := if c.nowE h = 0 then c.lo h else 0
def nowH (c : Ck) (h : Int) : Int := if c.nowE h = 0 then c.hi h else 0
def now (c : Ck) (h : Int) : Ck := if c.nowE h = 0 then ⟨c.rate, c.on, c.r, c.t, c.e, h, c.lo h⟩ else c
def past (c : Ck) (t h : Int) : Bool := decide (c.nowE h = 0 ∧ t < c.lo h)
end Ck
structure Ok (c : Ck) : Prop where
  rate : crated c.rate = true
  last : 0 ≤ c.last ∧ c.last ≤ 1125899906842624
  floor : 0 ≤ c.floor ∧ c.floor ≤ 1125899906842624
  basis : c.on = true → (0 ≤ c.r ∧ c.r ≤ c.last) ∧ (0 ≤ c.t ∧ c.t ≤ 1125899906842624) ∧ (0 ≤ c.e ∧ c.e ≤ 1125899906842624)
theorem Ok.fresh {x : Nat} (h : crated x = true) : Ok (fresh x) := ⟨h, (by decide : (0 : Int) ≤ 0 ∧ (0 : Int) ≤ 1125899906842624), (by decide : (0 : Int) ≤ 0 ∧ (0 : Int) ≤ 1125899906842624), fun h => by cases h⟩

theorem set_cases (c : Ck) (h t e : Int) :
    (c.setE h t e = 0 ∧ isT h = true ∧ isT t = true ∧ isT e = true ∧ (0 ≤ h ∧ h ≤ 1125899906842624) ∧ (0 ≤ t ∧ t ≤ 1125899906842624) ∧ (0 ≤ e ∧ e ≤ 1125899906842624) ∧ c.last ≤ h ∧ c.set h t e = ⟨c.rate, true, h, t, e, h, c.floor⟩) ∨
    (c.setE h t e = 62 ∧ isT h = true ∧ isT t = true ∧ isT e = true ∧ h < c.last ∧ c.set h t e = c) ∨
    (c.setE h t e = 61 ∧ isT h = true ∧ isT t = true ∧ isT e = false ∧ c.set h t e = c) ∨
    (c.setE h t e = 61 ∧ isT h = true ∧ isT t = false ∧ c.set h t e = c) ∨
    (c.setE h t e = 61 ∧ isT h = false ∧ c.set h t e = c) := by
  unfold Ck.set Ck.setE
  cases h1 : isT h with
  | false => exact .inr (.inr (.inr (.inr ⟨rfl, rfl, rfl⟩)))
  | true =>
    cases h2 : isT t with
    | false => exact .inr (.inr (.inr (.inl ⟨rfl, rfl, rfl, rfl⟩)))
    | true =>
      cases h3 : isT e with
      | false => exact .inr (.inr (.inl ⟨rfl, rfl, rfl, rfl, rfl⟩))
      | true =>
        by_cases g : h < c.last
        · simp only [Bool.and_true, if_true, if_pos g]
          exact .inr (.inl ⟨by first | rfl | trivial, trivial, trivial, trivial, g, by first | rfl | trivial⟩)
        · simp only [Bool.and_true, if_true, if_neg g]
          exact .inl ⟨trivial, trivial, trivial, trivial, (isT_iff h).1 h1, (isT_iff t).1 h2, (isT_iff e).1 h3, by omega, trivial⟩
theorem Ok.set {c : Ck} (k : Ok c) (h t e : Int) : Ok (c.set h t e) := by
  rcases set_cases c h t e with ⟨_, _, _, _, h1, h2, h3, h4, E⟩ | ⟨_, _, _, _, _, E⟩ | ⟨_, _, _, _, E⟩ | ⟨_, _, _, E⟩ | ⟨_, _, E⟩
  all_goals rw [E]
  · exact ⟨k.rate, h1, k.floor, fun _ => ⟨⟨h1.1, Int.le_refl _⟩, h2, h3⟩⟩
  all_goals exact k

theorem now_cases (c : Ck) (k : Ok c) (h : Int) :
    (c.nowE h = 0 ∧ isT h = true ∧ c.on = true ∧ (0 ≤ h ∧ h ≤ 1125899906842624) ∧ c.last ≤ h ∧ isT (c.sum h) = true ∧ (0 ≤ c.sum h ∧ c.sum h ≤ 1125899906842624) ∧ (0 ≤ h - c.r ∧ h - c.r ≤ 1125899906842624) ∧
      (0 ≤ c.more h ∧ c.more h ≤ h - c.r) ∧ c.floor ≤ c.lo h ∧ (c.sum h - c.e - c.more h) ≤ c.lo h ∧ c.lo h ≤ c.hi h ∧ c.hi h ≤ 1125899906842624 ∧ c.nowL h = c.lo h ∧ c.nowH h = c.hi h ∧ c.now h = ⟨c.rate, c.on, c.r, c.t, c.e, h, c.lo h⟩) ∨
    (c.nowE h = 64 ∧ isT h = true ∧ c.on = true ∧ (0 ≤ h ∧ h ≤ 1125899906842624) ∧ c.last ≤ h ∧ isT (c.sum h) = false ∧ 1125899906842624 < c.sum h ∧ (0 ≤ h - c.r ∧ h - c.r ≤ 1125899906842624) ∧ c.nowL h = 0 ∧ c.nowH h = 0 ∧ c.now h = c) ∨
    (c.nowE h = 62 ∧ isT h = true ∧ c.on = true ∧ h < c.last ∧ c.nowL h = 0 ∧ c.nowH h = 0 ∧ c.now h = c) ∨
    (c.nowE h = 63 ∧ isT h = true ∧ c.on = false ∧ c.nowL h = 0 ∧ c.nowH h = 0 ∧ c.now h = c) ∨
    (c.nowE h = 61 ∧ isT h = false ∧ c.nowL h = 0 ∧ c.nowH h = 0 ∧ c.now h = c) := by
  unfold Ck.nowL Ck.nowH Ck.now Ck.nowE
  cases h1 : isT h with
  | false => exact .inr (.inr (.inr (.inr ⟨rfl, rfl, rfl, rfl, rfl⟩)))
  | true =>
    cases h2 : c.on with
    | false => exact .inr (.inr (.inr (.inl ⟨rfl, rfl, rfl, rfl, rfl, rfl⟩)))
    | true =>
      obtain ⟨b1, b2, b3⟩ := k.basis h2
      have hh := (isT_iff h).1 h1
      by_cases g : h < c.last
      · simp only [if_true, if_pos g]
        exact .inr (.inr (.inl ⟨by first | rfl | trivial, trivial, trivial, g, by first | rfl | trivial, by first | rfl | trivial, by first | rfl | trivial⟩))
      · simp only [if_true, if_neg g]
        cases h3 : isT (c.sum h) with
        | false =>
          have := (isT_no _).1 h3
          refine .inr (.inl ⟨rfl, trivial, trivial, hh, by omega, rfl, ?_, by omega, rfl, rfl, rfl⟩)
          unfold Ck.sum at *
          omega
        | true =>
          have hs := (isT_iff _).1 h3
          have hm := more_range (h - c.r) c.rate (by omega) (crated_rated k.rate)
          have hf := k.floor
          refine .inl ⟨rfl, trivial, trivial, hh, by omega, rfl, hs, by omega, hm, ?_⟩
          have hm' : 0 ≤ c.more h ∧ c.more h ≤ h - c.r := hm
          have L := mx_cases (c.sum h - c.e - c.more h) c.floor
          have M := mn_cases (c.sum h + c.e + c.more h) 1125899906842624
          have H := mx_cases (mn (c.sum h + c.e + c.more h) 1125899906842624) (c.lo h)
          have e1 : c.lo h = mx (c.sum h - c.e - c.more h) c.floor := rfl
          have e2 : c.hi h = mx (mn (c.sum h + c.e + c.more h) 1125899906842624) (c.lo h) := rfl
          rw [← e1] at L
          rw [← e2] at H
          refine ⟨by omega, by omega, by omega, by omega, rfl, rfl, rfl⟩
theorem Ok.now {c : Ck} (k : Ok c) (h : Int) : Ok (c.now h) := by
  rcases now_cases c k h with ⟨_, _, e1, h1, h2, _, _, _, _, h3, h6, h4, h5, _, _, E⟩ | ⟨_, _, _, _, _, _, _, _, _, _, E⟩ | ⟨_, _, _, _, _, _, E⟩ | ⟨_, _, _, _, _, E⟩ | ⟨_, _, _, _, E⟩
  all_goals rw [E]
  · have hf := k.floor
    exact ⟨k.rate, h1, ⟨by show 0 ≤ c.lo h; omega, by show c.lo h ≤ _; omega⟩, fun _ => by have := k.basis e1; exact ⟨⟨this.1.1, by show c.r ≤ h; omega⟩, this.2⟩⟩
  all_goals exact k

/-! ### What the program reckons -/
theorem drifted_eq (c : Ck) (k : Ok c) (h : Int) (h0 : c.nowE h = 0) :
    widE (c.sum h) (c.sum h) c.e = 0 ∧ driE (widL (c.sum h) (c.sum h) c.e) (widH (c.sum h) (c.sum h) c.e) (h - c.r) c.rate = 0 ∧
    mx (driL (widL (c.sum h) (c.sum h) c.e) (widH (c.sum h) (c.sum h) c.e) (h - c.r) c.rate) c.floor = c.lo h ∧
    mx (driH (widL (c.sum h) (c.sum h) c.e) (widH (c.sum h) (c.sum h) c.e) (h - c.r) c.rate) (c.lo h) = c.hi h := by
  rcases now_cases c k h with ⟨_, _, e1, h1, h2, _, hs, hn, hm, h3, h6, h4, h5, _, _, E⟩ | ⟨e, _⟩ | ⟨e, _⟩ | ⟨e, _⟩ | ⟨e, _⟩
  · have hb := (k.basis e1).2.2
    have hf := k.floor
    rcases wid_cases (c.sum h) (c.sum h) c.e with ⟨w0, _, _, _, _, wL, wH⟩ | ⟨_, _, _, _, w5, _⟩ | ⟨_, _, w3, _⟩
    · have hS : isS (widL (c.sum h) (c.sum h) c.e) (widH (c.sum h) (c.sum h) c.e) = true := by
        rw [isS_iff, wL, wH]; split <;> split <;> omega
      have wl : widL (c.sum h) (c.sum h) c.e = mx (c.sum h - c.e) 0 := by rw [wL]; unfold mx; split <;> split <;> omega
      have wh : widH (c.sum h) (c.sum h) c.e = mn (c.sum h + c.e) 1125899906842624 := by rw [wH]; unfold mn; split <;> split <;> omega
      refine ⟨w0, ?_⟩
      rw [wl, wh] at hS ⊢
      have e2 : c.lo h = mx (c.sum h - c.e - c.more h) c.floor := rfl
      have e3 : c.hi h = mx (mn (c.sum h + c.e + c.more h) 1125899906842624) (c.lo h) := rfl
      have em : c.more h = moreT (h - c.r) c.rate := rfl
      rcases dri_cases (mx (c.sum h - c.e) 0) (mn (c.sum h + c.e) 1125899906842624) (h - c.r) c.rate with ⟨d0, _, _, _, dL, dH, dW⟩ | ⟨_, _, _, d3, _⟩ | ⟨_, _, d2, _⟩ | ⟨_, d1, _⟩
      · rcases wid_cases (mx (c.sum h - c.e) 0) (mn (c.sum h + c.e) 1125899906842624) (moreT (h - c.r) c.rate) with ⟨v0, _, _, v3, v4, vL, vH⟩ | ⟨v0, _⟩ | ⟨v0, _⟩
        · refine ⟨d0, ?_, ?_⟩
          · rw [dL, vL, e2, em]
            have M1 := mx_cases (c.sum h - c.e) 0
            unfold mx at M1 ⊢
            rw [em] at hm
            generalize moreT (h - c.r) c.rate = m at *
            split at M1 <;> (repeat' split) <;> omega
          · rw [dH, vH, e3, em]
            congr 1
            have M1 := mn_cases (c.sum h + c.e) 1125899906842624
            unfold mn at M1 ⊢
            rw [em] at hm
            generalize moreT (h - c.r) c.rate = m at *
            split at M1 <;> (repeat' split) <;> omega
        · rw [v0] at dW; cases dW
        · rw [v0] at dW; cases dW
      · rw [crated_rated k.rate] at d3; cases d3
      · rw [(isT_iff _).2 hn] at d2; cases d2
      · rw [hS] at d1; cases d1
    · omega
    · omega
  all_goals rw [e] at h0; cases h0

/-! ### Right clocks -/
structure Right (c : Ck) (h T : Int) : Prop where
  ok : Ok c
  on : c.on = true
  last : c.last ≤ h
  floor : c.floor ≤ T
  near : ∃ S : Int, 0 ≤ S ∧ T - (c.t + (h - c.r)) ≤ c.e + S ∧ (c.t + (h - c.r)) - T ≤ c.e + S ∧ S * unit ≤ sz c.rate * (h - c.r)
theorem Right.step {c : Ck} {h T : Int} (R : Right c h T) (d k : Int) (hd : 0 ≤ d) (hk : ∃ a, 0 ≤ a ∧ k ≤ a ∧ -k ≤ a ∧ a * unit ≤ sz c.rate * d) (hT : 0 ≤ d + k) : Right c (h + d) (T + d + k) := by
  obtain ⟨S, s0, s1, s2, s3⟩ := R.near
  obtain ⟨a, a0, a1, a2, a3⟩ := hk
  refine ⟨R.ok, R.on, by have := R.last; omega, by have := R.floor; omega, S + a, by omega, by omega, by omega, ?_⟩
  rw [Int.add_mul, show h + d - c.r = (h - c.r) + d by omega, Int.mul_add]
  omega
theorem Right.set {c : Ck} {h T t e : Int} (R : Right c h T) (hh : h ≤ 1125899906842624) (ht : 0 ≤ t ∧ t ≤ 1125899906842624) (he : 0 ≤ e ∧ e ≤ 1125899906842624) (h1 : T - t ≤ e) (h2 : t - T ≤ e) :
    c.setE h t e = 0 ∧ Right (c.set h t e) h T := by
  have hl := R.last
  have hl0 := R.ok.last
  rcases set_cases c h t e with ⟨E0, _, _, _, _, _, _, h4, E⟩ | ⟨_, _, _, _, g, E⟩ | ⟨_, _, _, g, E⟩ | ⟨_, _, g, E⟩ | ⟨_, g, E⟩
  · have k := R.ok.set h t e
    refine ⟨E0, ?_⟩
    rw [E] at *
    refine ⟨k, rfl, Int.le_refl _, R.floor, 0, by omega, ?_, ?_, ?_⟩
    · show T - (t + (h - h)) ≤ e + 0; omega
    · show (t + (h - h)) - T ≤ e + 0; omega
    · show 0 * (unit : Int) ≤ sz c.rate * (h - h); rw [Int.sub_self, Int.mul_zero, Int.zero_mul]; omega
  · omega
  · have := (isT_no _).1 g; omega
  · have := (isT_no _).1 g; omega
  · have := (isT_no _).1 g; omega
theorem Right.sum {c : Ck} {h T : Int} (R : Right c h T) : 64 * (c.t + (h - c.r)) ≤ 64 * (T + c.e) + (h - c.r) ∧ 0 ≤ c.t + (h - c.r) ∧ 0 ≤ h := by
  obtain ⟨S, s0, s1, s2, s3⟩ := R.near
  obtain ⟨b1, b2, b3⟩ := R.ok.basis R.on
  obtain ⟨z0, z1⟩ := crated_sz R.ok.rate
  have hl := R.last
  have hu : (0 : Int) < unit := by have := unit_pos; omega
  have hn : 0 ≤ h - c.r := by omega
  have : (64 * S) * unit ≤ (h - c.r) * unit := by
    have a : 64 * sz c.rate * (h - c.r) ≤ unit * (h - c.r) := Int.mul_le_mul_of_nonneg_right z1 hn
    rw [Int.mul_assoc] at a ⊢
    rw [Int.mul_comm (h - c.r)]
    omega
  have := Int.le_of_mul_le_mul_right this hu
  omega
theorem Right.now {c : Ck} {h T : Int} (R : Right c h T) (hh : h ≤ 1099511627776 * 2) (hT : T ≤ 1099511627776 * 2) (he : c.e ≤ 65535) :
    c.nowE h = 0 ∧ c.lo h ≤ T ∧ T ≤ c.hi h ∧ c.nowL h = c.lo h ∧ c.nowH h = c.hi h ∧ Right (c.now h) h T ∧ (c.now h).e = c.e ∧ (c.now h).rate = c.rate := by
  obtain ⟨u1, u2, u3⟩ := R.sum
  obtain ⟨b1, b2, b3⟩ := R.ok.basis R.on
  have hl := R.last
  have hf := R.floor
  have hs : c.sum h = c.t + (h - c.r) := rfl
  rcases now_cases c R.ok h with ⟨E0, _, e1, h1, h2, _, hs', hn, hm, h3, h6, h4, h5, EL, EH, E⟩ | ⟨_, _, _, _, _, _, g, _⟩ | ⟨_, _, _, g, _⟩ | ⟨_, _, g, _⟩ | ⟨_, g, _⟩
  · obtain ⟨S, s0, s1, s2, s3⟩ := R.near
    have hS : S ≤ c.more h := more_up _ _ _ s3
    have L := mx_cases (c.sum h - c.e - c.more h) c.floor
    have M := mn_cases (c.sum h + c.e + c.more h) 1125899906842624
    have H := mx_cases (mn (c.sum h + c.e + c.more h) 1125899906842624) (c.lo h)
    have e2 : c.lo h = mx (c.sum h - c.e - c.more h) c.floor := rfl
    have e3 : c.hi h = mx (mn (c.sum h + c.e + c.more h) 1125899906842624) (c.lo h) := rfl
    rw [← e2] at L
    rw [← e3] at H
    have k := R.ok.now h
    refine ⟨E0, by omega, by omega, EL, EH, ?_, by rw [E], by rw [E]⟩
    rw [E] at *
    exact ⟨k, e1, Int.le_refl _, by show c.lo h ≤ T; omega, S, s0, s1, s2, s3⟩
  · omega
  · omega
  · rw [R.on] at g; cases g
  · have := (isT_no _).1 g; omega
/-- A clock that was just set right is right. -/
theorem Right.begun {x : Nat} (hx : crated x = true) (T t e : Int) (hT : 0 ≤ T) (ht : 0 ≤ t ∧ t ≤ 1125899906842624) (he : 0 ≤ e ∧ e ≤ 1125899906842624) (h1 : T - t ≤ e) (h2 : t - T ≤ e) :
    (fresh x).setE 0 t e = 0 ∧ Right ((fresh x).set 0 t e) 0 T ∧ ((fresh x).set 0 t e).e = e ∧ ((fresh x).set 0 t e).rate = x := by
  rcases set_cases (fresh x) 0 t e with ⟨E0, _, _, _, _, _, _, h4, E⟩ | ⟨_, _, _, _, g, E⟩ | ⟨_, _, _, g, E⟩ | ⟨_, _, g, E⟩ | ⟨_, g, E⟩
  · have k := (Ok.fresh hx).set 0 t e
    refine ⟨E0, ?_, by rw [E], by rw [E]; rfl⟩
    rw [E] at *
    refine ⟨k, rfl, Int.le_refl _, hT, 0, by omega, ?_, ?_, ?_⟩
    · show T - (t + (0 - 0)) ≤ e + 0; omega
    · show (t + (0 - 0)) - T ≤ e + 0; omega
    · show 0 * (unit : Int) ≤ sz x * (0 - 0); rw [Int.sub_self, Int.mul_zero, Int.zero_mul]; omega
  · exact absurd g (by show ¬ (0 : Int) < 0; omega)
  · have := (isT_no _).1 g; omega
  · have := (isT_no _).1 g; omega
  · have := (isT_no _).1 g; omega
end Go.Ck
