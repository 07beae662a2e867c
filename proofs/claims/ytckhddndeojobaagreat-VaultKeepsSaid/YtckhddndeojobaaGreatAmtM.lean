/- Amounts: the plain mathematics of layer 4 (no program): totals, parts, fees. -/
import Derived.Test.YtckhddndeojobaaGreatTimesM
import Derived.Lib.Hide
namespace Go.Am
set_option linter.unusedVariables false
open Go.Fl

def isA (n : Int) : Bool := decide (0 ≤ n ∧ n ≤ 1000000000000000)
theorem isA_iff (n : Int) : isA n = true ↔ 0 ≤ n ∧ n ≤ 1000000000000000 := by unfold isA; simp

/-! ### Totals -/
def sum : List Int → Int
  | [] => 0
  | n :: l => n + sum l
theorem sum_append (l m : List Int) : sum (l ++ m) = sum l + sum m := by
  induction l with
  | nil => simp [sum]
  | cons n l ih => simp only [List.cons_append, sum, ih]; omega
/-- All are amounts, and come to one. -/
def Fit (l : List Int) : Prop := (∀ n ∈ l, 0 ≤ n) ∧ sum l ≤ 1000000000000000
theorem sum_nonneg (l : List Int) (h : ∀ n ∈ l, 0 ≤ n) : 0 ≤ sum l := by
  induction l with
  | nil => simp [sum]
  | cons n l ih =>
    have := ih fun x hx => h x (List.mem_cons_of_mem _ hx)
    have := h n (by simp)
    simp only [sum]; omega
theorem Fit.sum_pos {l : List Int} (h : Fit l) : 0 ≤ sum l := sum_nonneg l h.1
theorem Fit.each {l : List Int} (h : Fit l) (n : Int) (hn : n ∈ l) : 0 ≤ n ∧ n ≤ 1000000000000000 := by
  refine ⟨h.1 n hn, ?_⟩
  obtain ⟨a, b, rfl⟩ := List.append_of_mem hn
  have h2 := h.2
  rw [sum_append] at h2
  have ha := sum_nonneg a fun x hx => h.1 x (by simp [hx])
  have hb := sum_nonneg b fun x hx => h.1 x (by simp [hx])
  simp only [sum] at h2
  omega
theorem Fit.nil : Fit [] := ⟨fun n h => by simp at h, by simp [sum]⟩
theorem Fit.front {l m : List Int} (h : Fit (l ++ m)) : Fit l := by
  refine ⟨fun n hn => h.1 n (by simp [hn]), ?_⟩
  have h2 := h.2
  rw [sum_append] at h2
  have := sum_nonneg m fun x hx => h.1 x (by simp [hx])
  omega
theorem take_snoc (l : List Int) (k : Nat) (n : Int) (h : l[k]? = some n) : l.take (k + 1) = l.take k ++ [n] := by
  have hl := List.getElem?_eq_some_iff.1 h
  rw [List.take_succ_eq_append_getElem hl.1, hl.2]
theorem sum_snoc (l : List Int) (k : Nat) (n : Int) (h : l[k]? = some n) : sum (l.take (k + 1)) = sum (l.take k) + n := by
  rw [take_snoc l k n h, sum_append]; simp [sum]
theorem Fit.more {l : List Int} {k : Nat} {n : Int} (h : Fit (l.take k)) (hn : l[k]? = some n) (h0 : 0 ≤ n) (h1 : sum (l.take k) + n ≤ 1000000000000000) : Fit (l.take (k + 1)) := by
  rw [take_snoc l k n hn]
  refine ⟨fun x hx => ?_, by rw [sum_append]; simp only [sum]; omega⟩
  rcases List.mem_append.1 hx with hx | hx
  · exact h.1 x hx
  · rw [List.mem_singleton.1 hx]; exact h0
theorem Fit.stop {l : List Int} {k : Nat} {n : Int} (hn : l[k]? = some n) (hbad : ¬ (0 ≤ n ∧ sum (l.take k) + n ≤ 1000000000000000)) : ¬ Fit l := by
  intro h
  have e : l = l.take (k + 1) ++ l.drop (k + 1) := (List.take_append_drop _ _).symm
  rw [e] at h
  have hf := h.front
  rw [take_snoc l k n hn] at hf
  have h1 := hf.1 n (by simp)
  have h2 := hf.2
  rw [sum_append] at h2
  simp only [sum] at h2
  exact hbad ⟨h1, by omega⟩
instance (l : List Int) : Decidable (Fit l) := by unfold Fit; exact inferInstance
def totV (l : List Int) : Int := if Fit l then sum l else 0
def totE (l : List Int) : Int := if Fit l then 0 else 40
def totOk (l : List Int) : Bool := decide (Fit l)

theorem sum_set (l : List Int) (i : Nat) (x y : Int) (h : l[i]? = some y) : sum (l.set i x) = sum l - y + x := by
  induction l generalizing i with
  | nil => simp at h
  | cons n l ih =>
    cases i with
    | zero => simp at h; subst h; simp only [List.set_cons_zero, sum]; omega
    | succ i => simp only [List.set_cons_succ, sum]; rw [ih i (by simpa using h)]; omega
/-- Two change places. -/
def swap (l : List Int) (i k : Nat) (x y : Int) : List Int := (l.set i y).set k x
theorem swap_sum (l : List Int) (i k : Nat) (x y : Int) (hx : l[i]? = some x) (hy : l[k]? = some y) : sum (swap l i k x y) = sum l := by
  unfold swap
  have hi := (List.getElem?_eq_some_iff.1 hx).1
  by_cases h : i = k
  · subst h
    have : x = y := by rw [hx] at hy; injection hy
    subst this
    rw [sum_set _ i x x (by rw [List.getElem?_set_self hi]), sum_set l i x x hx]; omega
  · rw [sum_set _ k x y (by rw [List.getElem?_set_ne h]; exact hy), sum_set l i y x hx]; omega
theorem swap_mem (l : List Int) (i k : Nat) (x y : Int) (hx : l[i]? = some x) (hy : l[k]? = some y) (n : Int) : n ∈ swap l i k x y ↔ n ∈ l := by
  have mx := List.mem_of_getElem? hx
  have my := List.mem_of_getElem? hy
  have hi := (List.getElem?_eq_some_iff.1 hx).1
  have hk := (List.getElem?_eq_some_iff.1 hy).1
  unfold swap
  constructor
  · intro h
    rcases List.mem_or_eq_of_mem_set h with h | h
    · rcases List.mem_or_eq_of_mem_set h with h | h
      · exact h
      · rw [h]; exact my
    · rw [h]; exact mx
  · intro h
    obtain ⟨j, hj⟩ := List.mem_iff_getElem?.1 h
    by_cases hjk : j = i
    · subst hjk
      have : n = x := by rw [hx] at hj; injection hj with hj; exact hj.symm
      subst this
      exact List.mem_of_getElem? (i := k) (by rw [List.getElem?_set_self (by rw [List.length_set]; exact hk)])
    · by_cases hjk2 : j = k
      · subst hjk2
        have : n = y := by rw [hy] at hj; injection hj with hj; exact hj.symm
        subst this
        exact List.mem_of_getElem? (i := i) (by rw [List.getElem?_set_ne (Ne.symm (fun h => hjk h.symm)), List.getElem?_set_self hi])
      · exact List.mem_of_getElem? (i := j) (by rw [List.getElem?_set_ne (fun h => hjk2 h.symm), List.getElem?_set_ne (fun h => hjk h.symm)]; exact hj)
theorem swap_fit (l : List Int) (i k : Nat) (x y : Int) (hx : l[i]? = some x) (hy : l[k]? = some y) : Fit (swap l i k x y) ↔ Fit l := by
  unfold Fit
  rw [swap_sum l i k x y hx hy]
  constructor
  · rintro ⟨h1, h2⟩; exact ⟨fun n hn => h1 n ((swap_mem l i k x y hx hy n).2 hn), h2⟩
  · rintro ⟨h1, h2⟩; exact ⟨fun n hn => h1 n ((swap_mem l i k x y hx hy n).1 hn), h2⟩
theorem swap_tot (l : List Int) (i k : Nat) (x y : Int) (hx : l[i]? = some x) (hy : l[k]? = some y) : totV (swap l i k x y) = totV l ∧ totE (swap l i k x y) = totE l := by
  unfold totV totE
  have h := swap_fit l i k x y hx hy
  rw [swap_sum l i k x y hx hy]
  by_cases g : Fit l
  · rw [if_pos g, if_pos (h.2 g), if_pos g, if_pos (h.2 g)]; exact ⟨rfl, rfl⟩
  · rw [if_neg g, if_neg (fun q => g (h.1 q)), if_neg g, if_neg (fun q => g (h.1 q))]; exact ⟨rfl, rfl⟩

/-! ### Parts -/
/-- What the part number i has, of n in p parts. -/
def part (n p : Int) (i : Nat) : Int := n / p + if (i : Int) < n % p then 1 else 0
def parts (n : Int) (p : Nat) : List Int := (List.range p).map fun i => part n p i
theorem parts_length (n : Int) (p : Nat) : (parts n p).length = p := by simp [parts]
theorem parts_at (n : Int) (p i : Nat) (h : i < p) : (parts n p)[i]? = some (part n p i) := by
  unfold parts; rw [List.getElem?_map, List.getElem?_range h]; rfl
/-- What is left behind the first i of them. -/
def left (n p : Int) (i : Nat) : Int := n - (n / p * i + if (i : Int) < n % p then (i : Int) else n % p)
theorem left_zero (n p : Int) (hn : 0 ≤ n) (hp : 0 < p) : left n p 0 = n := by
  have := Int.emod_nonneg n (show p ≠ 0 by omega)
  unfold left
  rw [Int.natCast_zero, Int.mul_zero]
  split <;> omega
theorem left_step (n p : Int) (i : Nat) : left n p (i + 1) = left n p i - part n p i := by
  unfold left part
  rw [Int.natCast_succ, Int.mul_add, Int.mul_one]
  split <;> split <;> omega
theorem left_end (n : Int) (p : Nat) (hp : 0 < p) : left n p p = 0 := by
  have h1 := Int.emod_lt_of_pos n (show (0 : Int) < p by omega)
  have h2 := Int.mul_ediv_add_emod n p
  unfold left
  rw [if_neg (by omega)]
  rw [Int.mul_comm] at h2
  omega
/-- What is left, divided by how many are left, upwards. -/
theorem part_up (n : Int) (p i : Nat) (hn : 0 ≤ n) (hi : i < p) : (left n p i + ((p - i : Nat) : Int) - 1) / ((p - i : Nat) : Int) = part n p i := by
  have h1 := Int.emod_lt_of_pos n (show (0 : Int) < p by omega)
  have h0 := Int.emod_nonneg n (show (p : Int) ≠ 0 by omega)
  have h2 := Int.mul_ediv_add_emod n p
  have hk : ((p - i : Nat) : Int) = (p : Int) - i := by omega
  have hkp : (0 : Int) < (p : Int) - i := by omega
  unfold left part
  rw [hk]
  generalize n / (p : Int) = q at *
  generalize n % (p : Int) = r at *
  have e : n = (p : Int) * q + r := by omega
  subst e
  split
  · rename_i h
    have e2 : (p : Int) * q + r - (q * i + i) + ((p : Int) - i) - 1 = (r - i - 1) + (q + 1) * ((p : Int) - i) := by
      rw [Int.add_mul, Int.one_mul, Int.mul_sub, Int.mul_comm q (p : Int)]; omega
    rw [e2, Int.add_mul_ediv_right _ _ (by omega), Int.ediv_eq_zero_of_lt (by omega) (by omega)]; omega
  · rename_i h
    have e2 : (p : Int) * q + r - (q * i + r) + ((p : Int) - i) - 1 = ((p : Int) - i - 1) + q * ((p : Int) - i) := by
      rw [Int.mul_sub, Int.mul_comm q (p : Int)]; omega
    rw [e2, Int.add_mul_ediv_right _ _ (by omega), Int.ediv_eq_zero_of_lt (by omega) (by omega)]; omega
theorem part_range (n : Int) (p i : Nat) (hn : 0 ≤ n) (hi : i < p) : 0 ≤ part n p i ∧ part n p i ≤ n := by
  have h1 := Int.emod_lt_of_pos n (show (0 : Int) < p by omega)
  have h0 := Int.emod_nonneg n (show (p : Int) ≠ 0 by omega)
  have h2 := Int.mul_ediv_add_emod n p
  have h3 := Int.ediv_nonneg hn (show (0 : Int) ≤ p by omega)
  unfold part
  have h4 : n / (p : Int) ≤ (p : Int) * (n / p) := by
    have := Int.mul_le_mul_of_nonneg_right (show (1 : Int) ≤ p by omega) h3
    omega
  split <;> omega
theorem part_falls (n : Int) (p i : Nat) : part n p (i + 1) ≤ part n p i := by
  unfold part; split <;> split <;> omega
theorem part_near (n : Int) (p i : Nat) : part n p 0 - part n p i ≤ 1 := by
  unfold part; split <;> split <;> omega
theorem left_nonneg (n : Int) (p i : Nat) (hn : 0 ≤ n) (hi : i ≤ p) (hp : 0 < p) : 0 ≤ left n p i ∧ left n p i ≤ n := by
  induction i with
  | zero => rw [left_zero n p hn (by omega)]; omega
  | succ i ih =>
    have := ih (by omega)
    have hs := left_step n p i
    have hr := part_range n p i hn (by omega)
    refine ⟨?_, by omega⟩
    by_cases h : i + 1 = p
    · rw [h, left_end n p hp]; omega
    · -- what is left is the sum of what follows
      have h1 := Int.emod_lt_of_pos n (show (0 : Int) < p by omega)
      have h0 := Int.emod_nonneg n (show (p : Int) ≠ 0 by omega)
      have h2 := Int.mul_ediv_add_emod n p
      have h3 := Int.ediv_nonneg hn (show (0 : Int) ≤ p by omega)
      unfold left
      have h4 : n / (p : Int) * ((i + 1 : Nat) : Int) ≤ (p : Int) * (n / p) := by
        rw [Int.mul_comm (p : Int)]
        exact Int.mul_le_mul_of_nonneg_left (by omega) h3
      split <;> omega

/-! ### Fees -/
def rated (x : Nat) : Bool := decide (x ≤ 4607182418800017408 ∨ x = 9223372036854775808)
theorem one_size : size 4607182418800017408 = unit := by
  have h : (4607182418800017408 : Nat) = 1023 * 2 ^ 52 := by decide
  have hm : mant 4607182418800017408 = 2 ^ 52 := by decide +kernel
  have hu : 52 + up 4607182418800017408 = ex := by rw [ex_eq]; decide +kernel
  rw [size_eq, hm, ← Nat.pow_add, hu, unit_eq]
theorem rated_sz {x : Nat} (h : rated x = true) : 0 ≤ sz x ∧ sz x ≤ unit := by
  unfold rated at h
  simp only [decide_eq_true_eq] at h
  rcases h with h | h
  · unfold sz
    rw [if_neg (by omega), rung_lt (by omega)]
    refine ⟨by omega, ?_⟩
    rw [← one_size]
    rcases Nat.lt_or_ge x 4607182418800017408 with g | g
    · have := size_lt g; omega
    · have : x = 4607182418800017408 := by omega
      rw [this]; exact Int.le_refl _
  · subst h
    have e : sz 9223372036854775808 = 0 := by decide +kernel
    rw [e]; omega
theorem rated_nan {x : Nat} (h : rated x = true) : nan x = false ∧ inf x = false := by
  unfold rated at h
  simp only [decide_eq_true_eq] at h
  refine ⟨?_, ?_⟩
  · rw [nan_dec x (by omega), decide_eq_false_iff_not]; omega
  · unfold inf; rw [decide_eq_false_iff_not]; omega
theorem fee_range (n : Int) (x : Nat) (hn : 0 ≤ n) (h : rated x = true) : 0 ≤ prodF n x ∧ prodF n x ≤ n := by
  obtain ⟨h0, h1⟩ := rated_sz h
  have hu : (0 : Int) < unit := by have := unit_pos; omega
  unfold prodF
  refine ⟨Int.ediv_nonneg (Int.mul_nonneg hn h0) (by omega), ?_⟩
  have : n * sz x ≤ n * unit := Int.mul_le_mul_of_nonneg_left h1 hn
  have h2 := Int.ediv_le_ediv hu this
  rw [Int.mul_ediv_cancel _ (by omega)] at h2
  exact h2
theorem fee_rises (n m : Int) (x y : Nat) (hn : 0 ≤ n) (hnm : n ≤ m) (hx : rated x = true) (hxy : sz x ≤ sz y) : prodF n x ≤ prodF m y := by
  obtain ⟨h0, h1⟩ := rated_sz hx
  have hu : (0 : Int) < unit := by have := unit_pos; omega
  unfold prodF
  apply Int.ediv_le_ediv hu
  exact Int.le_trans (Int.mul_le_mul_of_nonneg_right hnm h0) (Int.mul_le_mul_of_nonneg_left hxy (by omega))
/-- A rate that is not above another one is not greater. -/
theorem rate_order {x y : Nat} (hx : rated x = true) (hy : rated y = true) (h : (FloatKind.f64.format.order x y == some .gt) = false) : sz x ≤ sz y := by
  rw [order_gt, (rated_nan hx).1, (rated_nan hy).1] at h
  simp only [Bool.not_false, Bool.true_and, decide_eq_false_iff_not] at h
  unfold rated at hx hy
  simp only [decide_eq_true_eq] at hx hy
  have hz : sz 9223372036854775808 = 0 := by decide +kernel
  rcases hx with hx | hx
  · rcases hy with hy | hy
    · rw [val_lt (by omega), val_lt (by omega)] at h
      unfold sz
      rw [if_neg (by omega), if_neg (by omega), rung_lt (by omega), rung_lt (by omega)]
      rcases Nat.lt_or_ge x y with g | g
      · have := size_lt g; omega
      · have : x = y := by omega
        rw [this]; exact Int.le_refl _
    · subst hy
      rw [val_lt (x := x) (by omega), val_ge (x := 9223372036854775808) (by omega) (by omega)] at h
      have : x = 0 := by omega
      subst this
      rw [hz]; decide +kernel
  · subst hx
    rw [hz]
    exact (rated_sz (by unfold rated; simp only [decide_eq_true_eq]; exact hy)).1
def feeE (n : Int) (x : Nat) : Int := if isA n then (if rated x then 0 else 43) else 40
def feeV (n : Int) (x : Nat) : Int := if isA n && rated x then prodF n x else 0
def subE (a b : Int) : Int := if isA a && isA b then (if a < b then 41 else 0) else 40
def subV (a b : Int) : Int := if isA a && isA b && !decide (a < b) then a - b else 0
def splitE (n p : Int) : Int := if isA n then (if 1 ≤ p ∧ p ≤ 1000 then 0 else 42) else 40
def splitV (n p : Int) : List Int := if splitE n p = 0 then parts n p.toNat else []
end Go.Am
