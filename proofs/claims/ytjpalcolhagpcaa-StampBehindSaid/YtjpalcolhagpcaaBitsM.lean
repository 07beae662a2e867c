/- Lists of binary digits, the lowest first: plain mathematics. -/
import Derived.Test.YtjpalcolhagpcaaTimesM
namespace Go
namespace Fl

def bval : List Nat → Nat
  | [] => 0
  | x :: xs => x + 2 * bval xs
def Bin (xs : List Nat) : Prop := ∀ x, x ∈ xs → x < 2
theorem Bin.snoc {xs : List Nat} {x : Nat} (h : Bin xs) (hx : x < 2) : Bin (xs ++ [x]) := by
  intro y hy; rcases List.mem_append.1 hy with g | g
  · exact h y g
  · rw [List.mem_singleton.1 g]; exact hx
theorem Bin.cons {xs : List Nat} {x : Nat} (h : Bin xs) (hx : x < 2) : Bin (x :: xs) := by
  intro y hy; rcases List.mem_cons.1 hy with g | g
  · rw [g]; exact hx
  · exact h y g
theorem Bin.tail {xs : List Nat} {x : Nat} (h : Bin (x :: xs)) : Bin xs := fun y hy => h y (List.mem_cons_of_mem _ hy)
theorem Bin.getD {xs : List Nat} (h : Bin xs) (i : Nat) : xs.getD i 0 < 2 := by
  rw [List.getD_eq_getElem?_getD]
  by_cases g : i < xs.length
  · rw [List.getElem?_eq_getElem g]; exact h _ (List.getElem_mem g)
  · rw [List.getElem?_eq_none (by omega)]; exact Nat.zero_lt_two
theorem Bin.set {xs : List Nat} {i x : Nat} (h : Bin xs) (hx : x < 2) : Bin (xs.set i x) := by
  intro y hy
  rcases List.mem_or_eq_of_mem_set hy with g | g
  · exact h y g
  · rw [g]; exact hx
theorem bval_append (xs ys : List Nat) : bval (xs ++ ys) = bval xs + 2 ^ xs.length * bval ys := by
  induction xs with
  | nil => simp [bval]
  | cons x xs ih => rw [List.cons_append, bval, bval, ih, List.length_cons, Nat.pow_succ, Nat.mul_add, Nat.mul_comm (2 ^ xs.length) 2, Nat.mul_assoc]; omega
theorem bval_snoc (xs : List Nat) (x : Nat) : bval (xs ++ [x]) = bval xs + 2 ^ xs.length * x := by
  rw [bval_append]; simp [bval]
theorem bval_lt {xs : List Nat} (h : Bin xs) : bval xs < 2 ^ xs.length := by
  induction xs with
  | nil => simp [bval]
  | cons x xs ih =>
    have := ih h.tail
    have hx := h x (by simp)
    rw [bval, List.length_cons, Nat.pow_succ]; omega
theorem bval_set (xs : List Nat) (i x : Nat) (h : i < xs.length) : bval (xs.set i x) + 2 ^ i * xs.getD i 0 = bval xs + 2 ^ i * x := by
  induction xs generalizing i with
  | nil => simp at h
  | cons y ys ih =>
    cases i with
    | zero => simp [bval]; omega
    | succ i =>
      have := ih i (by simpa using h)
      rw [List.set_cons_succ, bval, bval, List.getD_cons_succ, Nat.pow_succ]
      have e : ∀ a, 2 ^ i * 2 * a = 2 * (2 ^ i * a) := fun a => by rw [Nat.mul_comm (2 ^ i) 2, Nat.mul_assoc]
      rw [e, e]; omega
theorem bval_replicate (n : Nat) : bval (List.replicate n 0) = 0 := by
  induction n with
  | zero => rfl
  | succ n ih => rw [List.replicate_succ, bval, ih]
theorem bin_replicate (n : Nat) : Bin (List.replicate n 0) := by
  intro x hx; rw [List.eq_of_mem_replicate hx]; exact Nat.zero_lt_two
/-- A digit beyond a number's length is 0. -/
theorem bval_high {xs : List Nat} (h : Bin xs) (i : Nat) (hv : bval xs < 2 ^ i) : xs.getD i 0 = 0 := by
  induction xs generalizing i with
  | nil => rfl
  | cons y ys ih =>
    cases i with
    | zero => rw [Nat.pow_zero, bval] at hv; simp; omega
    | succ i =>
      rw [List.getD_cons_succ]
      refine ih h.tail i ?_
      rw [bval, Nat.pow_succ] at hv; omega
theorem bval_take_succ (xs : List Nat) (k : Nat) (h : k < xs.length) : bval (xs.take (k + 1)) = bval (xs.take k) + 2 ^ k * xs.getD k 0 := by
  rw [List.take_succ_eq_append_getElem h, bval_snoc, List.length_take, Nat.min_eq_left (by omega), List.getD_eq_getElem?_getD, List.getElem?_eq_getElem h]; rfl
theorem bval_take_le (xs : List Nat) (k : Nat) : bval (xs.take k) ≤ bval xs := by
  conv => rhs; rw [← List.take_append_drop k xs, bval_append]
  exact Nat.le_add_right _ _
theorem bin_take {xs : List Nat} (h : Bin xs) (k : Nat) : Bin (xs.take k) := fun x hx => h x (List.mem_of_mem_take hx)

/-! ### The document's way: shift by digits, cut, go up or down -/
theorem final_val (n : Int) (x : Nat) (u ng : Bool) (hng : ng = true ↔ ((n < 0 ∧ ¬ 9223372036854775808 ≤ x) ∨ (0 ≤ n ∧ 9223372036854775808 ≤ x)))
    (P : Nat) (hP : P = n.natAbs * mant (rung x)) (e : Int) (he : e = (up (rung x) : Int) - 1074) (V : Nat) (hV : V = wholeOf P e + (cutOf P e && (ng != u)).toNat) :
    (if ng then -(V : Int) else (V : Int)) = if u then -prodF (-n) x else prodF n x := by
  subst hP he
  by_cases hn : n = 0
  · subst hn
    have w : wholeOf ((0 : Int).natAbs * mant (rung x)) ((up (rung x) : Int) - 1074) = 0 := by
      unfold wholeOf; rw [Int.natAbs_zero, Nat.zero_mul]; split <;> simp
    have c : cutOf ((0 : Int).natAbs * mant (rung x)) ((up (rung x) : Int) - 1074) = false := by
      unfold cutOf; rw [Int.natAbs_zero, Nat.zero_mul]; split <;> simp
    rw [w, c] at hV
    simp only [Bool.false_and, Bool.toNat_false, Nat.add_zero] at hV
    rw [hV, Int.neg_zero, prodF_zero 0 x (Or.inl rfl)]; simp
  · cases u
    · have p := prodF_eq n x ng hng
      simp only [Bool.false_eq_true, if_false]
      rw [p, hV]
      unfold floorV
      cases ng <;> cases cutOf (n.natAbs * mant (rung x)) ((up (rung x) : Int) - 1074) <;> simp <;> omega
    · have p := prodF_eq (-n) x (!ng) (by rw [Bool.not_eq_true', Bool.eq_false_iff, ne_eq, hng]; omega)
      rw [Int.natAbs_neg] at p
      simp only [if_true]
      rw [p, hV]
      unfold floorV
      cases ng <;> cases cutOf (n.natAbs * mant (rung x)) ((up (rung x) : Int) - 1074) <;> simp <;> omega
theorem cut_step (D k : Nat) : D / 2 ^ (k + 1) = D / 2 ^ k / 2 ∧ (decide (D % 2 ^ (k + 1) ≠ 0) = (decide (D % 2 ^ k ≠ 0) || decide (D / 2 ^ k % 2 = 1))) := by
  constructor
  · rw [Nat.pow_succ, Nat.div_div_eq_div_mul]
  · rw [Nat.mod_pow_succ, Bool.eq_iff_iff]
    have hp := Nat.two_pow_pos k
    rcases Nat.mod_two_eq_zero_or_one (D / 2 ^ k) with h | h <;> rw [h] <;> simp <;> omega
/-- Behind the two loops. -/
theorem shifted (P k1 k2 : Nat) (E : Int) (h1 : E ≤ 1075 + k1) (h2 : k1 = 0 ∨ 1075 + (k1 : Int) ≤ E) (h3 : 1075 ≤ E + k2) (h4 : k2 = 0 ∨ E + (k2 : Int) ≤ 1075) :
    P * 2 ^ k1 / 2 ^ k2 = wholeOf P (E - 1075) ∧ decide (P * 2 ^ k1 % 2 ^ k2 ≠ 0) = cutOf P (E - 1075) := by
  unfold wholeOf cutOf
  by_cases g : 0 ≤ E - 1075
  · have e2 : k2 = 0 := by omega
    have e1 : (E - 1075).toNat = k1 := by omega
    rw [if_pos g, if_pos g, e1, e2, Nat.pow_zero, Nat.div_one, Nat.mod_one]; exact ⟨rfl, rfl⟩
  · have e1 : k1 = 0 := by omega
    have e2 : (-(E - 1075)).toNat = k2 := by omega
    rw [if_neg g, if_neg g, e1, e2, Nat.pow_zero, Nat.mul_one]; exact ⟨rfl, rfl⟩

end Fl
end Go
