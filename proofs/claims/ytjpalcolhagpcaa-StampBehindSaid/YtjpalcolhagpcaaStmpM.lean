/- Stamps: the plain mathematics of layer 10 (no program): a source by its last stamp; right clocks and what is past by them. -/
import Derived.Test.YtjpalcolhagpcaaClockM
namespace Go.Tp
set_option linter.unusedVariables false
open Go.Fl Go.Sp Go.Ck

/-! ### The greatest of some -/
def top (a : Int) (l : List Int) : Int := l.foldl mx a
theorem top_nil (a : Int) : top a [] = a := rfl
theorem top_cons (a b : Int) (l : List Int) : top a (b :: l) = top (mx a b) l := rfl
theorem top_append (a : Int) (l m : List Int) : top a (l ++ m) = top (top a l) m := by unfold top; rw [List.foldl_append]
theorem top_one (a b : Int) : top a [b] = mx a b := rfl
theorem le_top (l : List Int) : ∀ a, a ≤ top a l := by
  induction l with
  | nil => intro a; exact Int.le_refl _
  | cons b l ih =>
    intro a
    have h := ih (mx a b)
    have := mx_cases a b
    rw [top_cons]
    omega
theorem mem_top (l : List Int) : ∀ a, ∀ x ∈ l, x ≤ top a l := by
  induction l with
  | nil => intro a x hx; cases hx
  | cons b l ih =>
    intro a x hx
    rw [top_cons]
    rcases List.mem_cons.1 hx with rfl | hx
    · have h := le_top l (mx a x)
      have := mx_cases a x
      omega
    · exact ih _ x hx
theorem top_is (l : List Int) : ∀ a, top a l = a ∨ top a l ∈ l := by
  induction l with
  | nil => intro a; exact .inl rfl
  | cons b l ih =>
    intro a
    rw [top_cons]
    rcases ih (mx a b) with h | h
    · rw [h]
      rcases mx_cases a b with ⟨-, e⟩ | ⟨-, e⟩
      · right; rw [e]; exact List.mem_cons_self ..
      · left; exact e
    · right; exact List.mem_cons_of_mem _ h
theorem top_take (a : Int) (l : List Int) (k : Nat) (v : Int) (h : l[k]? = some v) : top a (l.take (k + 1)) = mx (top a (l.take k)) v := by
  rw [List.take_add_one, h]
  simp only [Option.toList]
  rw [top_append, top_one]
theorem mx_comm (a b : Int) : mx a b = mx b a := by unfold mx; split <;> split <;> omega

/-! ### A source -/
def isK (t : Int) : Bool := decide (1 ≤ t ∧ t ≤ 1125899906842624)
theorem isK_iff (t : Int) : isK t = true ↔ 1 ≤ t ∧ t ≤ 1125899906842624 := by unfold isK; rw [decide_eq_true_eq]
theorem isK_no (t : Int) : isK t = false ↔ t < 1 ∨ 1125899906842624 < t := by unfold isK; rw [decide_eq_false_iff_not]; omega
theorem isK_T (t : Int) : isK t = (decide (0 < t) && isT t) := by
  rw [Bool.eq_iff_iff, Bool.and_eq_true, isK_iff, isT_iff, decide_eq_true_eq]; omega
def reach (n hi : Int) (l : List Int) : Int := top (mx n hi) l
def nextE (n lo hi : Int) (l : List Int) : Int := if isS lo hi then (if 1125899906842624 ≤ reach n hi l then 101 else 0) else 100
def nextV (n lo hi : Int) (l : List Int) : Int := if nextE n lo hi l = 0 then reach n hi l + 1 else 0
def nextN (n lo hi : Int) (l : List Int) : Int := if nextE n lo hi l = 0 then reach n hi l + 1 else n
theorem next_cases (n lo hi : Int) (l : List Int) :
    (isS lo hi = true ∧ reach n hi l < 1125899906842624 ∧ nextE n lo hi l = 0 ∧ nextV n lo hi l = reach n hi l + 1 ∧ nextN n lo hi l = reach n hi l + 1) ∨
    (isS lo hi = true ∧ 1125899906842624 ≤ reach n hi l ∧ nextE n lo hi l = 101 ∧ nextV n lo hi l = 0 ∧ nextN n lo hi l = n) ∨
    (isS lo hi = false ∧ nextE n lo hi l = 100 ∧ nextV n lo hi l = 0 ∧ nextN n lo hi l = n) := by
  unfold nextV nextN nextE
  cases h : isS lo hi with
  | true =>
    by_cases h1 : 1125899906842624 ≤ reach n hi l
    · exact .inr (.inl ⟨rfl, h1, by simp [h1], by simp [h1], by simp [h1]⟩)
    · exact .inl ⟨rfl, by omega, by simp [h1], by simp [h1], by simp [h1]⟩
  | false => exact .inr (.inr ⟨rfl, by simp, by simp, by simp⟩)
def keepE (t : Int) : Int := if isK t then 0 else 100
def keepN (n t : Int) : Int := if isK t then mx n t else n
theorem keep_cases (n t : Int) : (isK t = true ∧ (1 ≤ t ∧ t ≤ 1125899906842624) ∧ keepE t = 0 ∧ keepN n t = mx n t) ∨ (isK t = false ∧ (t < 1 ∨ 1125899906842624 < t) ∧ keepE t = 100 ∧ keepN n t = n) := by
  unfold keepE keepN
  cases h : isK t with
  | true => exact .inl ⟨rfl, (isK_iff t).1 h, rfl, rfl⟩
  | false => exact .inr ⟨rfl, (isK_no t).1 h, rfl, rfl⟩
def waitE (t lo hi : Int) : Int := if isK t && isS lo hi then 0 else 100
def waitV (t lo hi : Int) : Int := if isK t && isS lo hi then mx 0 (t - lo + 1) else 0
theorem wait_cases (t lo hi : Int) :
    (isK t = true ∧ isS lo hi = true ∧ waitE t lo hi = 0 ∧ ((t < lo ∧ waitV t lo hi = 0) ∨ (lo ≤ t ∧ waitV t lo hi = t - lo + 1))) ∨
    (isK t = true ∧ isS lo hi = false ∧ waitE t lo hi = 100 ∧ waitV t lo hi = 0) ∨
    (isK t = false ∧ waitE t lo hi = 100 ∧ waitV t lo hi = 0) := by
  unfold waitE waitV
  cases h : isK t with
  | true =>
    cases h1 : isS lo hi with
    | true =>
      refine .inl ⟨rfl, rfl, rfl, ?_⟩
      have := mx_cases 0 (t - lo + 1)
      show (_ ∧ mx 0 (t - lo + 1) = _) ∨ (_ ∧ mx 0 (t - lo + 1) = _)
      omega
    | false => exact .inr (.inl ⟨rfl, rfl, rfl, rfl⟩)
  | false => exact .inr (.inr ⟨rfl, rfl, rfl⟩)

/-! ### The document's source: what it gave and kept -/
theorem reach_doc (m : List Int) (lo hi : Int) (l : List Int) : top 0 (m ++ [hi] ++ l) = reach (top 0 m) hi l := by
  rw [top_append, top_append, top_one]; rfl
theorem top_more (m : List Int) (v : Int) : top 0 (m ++ [v]) = mx (top 0 m) v := by rw [top_append, top_one]
theorem reach_ge (n hi : Int) (l : List Int) : n ≤ reach n hi l ∧ hi ≤ reach n hi l := by
  have := mx_cases n hi
  have := le_top l (mx n hi)
  unfold reach
  omega
theorem reach_mem (n hi : Int) (l : List Int) (x : Int) (h : x ∈ l) : x ≤ reach n hi l := mem_top l _ x h
theorem reach_is (n hi : Int) (l : List Int) : reach n hi l = n ∨ reach n hi l = hi ∨ reach n hi l ∈ l := by
  unfold reach
  rcases top_is l (mx n hi) with h | h
  · rw [h]
    rcases mx_cases n hi with ⟨-, e⟩ | ⟨-, e⟩
    · exact .inr (.inl e)
    · exact .inl e
  · exact .inr (.inr h)
theorem next_doc (m : List Int) (lo hi : Int) (l : List Int) (h : nextE (top 0 m) lo hi l = 0) : top 0 (m ++ [nextV (top 0 m) lo hi l]) = nextN (top 0 m) lo hi l := by
  rcases next_cases (top 0 m) lo hi l with ⟨h0, h1, h2, h3, h4⟩ | ⟨_, _, h2, _⟩ | ⟨_, h2, _⟩
  · rw [top_more, h3, h4]
    have := (reach_ge (top 0 m) hi l).1
    have := mx_cases (top 0 m) (reach (top 0 m) hi l + 1)
    omega
  · rw [h2] at h; cases h
  · rw [h2] at h; cases h
end Go.Tp
