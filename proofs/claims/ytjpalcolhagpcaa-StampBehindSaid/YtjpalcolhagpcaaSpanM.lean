/- Spans: the plain mathematics of layer 5 (no program): widened, drifted, met, joined. -/
import Derived.Test.YtjpalcolhagpcaaTimesM
import Derived.Lib.Hide
namespace Go.Sp
set_option linter.unusedVariables false
open Go.Fl

def isT (n : Int) : Bool := decide (0 ≤ n ∧ n ≤ 1125899906842624)
theorem isT_iff (n : Int) : isT n = true ↔ 0 ≤ n ∧ n ≤ 1125899906842624 := by unfold isT; simp
theorem isT_no (n : Int) : isT n = false ↔ ¬ (0 ≤ n ∧ n ≤ 1125899906842624) := by unfold isT; simp
def isS (lo hi : Int) : Bool := decide (0 ≤ lo ∧ lo ≤ hi ∧ hi ≤ 1125899906842624)
theorem isS_iff (lo hi : Int) : isS lo hi = true ↔ 0 ≤ lo ∧ lo ≤ hi ∧ hi ≤ 1125899906842624 := by unfold isS; simp
theorem isS_no (lo hi : Int) : isS lo hi = false ↔ ¬ (0 ≤ lo ∧ lo ≤ hi ∧ hi ≤ 1125899906842624) := by unfold isS; simp
def chkS (lo hi : Int) : Int := if isS lo hi then 0 else 50
theorem chk_cases (lo hi : Int) : (isS lo hi = true ∧ chkS lo hi = 0 ∧ 0 ≤ lo ∧ lo ≤ hi ∧ hi ≤ 1125899906842624) ∨ (isS lo hi = false ∧ chkS lo hi = 50 ∧ ¬ (0 ≤ lo ∧ lo ≤ hi ∧ hi ≤ 1125899906842624)) := by
  unfold chkS
  cases h : isS lo hi with
  | true => exact .inl ⟨rfl, rfl, (isS_iff lo hi).1 h⟩
  | false => exact .inr ⟨rfl, rfl, (isS_no lo hi).1 h⟩

/-! ### Widened -/
def widE (lo hi b : Int) : Int := if isS lo hi then (if isT b then 0 else 52) else 50
def widL (lo hi b : Int) : Int := if widE lo hi b = 0 then (if lo ≤ b then 0 else lo - b) else 0
def widH (lo hi b : Int) : Int := if widE lo hi b = 0 then (if hi + b ≤ 1125899906842624 then hi + b else 1125899906842624) else 0
theorem wid_cases (lo hi b : Int) : (widE lo hi b = 0 ∧ isS lo hi = true ∧ isT b = true ∧ (0 ≤ lo ∧ lo ≤ hi ∧ hi ≤ 1125899906842624) ∧ (0 ≤ b ∧ b ≤ 1125899906842624) ∧ widL lo hi b = (if lo ≤ b then 0 else lo - b) ∧ widH lo hi b = (if hi + b ≤ 1125899906842624 then hi + b else 1125899906842624)) ∨
    (widE lo hi b = 52 ∧ isS lo hi = true ∧ isT b = false ∧ (0 ≤ lo ∧ lo ≤ hi ∧ hi ≤ 1125899906842624) ∧ ¬ (0 ≤ b ∧ b ≤ 1125899906842624) ∧ widL lo hi b = 0 ∧ widH lo hi b = 0) ∨
    (widE lo hi b = 50 ∧ isS lo hi = false ∧ ¬ (0 ≤ lo ∧ lo ≤ hi ∧ hi ≤ 1125899906842624) ∧ widL lo hi b = 0 ∧ widH lo hi b = 0) := by
  unfold widL widH widE
  cases h1 : isS lo hi with
  | false => exact .inr (.inr ⟨rfl, rfl, (isS_no lo hi).1 h1, rfl, rfl⟩)
  | true =>
    cases h2 : isT b with
    | false => exact .inr (.inl ⟨rfl, rfl, rfl, (isS_iff lo hi).1 h1, (isT_no b).1 h2, rfl, rfl⟩)
    | true => exact .inl ⟨rfl, rfl, rfl, (isS_iff lo hi).1 h1, (isT_iff b).1 h2, rfl, rfl⟩

/-! ### Rates -/
def rated (x : Nat) : Bool := decide (x ≤ 4607182418800017408 ∨ x = 9223372036854775808)
theorem one_size : size 4607182418800017408 = unit := by
  have hm : mant 4607182418800017408 = 2 ^ 52 := by decide +kernel
  have hu : 52 + up 4607182418800017408 = ex := by rw [ex_eq]; decide +kernel
  rw [size_eq, hm, ← Nat.pow_add, hu, unit_eq]
theorem rated_sz {x : Nat} (h : rated x = true) : 0 ≤ sz x ∧ sz x ≤ unit := by
  unfold rated at h
  simp only [decide_eq_true_eq] at h
  rcases h with h | h
  · unfold sz
    rw [if_neg (by omega), rung_lt (by omega)]
    refine ⟨by omega, ?_⟩
    rw [← one_size]
    rcases Nat.lt_or_ge x 4607182418800017408 with g | g
    · have := size_lt g; omega
    · have : x = 4607182418800017408 := by omega
      rw [this]; exact Int.le_refl _
  · subst h
    have e : sz 9223372036854775808 = 0 := by decide +kernel
    rw [e]; omega
theorem rated_nan {x : Nat} (h : rated x = true) : nan x = false ∧ inf x = false := by
  unfold rated at h
  simp only [decide_eq_true_eq] at h
  refine ⟨?_, ?_⟩
  · rw [nan_dec x (by omega), decide_eq_false_iff_not]; omega
  · unfold inf; rw [decide_eq_false_iff_not]; omega

/-! ### Drifted -/
/-- How much more, by so much time at that rate: the exact product, cut upwards. -/
def moreT (n : Int) (x : Nat) : Int := -prodF (-n) x
theorem more_range (n : Int) (x : Nat) (hn : 0 ≤ n) (h : rated x = true) : 0 ≤ moreT n x ∧ moreT n x ≤ n := by
  obtain ⟨h0, h1⟩ := rated_sz h
  have hu : (0 : Int) < unit := by have := unit_pos; omega
  unfold moreT prodF
  have e : -n * sz x = -(n * sz x) := Int.neg_mul _ _
  have a : 0 ≤ n * sz x := Int.mul_nonneg hn h0
  have b : n * sz x ≤ n * unit := Int.mul_le_mul_of_nonneg_left h1 hn
  rw [e]
  constructor
  · have : -(n * sz x) / (unit : Int) ≤ 0 / (unit : Int) := Int.ediv_le_ediv hu (by omega)
    rw [Int.zero_ediv] at this; omega
  · have : -n * unit / (unit : Int) ≤ -(n * sz x) / (unit : Int) := Int.ediv_le_ediv hu (by rw [Int.neg_mul]; omega)
    rw [Int.mul_ediv_cancel _ (by omega)] at this; omega
theorem more_rises (n m : Int) (x : Nat) (hnm : n ≤ m) (h : rated x = true) : moreT n x ≤ moreT m x := by
  obtain ⟨h0, h1⟩ := rated_sz h
  have hu : (0 : Int) < unit := by have := unit_pos; omega
  unfold moreT prodF
  have b : n * sz x ≤ m * sz x := Int.mul_le_mul_of_nonneg_right hnm h0
  have : -m * sz x / (unit : Int) ≤ -n * sz x / (unit : Int) := Int.ediv_le_ediv hu (by rw [Int.neg_mul, Int.neg_mul]; omega)
  omega
def driE (lo hi n : Int) (x : Nat) : Int := if isS lo hi then (if isT n then (if rated x then 0 else 51) else 52) else 50
def driL (lo hi n : Int) (x : Nat) : Int := if driE lo hi n x = 0 then widL lo hi (moreT n x) else 0
def driH (lo hi n : Int) (x : Nat) : Int := if driE lo hi n x = 0 then widH lo hi (moreT n x) else 0
theorem dri_cases (lo hi n : Int) (x : Nat) : (driE lo hi n x = 0 ∧ isS lo hi = true ∧ isT n = true ∧ rated x = true ∧ driL lo hi n x = widL lo hi (moreT n x) ∧ driH lo hi n x = widH lo hi (moreT n x) ∧ widE lo hi (moreT n x) = 0) ∨
    (driE lo hi n x = 51 ∧ isS lo hi = true ∧ isT n = true ∧ rated x = false ∧ driL lo hi n x = 0 ∧ driH lo hi n x = 0) ∨
    (driE lo hi n x = 52 ∧ isS lo hi = true ∧ isT n = false ∧ driL lo hi n x = 0 ∧ driH lo hi n x = 0) ∨
    (driE lo hi n x = 50 ∧ isS lo hi = false ∧ driL lo hi n x = 0 ∧ driH lo hi n x = 0) := by
  unfold driL driH driE
  cases h1 : isS lo hi with
  | false => exact .inr (.inr (.inr ⟨rfl, rfl, rfl, rfl⟩))
  | true =>
    cases h2 : isT n with
    | false => exact .inr (.inr (.inl ⟨rfl, rfl, rfl, rfl, rfl⟩))
    | true =>
      cases h3 : rated x with
      | false => exact .inr (.inl ⟨rfl, rfl, rfl, rfl, rfl, rfl⟩)
      | true =>
        refine .inl ⟨rfl, rfl, rfl, rfl, rfl, rfl, ?_⟩
        have hn := (isT_iff n).1 h2
        have hm := more_range n x hn.1 h3
        unfold widE
        rw [h1, (isT_iff _).2 ⟨hm.1, by omega⟩]; rfl

/-! ### Related -/
def hasB (lo hi t : Int) : Bool := isS lo hi && decide (lo ≤ t ∧ t ≤ hi)
def befB (lo hi lo' hi' : Int) : Bool := isS lo hi && isS lo' hi' && decide (hi < lo')
def metL (lo lo' : Int) : Int := if lo < lo' then lo' else lo
def metH (hi hi' : Int) : Int := if hi' < hi then hi' else hi
def metB (lo hi lo' hi' : Int) : Bool := isS lo hi && isS lo' hi' && decide (metL lo lo' ≤ metH hi hi')
def mL (lo hi lo' hi' : Int) : Int := if metB lo hi lo' hi' then metL lo lo' else 0
def mH (lo hi lo' hi' : Int) : Int := if metB lo hi lo' hi' then metH hi hi' else 0

/-! ### Joined -/
def AllS (l : List (Int × Int)) : Prop := ∀ s ∈ l, isS s.1 s.2 = true
instance (l : List (Int × Int)) : Decidable (AllS l) := by unfold AllS; exact inferInstance
def joiB (l : List (Int × Int)) : Bool := decide (l ≠ [] ∧ AllS l)
def lowest (l : List (Int × Int)) : Int := l.foldl (fun a s => if s.1 < a then s.1 else a) 1125899906842624
def highest (l : List (Int × Int)) : Int := l.foldl (fun a s => if a < s.2 then s.2 else a) 0
def joiL (l : List (Int × Int)) : Int := if joiB l then lowest l else 0
def joiH (l : List (Int × Int)) : Int := if joiB l then highest l else 0
theorem take_snoc {α : Type} (l : List α) (k : Nat) (n : α) (h : l[k]? = some n) : l.take (k + 1) = l.take k ++ [n] := by
  have hl := List.getElem?_eq_some_iff.1 h
  rw [List.take_succ_eq_append_getElem hl.1, hl.2]
theorem lowest_snoc (l : List (Int × Int)) (k : Nat) (s : Int × Int) (h : l[k]? = some s) : lowest (l.take (k + 1)) = if s.1 < lowest (l.take k) then s.1 else lowest (l.take k) := by
  rw [take_snoc l k s h]; unfold lowest; rw [List.foldl_append]; rfl
theorem highest_snoc (l : List (Int × Int)) (k : Nat) (s : Int × Int) (h : l[k]? = some s) : highest (l.take (k + 1)) = if highest (l.take k) < s.2 then s.2 else highest (l.take k) := by
  rw [take_snoc l k s h]; unfold highest; rw [List.foldl_append]; rfl
theorem AllS.nil : AllS [] := fun s h => by cases h
theorem AllS.more {l : List (Int × Int)} {k : Nat} {s : Int × Int} (h : AllS (l.take k)) (hk : l[k]? = some s) (hs : isS s.1 s.2 = true) : AllS (l.take (k + 1)) := by
  rw [take_snoc l k s hk]
  intro r hr
  rcases List.mem_append.1 hr with hr | hr
  · exact h r hr
  · rw [List.mem_singleton.1 hr]; exact hs
theorem AllS.stop {l : List (Int × Int)} {k : Nat} {s : Int × Int} (hk : l[k]? = some s) (hs : isS s.1 s.2 = false) : ¬ AllS l := fun h => by
  rw [h s (List.mem_of_getElem? hk)] at hs; cases hs
/-- Behind at least one, all of them spans: what is lowest and highest so far are ends of some, and of a span. -/
theorem ends_some (l : List (Int × Int)) (h : AllS l) (k : Nat) (hk : k ≤ l.length) :
    (k = 0 ∧ lowest (l.take k) = 1125899906842624 ∧ highest (l.take k) = 0) ∨ (0 < k ∧ (∃ i, i < k ∧ ∃ s, l[i]? = some s ∧ s.1 = lowest (l.take k)) ∧ (∃ i, i < k ∧ ∃ s, l[i]? = some s ∧ s.2 = highest (l.take k)) ∧
      (∀ i s, i < k → l[i]? = some s → lowest (l.take k) ≤ s.1 ∧ s.2 ≤ highest (l.take k))) := by
  induction k with
  | zero => exact .inl ⟨rfl, rfl, rfl⟩
  | succ k ih =>
    right
    have hlt : k < l.length := by omega
    obtain ⟨s, hs⟩ : ∃ s, l[k]? = some s := ⟨_, List.getElem?_eq_getElem hlt⟩
    have hS := (isS_iff _ _).1 (h s (List.mem_of_getElem? hs))
    rw [lowest_snoc l k s hs, highest_snoc l k s hs]
    refine ⟨by omega, ?_⟩
    rcases ih (by omega) with ⟨h0, h1, h2⟩ | ⟨h0, ⟨i, hi, r, hr, e1⟩, ⟨j, hj, q, hq, e2⟩, hall⟩
    · subst h0
      rw [h1, h2]
      refine ⟨⟨0, by omega, s, hs, ?_⟩, ⟨0, by omega, s, hs, ?_⟩, fun i r hi hr => ?_⟩
      · split <;> omega
      · split <;> omega
      · have : i = 0 := by omega
        subst this
        rw [hs] at hr; injection hr with hr; subst hr
        constructor <;> split <;> omega
    · refine ⟨?_, ?_, fun i' r' hi' hr' => ?_⟩
      · split
        · exact ⟨k, by omega, s, hs, rfl⟩
        · exact ⟨i, by omega, r, hr, e1⟩
      · split
        · exact ⟨k, by omega, s, hs, rfl⟩
        · exact ⟨j, by omega, q, hq, e2⟩
      · rcases Nat.lt_or_ge i' k with g | g
        · have := hall i' r' g hr'
          constructor <;> split <;> omega
        · have : i' = k := by omega
          subst this
          rw [hs] at hr'; injection hr' with hr'; subst hr'
          constructor <;> split <;> omega
theorem joi_cases (l : List (Int × Int)) : (joiB l = true ∧ l ≠ [] ∧ AllS l ∧ joiL l = lowest l ∧ joiH l = highest l) ∨ (joiB l = false ∧ ¬ (l ≠ [] ∧ AllS l) ∧ joiL l = 0 ∧ joiH l = 0) := by
  unfold joiL joiH
  cases h : joiB l with
  | true =>
    have := of_decide_eq_true h
    exact .inl ⟨rfl, this.1, this.2, rfl, rfl⟩
  | false => exact .inr ⟨rfl, of_decide_eq_false h, rfl, rfl⟩
end Go.Sp
