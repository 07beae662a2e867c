/- Chains: the plain mathematics of layer 11 (no program): the versions of one number, by rising times, and the mark. -/
import Derived.Test.YtckhddndeojobaaGreatMem
namespace Go.Cn
set_option linter.unusedVariables false

/-- A version: its time and its number. -/
abbrev Ve := Int × Int
/-- A chain. -/
structure Cs where
  l : List Ve
  mark : Int
abbrev top : Int := 1125899906842624
def isT (t : Int) : Bool := decide (0 ≤ t ∧ t ≤ 1125899906842624)
theorem isT_iff (t : Int) : isT t = true ↔ 0 ≤ t ∧ t ≤ 1125899906842624 := by unfold isT; rw [decide_eq_true_eq]
theorem isT_no (t : Int) : isT t = false ↔ t < 0 ∨ 1125899906842624 < t := by unfold isT; rw [decide_eq_false_iff_not]; omega

/-- The times rise. -/
def Rise (l : List Ve) : Prop := ∀ (i j : Nat) (a b : Ve), i < j → l[i]? = some a → l[j]? = some b → a.1 < b.1
/-- How many of the first ones have a time that isn't above t. -/
def upTo : List Ve → Int → Nat
  | [], _ => 0
  | v :: l, t => if v.1 ≤ t then upTo l t + 1 else 0
theorem upTo_le (l : List Ve) (t : Int) : upTo l t ≤ l.length := by
  induction l with
  | nil => exact Nat.le_refl _
  | cons v l ih => unfold upTo; split <;> simp <;> omega
theorem Rise.tail {v : Ve} {l : List Ve} (h : Rise (v :: l)) : Rise l := fun i j a b hij ha hb => h (i + 1) (j + 1) a b (by omega) (by simpa using ha) (by simpa using hb)
theorem lt_upTo {l : List Ve} (h : Rise l) (t : Int) (k : Nat) (v : Ve) (hk : l[k]? = some v) : v.1 ≤ t ↔ k < upTo l t := by
  induction l generalizing k with
  | nil => simp at hk
  | cons a l ih =>
    unfold upTo
    cases k with
    | zero =>
      have : a = v := by simpa using hk
      subst this
      split <;> rename_i h1
      · exact ⟨fun _ => by omega, fun _ => h1⟩
      · exact ⟨fun h => absurd h h1, fun h => by omega⟩
    | succ k =>
      have hk' : l[k]? = some v := by simpa using hk
      have h2 : a.1 < v.1 := h 0 (k + 1) a v (by omega) rfl hk
      have := ih h.tail k hk'
      split <;> rename_i h1
      · rw [this]; omega
      · constructor
        · intro h3; omega
        · intro h3; omega
theorem upTo_mono (l : List Ve) (s t : Int) (h : s ≤ t) : upTo l s ≤ upTo l t := by
  induction l with
  | nil => exact Nat.le_refl _
  | cons v l ih =>
    unfold upTo
    split <;> rename_i h1
    · rw [if_pos (by omega)]; omega
    · exact Nat.zero_le _
theorem upTo_append (l : List Ve) (v : Ve) (t : Int) (hv : t < v.1) : upTo (l ++ [v]) t = upTo l t := by
  induction l with
  | nil => simp [upTo]; omega
  | cons a l ih => simp only [List.cons_append, upTo, ih]
theorem upTo_all (l : List Ve) (t : Int) (h : ∀ v ∈ l, v.1 ≤ t) : upTo l t = l.length := by
  induction l with
  | nil => rfl
  | cons a l ih =>
    unfold upTo
    rw [if_pos (h a (List.mem_cons_self ..)), ih fun v hv => h v (List.mem_cons_of_mem _ hv)]
    rfl
/-- Behind the first ones, of which all have a time that isn't above t. -/
theorem upTo_drop (l : List Ve) (t : Int) (n : Nat) (h : n ≤ upTo l t) : upTo (l.drop n) t = upTo l t - n := by
  induction n generalizing l with
  | zero => simp
  | succ n ih =>
    cases l with
    | nil => simp [upTo]
    | cons a l =>
      have e : upTo (a :: l) t = if a.1 ≤ t then upTo l t + 1 else 0 := rfl
      rw [e] at h ⊢
      rw [List.drop_succ_cons]
      split at h <;> rename_i h1
      · rw [if_pos h1, ih l (by omega)]; omega
      · omega
theorem Rise.drop {l : List Ve} (h : Rise l) (n : Nat) : Rise (l.drop n) := fun i j a b hij ha hb => by
  rw [List.getElem?_drop] at ha hb
  exact h (n + i) (n + j) a b (by omega) ha hb
theorem Rise.snoc {l : List Ve} (h : Rise l) (v : Ve) (hv : ∀ a ∈ l, a.1 < v.1) : Rise (l ++ [v]) := fun i j a b hij ha hb => by
  by_cases hj : j < l.length
  · rw [List.getElem?_append_left hj] at hb
    rw [List.getElem?_append_left (by omega)] at ha
    exact h i j a b hij ha hb
  · rw [List.getElem?_append_right (by omega)] at hb
    have hj2 : j - l.length = 0 := by
      have := (List.getElem?_eq_some_iff.1 hb).1
      simp at this; omega
    rw [hj2] at hb
    have e : v = b := by simpa using hb
    subst e
    rw [List.getElem?_append_left (by omega)] at ha
    exact hv a (List.mem_of_getElem? ha)

/-- The last version's time; 0: there is none. -/
def lastV (l : List Ve) : Ve := (l[l.length - 1]?).getD (0, 0)
theorem lastV_at {l : List Ve} (h : 0 < l.length) : l[l.length - 1]? = some (lastV l) := by
  unfold lastV
  rw [List.getElem?_eq_getElem (by omega)]
  rfl
theorem lastV_none {l : List Ve} (h : l.length = 0) : lastV l = (0, 0) := by
  have := List.eq_nil_of_length_eq_zero h
  subst this
  rfl
theorem last_top {l : List Ve} (h : Rise l) (a : Ve) (ha : a ∈ l) : a.1 ≤ (lastV l).1 := by
  obtain ⟨i, hi⟩ := List.mem_iff_getElem?.1 ha
  have hl := (List.getElem?_eq_some_iff.1 hi).1
  have hz := lastV_at (l := l) (by omega)
  rcases Nat.lt_or_ge i (l.length - 1) with h1 | h1
  · have := h i (l.length - 1) a _ h1 hi hz
    omega
  · have : i = l.length - 1 := by omega
    subst this
    rw [hi] at hz
    injection hz with hz
    rw [hz]
    exact Int.le_refl _

/-- What holds of each chain. -/
structure Ok (c : Cs) : Prop where
  few : c.l.length ≤ 10000
  rise : Rise c.l
  range : ∀ v ∈ c.l, 1 ≤ v.1 ∧ v.1 ≤ 1125899906842624
  mark : 0 ≤ c.mark ∧ c.mark ≤ 1125899906842624
  one : ∀ i v, c.l[i + 1]? = some v → c.mark < v.1
/-- What holds of its versions alone. -/
structure Ok0 (c : Cs) : Prop where
  few : c.l.length ≤ 10000
  rise : Rise c.l
theorem Ok.zero {c : Cs} (h : Ok c) : Ok0 c := ⟨h.few, h.rise⟩
theorem Ok.new : Ok ⟨[], 0⟩ := ⟨by simp, fun i j a b _ h => by simp at h, fun v h => by simp at h, by simp, fun i v h => by simp at h⟩
theorem Ok.last {c : Cs} (h : Ok c) (t : Int) (ht : (lastV c.l).1 < t) : ∀ a ∈ c.l, a.1 < t := fun a ha => by
  have := last_top h.rise a ha
  omega

/-! ### The calls -/
def putE (c : Cs) (t : Int) : Int := if ¬(1 ≤ t ∧ t ≤ 1125899906842624) then 110 else if t ≤ (lastV c.l).1 ∨ t ≤ c.mark then 111 else if c.l.length = 10000 then 112 else 0
def put (c : Cs) (t v : Int) : Cs := if putE c t = 0 then ⟨c.l ++ [(t, v)], c.mark⟩ else c
theorem put_cases (c : Cs) (t v : Int) :
    ((t < 1 ∨ 1125899906842624 < t) ∧ putE c t = 110 ∧ put c t v = c) ∨
    ((1 ≤ t ∧ t ≤ 1125899906842624) ∧ (t ≤ (lastV c.l).1 ∨ t ≤ c.mark) ∧ putE c t = 111 ∧ put c t v = c) ∨
    ((1 ≤ t ∧ t ≤ 1125899906842624) ∧ (lastV c.l).1 < t ∧ c.mark < t ∧ c.l.length = 10000 ∧ putE c t = 112 ∧ put c t v = c) ∨
    ((1 ≤ t ∧ t ≤ 1125899906842624) ∧ (lastV c.l).1 < t ∧ c.mark < t ∧ c.l.length ≠ 10000 ∧ putE c t = 0 ∧ put c t v = ⟨c.l ++ [(t, v)], c.mark⟩) := by
  unfold put putE
  by_cases h1 : 1 ≤ t ∧ t ≤ 1125899906842624
  · rw [if_neg (by simpa using h1)]
    by_cases h2 : t ≤ (lastV c.l).1 ∨ t ≤ c.mark
    · rw [if_pos h2]; exact .inr (.inl ⟨h1, h2, rfl, by simp⟩)
    · rw [if_neg h2]
      by_cases h3 : c.l.length = 10000
      · rw [if_pos h3]; exact .inr (.inr (.inl ⟨h1, by omega, by omega, h3, rfl, by simp⟩))
      · rw [if_neg h3]; exact .inr (.inr (.inr ⟨h1, by omega, by omega, h3, rfl, by simp⟩))
  · rw [if_pos (by simpa using h1)]; exact .inl ⟨by omega, rfl, by simp⟩
theorem Ok.put {c : Cs} (h : Ok c) (t v : Int) : Ok (put c t v) := by
  rcases put_cases c t v with ⟨_, _, e⟩ | ⟨_, _, _, e⟩ | ⟨_, _, _, _, _, e⟩ | ⟨h1, h2, h3, h4, _, e⟩ <;> rw [e]
  · exact h
  · exact h
  · exact h
  · refine ⟨by have := h.few; simp; omega, h.rise.snoc _ (h.last t h2), fun a ha => ?_, h.mark, fun i a ha => ?_⟩
    · rcases List.mem_append.1 ha with ha | ha
      · exact h.range a ha
      · rw [List.mem_singleton] at ha; subst ha; exact h1
    · by_cases hi : i + 1 < c.l.length
      · rw [List.getElem?_append_left hi] at ha
        exact h.one i a ha
      · have := List.mem_of_getElem? ha
        rw [List.getElem?_append_right (by omega)] at ha
        have := List.mem_of_getElem? ha
        rw [List.mem_singleton] at this; subst this; exact h3
def getE (c : Cs) (t : Int) : Int := if ¬ isT t = true then 110 else if t < c.mark then 113 else if upTo c.l t = 0 then 114 else 0
def getV (c : Cs) (t : Int) : Ve := if getE c t = 0 then (c.l[upTo c.l t - 1]?).getD (0, 0) else (0, 0)
theorem get_cases (c : Cs) (t : Int) :
    (isT t = false ∧ getE c t = 110 ∧ getV c t = (0, 0)) ∨
    (isT t = true ∧ t < c.mark ∧ getE c t = 113 ∧ getV c t = (0, 0)) ∨
    (isT t = true ∧ c.mark ≤ t ∧ upTo c.l t = 0 ∧ getE c t = 114 ∧ getV c t = (0, 0)) ∨
    (isT t = true ∧ c.mark ≤ t ∧ ∃ n, upTo c.l t = n + 1 ∧ n < c.l.length ∧ c.l[n]? = some (getV c t) ∧ getE c t = 0) := by
  unfold getV getE
  cases h1 : isT t with
  | false => exact .inl ⟨rfl, by simp, by simp⟩
  | true =>
    by_cases h2 : t < c.mark
    · exact .inr (.inl ⟨rfl, h2, by simp [h2], by simp [h2]⟩)
    · by_cases h3 : upTo c.l t = 0
      · exact .inr (.inr (.inl ⟨rfl, by omega, h3, by simp [h2, h3], by simp [h2, h3]⟩))
      · have h4 := upTo_le c.l t
        refine .inr (.inr (.inr ⟨rfl, by omega, upTo c.l t - 1, by omega, by omega, ?_, by simp [h2, h3]⟩))
        simp only [not_true_eq_false, if_false, h2, h3, if_true]
        rw [List.getElem?_eq_getElem (by omega)]
        rfl
def pruneE (t : Int) : Int := if isT t then 0 else 110
def prune (c : Cs) (t : Int) : Cs := if isT t = true ∧ c.mark < t then ⟨c.l.drop (upTo c.l t - 1), t⟩ else c
theorem prune_cases (c : Cs) (t : Int) :
    (isT t = false ∧ pruneE t = 110 ∧ prune c t = c) ∨ (isT t = true ∧ t ≤ c.mark ∧ pruneE t = 0 ∧ prune c t = c) ∨ (isT t = true ∧ c.mark < t ∧ pruneE t = 0 ∧ prune c t = ⟨c.l.drop (upTo c.l t - 1), t⟩) := by
  unfold prune pruneE
  cases h1 : isT t with
  | false => exact .inl ⟨rfl, rfl, by simp⟩
  | true =>
    by_cases h2 : c.mark < t
    · exact .inr (.inr ⟨rfl, h2, rfl, by simp [h2]⟩)
    · exact .inr (.inl ⟨rfl, by omega, rfl, by simp [h2]⟩)
/-- Behind the one that counts at t all are above it. -/
theorem above_drop {l : List Ve} (h : Rise l) (t : Int) (i : Nat) (v : Ve) (hv : (l.drop (upTo l t - 1))[i + 1]? = some v) : t < v.1 := by
  rw [List.getElem?_drop] at hv
  have := lt_upTo h t _ v hv
  omega
theorem Ok.prune {c : Cs} (h : Ok c) (t : Int) : Ok (prune c t) := by
  rcases prune_cases c t with ⟨_, _, e⟩ | ⟨_, _, _, e⟩ | ⟨h1, h2, _, e⟩ <;> rw [e]
  · exact h
  · exact h
  · have ht := (isT_iff t).1 h1
    exact ⟨by have := h.few; simp; omega, h.rise.drop _, fun v hv => h.range v (List.mem_of_mem_drop hv), ht, fun i v hv => above_drop h.rise t i v hv⟩

/-! ### What the document does -/
/-- The document's Put: what stands in its way. -/
theorem put_high {c : Cs} (h : Ok c) (t : Int) : (t ≤ (lastV c.l).1 ∧ 1 ≤ t) → ∃ a ∈ c.l, t ≤ a.1 := by
  rintro ⟨h1, h2⟩
  rcases Nat.eq_zero_or_pos c.l.length with h0 | h0
  · rw [lastV_none h0] at h1
    simp at h1; omega
  · exact ⟨_, List.mem_of_getElem? (lastV_at h0), h1⟩
/-- The document's Prune: the one at i stays. -/
theorem stays_iff {l : List Ve} (h : Rise l) (t : Int) (i : Nat) (b : Ve) (hb : l[i + 1]? = some b) : t < b.1 ↔ upTo l t - 1 ≤ i := by
  have := lt_upTo h t _ b hb
  constructor <;> intro h1 <;> omega
theorem drop_take_succ (l : List Ve) (d k : Nat) (v : Ve) (h : l[k]? = some v) : (l.take (k + 1)).drop d = if d ≤ k then (l.take k).drop d ++ [v] else [] := by
  have hk := (List.getElem?_eq_some_iff.1 h).1
  rw [List.take_add_one, h]
  simp only [Option.toList]
  split
  · rw [List.drop_append_of_le_length (by rw [List.length_take]; omega)]
  · exact List.drop_eq_nil_of_le (by rw [List.length_append, List.length_take]; simp; omega)
theorem prune_doc {c : Cs} (h : Ok c) (t : Int) (m : Int) (hm : (c.mark < t ∧ m = t) ∨ (t ≤ c.mark ∧ m = c.mark)) (ht : isT t = true) : (⟨c.l.drop (upTo c.l m - 1), m⟩ : Cs) = prune c t := by
  rcases prune_cases c t with ⟨e, _, _⟩ | ⟨_, e2, _, e⟩ | ⟨h1, h2, _, e⟩
  · rw [ht] at e; cases e
  · rw [e]
    rcases hm with ⟨h1, _⟩ | ⟨_, rfl⟩
    · omega
    · have : upTo c.l c.mark ≤ 1 := by
        rcases Nat.lt_or_ge 1 (upTo c.l c.mark) with hlt | hge
        · have h3 := upTo_le c.l c.mark
          have h4 : c.l[0 + 1]? = some (c.l[0 + 1]'(by omega)) := List.getElem?_eq_getElem _
          have h5 := h.one 0 _ h4
          have h6 := (lt_upTo h.rise c.mark _ _ h4).2 (by omega)
          omega
        · exact hge
      rw [show upTo c.l c.mark - 1 = 0 by omega, List.drop_zero]
  · rw [e]
    rcases hm with ⟨_, rfl⟩ | ⟨h3, _⟩
    · rfl
    · omega
end Go.Cn
