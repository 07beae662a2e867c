/- The document's clock as a list of what was taken: plain words. -/
import Derived.Test.YtpnojhcjaneleaaClkB
namespace Go.Proofs.Ytpnojhcjaneleaa
open Go.RowKit Go.Sp Go.Fl Go.Ck
set_option linter.unusedVariables false
set_option linter.unusedSimpArgs false
set_option maxRecDepth 100000

theorem r64_zero : R64 0 := ⟨by decide, by decide⟩
/-- A reading that was taken. -/
structure Tk where
  h : Int
  s : Bool
  t : Int
  e : Int
  f : Int
instance : Inhabited Tk := ⟨⟨0, false, 0, 0, 0⟩⟩
def encT (v : Tk) : List Value := [.int .i64 v.h, .bool v.s, .int .i64 v.t, .int .i64 v.e, .int .i64 v.f]
theorem encT_len (v : Tk) : (encT v).length = 5 := rfl
/-- The last of the first k that was of a Set; -1: none. -/
def atK (l : List Tk) : Nat → Int
  | 0 => -1
  | k + 1 => if (l.getD k default).s then (k : Int) else atK l k
/-- The greatest floor of the first k. -/
def flK (l : List Tk) : Nat → Int
  | 0 => 0
  | k + 1 => if flK l k < (l.getD k default).f then (l.getD k default).f else flK l k
theorem getD_of {l : List Tk} {k : Nat} {v : Tk} (h : l[k]? = some v) : l.getD k default = v := by
  rw [List.getD_eq_getElem?_getD, h]; rfl
theorem atK_append (l : List Tk) (v : Tk) (k : Nat) (h : k ≤ l.length) : atK (l ++ [v]) k = atK l k := by
  induction k with
  | zero => rfl
  | succ k ih =>
    unfold atK
    rw [ih (by omega), List.getD_eq_getElem?_getD, List.getD_eq_getElem?_getD, List.getElem?_append_left (by omega)]
theorem flK_append (l : List Tk) (v : Tk) (k : Nat) (h : k ≤ l.length) : flK (l ++ [v]) k = flK l k := by
  induction k with
  | zero => rfl
  | succ k ih =>
    unfold flK
    rw [ih (by omega), List.getD_eq_getElem?_getD, List.getD_eq_getElem?_getD, List.getElem?_append_left (by omega)]
theorem atK_snoc (l : List Tk) (v : Tk) : atK (l ++ [v]) (l.length + 1) = if v.s then (l.length : Int) else atK l l.length := by
  show (if ((l ++ [v]).getD l.length default).s then (l.length : Int) else atK (l ++ [v]) l.length) = _
  rw [atK_append l v _ (Nat.le_refl _), getD_of (l := l ++ [v]) (k := l.length) (v := v) (by simp)]
theorem flK_snoc (l : List Tk) (v : Tk) : flK (l ++ [v]) (l.length + 1) = if flK l l.length < v.f then v.f else flK l l.length := by
  show (if flK (l ++ [v]) l.length < ((l ++ [v]).getD l.length default).f then ((l ++ [v]).getD l.length default).f else flK (l ++ [v]) l.length) = _
  rw [flK_append l v _ (Nat.le_refl _), getD_of (l := l ++ [v]) (k := l.length) (v := v) (by simp)]
theorem atK_range (l : List Tk) (k : Nat) : -1 ≤ atK l k ∧ atK l k < k := by
  induction k with
  | zero => exact ⟨Int.le_refl _, (by decide : (-1 : Int) < ((0 : Nat) : Int))⟩
  | succ k ih => unfold atK; split <;> omega

/-- The list is what such a clock has taken. -/
structure Is6 (c : Ck) (l : List Tk) : Prop where
  floor : flK l l.length = c.floor
  last : (l = [] ∧ c.last = 0) ∨ (∃ v, l[l.length - 1]? = some v ∧ 0 < l.length ∧ v.h = c.last)
  basis : (c.on = false ∧ atK l l.length = -1) ∨ (c.on = true ∧ ∃ (j : Nat) (v : Tk), atK l l.length = (j : Int) ∧ l[j]? = some v ∧ v.h = c.r ∧ v.t = c.t ∧ v.e = c.e)
  good : ∀ v ∈ l, R64 v.h ∧ R64 v.t ∧ R64 v.e ∧ R64 v.f
theorem Is6.fresh (x : Nat) : Is6 (fresh x) [] := ⟨rfl, .inl ⟨rfl, rfl⟩, .inl ⟨rfl, rfl⟩, fun v h => by cases h⟩
theorem Is6.set {c : Ck} {l : List Tk} (h : Is6 c l) (o : Ok c) (a t e : Int) (h0 : c.setE a t e = 0) (ha : R64 a) (ht : R64 t) (he : R64 e) : Is6 (c.set a t e) (l ++ [⟨a, true, t, e, 0⟩]) := by
  have hs : c.set a t e = ⟨c.rate, true, a, t, e, a, c.floor⟩ := by unfold Ck.set; rw [if_pos h0]
  rw [hs]
  refine ⟨?_, ?_, ?_, ?_⟩
  · rw [List.length_append]
    show flK (l ++ [_]) (l.length + 1) = c.floor
    rw [flK_snoc, h.floor]
    have := o.floor
    show (if c.floor < 0 then 0 else c.floor) = c.floor
    rw [if_neg (by omega)]
  · right
    exact ⟨⟨a, true, t, e, 0⟩, by simp, by simp, rfl⟩
  · right
    refine ⟨rfl, l.length, ⟨a, true, t, e, 0⟩, ?_, by simp, rfl, rfl, rfl⟩
    rw [List.length_append]
    exact atK_snoc l ⟨a, true, t, e, 0⟩
  · intro v hv
    rcases List.mem_append.1 hv with hv | hv
    · exact h.good v hv
    · rw [List.mem_singleton.1 hv]; exact ⟨ha, ht, he, r64_zero⟩
theorem Is6.now {c : Ck} {l : List Tk} (h : Is6 c l) (o : Ok c) (a : Int) (h0 : c.nowE a = 0) (ha : R64 a) : Is6 (c.now a) (l ++ [⟨a, false, 0, 0, c.lo a⟩]) := by
  have hs : c.now a = ⟨c.rate, c.on, c.r, c.t, c.e, a, c.lo a⟩ := by unfold Ck.now; rw [if_pos h0]
  have hlo : c.floor ≤ c.lo a ∧ 0 ≤ c.lo a ∧ c.lo a ≤ 1125899906842624 := by
    have hf := o.floor
    rcases now_cases c o a with ⟨n0, t1, on, n1, n2, t2, ns, nn, nm, n3, n6, n4, n5, nL, nH, E⟩ | ⟨n0, _⟩ | ⟨n0, _⟩ | ⟨n0, _⟩ | ⟨n0, _⟩
    · omega
    all_goals rw [n0] at h0; cases h0
  rw [hs]
  refine ⟨?_, ?_, ?_, ?_⟩
  · rw [List.length_append]
    show flK (l ++ [_]) (l.length + 1) = c.lo a
    rw [flK_snoc, h.floor]
    show (if c.floor < c.lo a then c.lo a else c.floor) = c.lo a
    split <;> omega
  · right
    exact ⟨⟨a, false, 0, 0, c.lo a⟩, by simp, by simp, rfl⟩
  · have e1 : atK (l ++ [⟨a, false, 0, 0, c.lo a⟩]) (l ++ [(⟨a, false, 0, 0, c.lo a⟩ : Tk)]).length = atK l l.length := by
      rw [List.length_append]
      exact atK_snoc l ⟨a, false, 0, 0, c.lo a⟩
    rw [e1]
    rcases h.basis with ⟨b1, b2⟩ | ⟨b1, j, v, b2, b3, b4, b5, b6⟩
    · exact .inl ⟨b1, b2⟩
    · refine .inr ⟨b1, j, v, b2, ?_, b4, b5, b6⟩
      rw [List.getElem?_append_left (List.getElem?_eq_some_iff.1 b3).1]
      exact b3
  · intro v hv
    rcases List.mem_append.1 hv with hv | hv
    · exact h.good v hv
    · rw [List.mem_singleton.1 hv]; exact ⟨ha, r64_zero, r64_zero, r64_of ⟨by show -9223372036854775808 ≤ c.lo a; omega, by show c.lo a ≤ 9223372036854775807; omega⟩⟩
end Go.Proofs.Ytpnojhcjaneleaa
