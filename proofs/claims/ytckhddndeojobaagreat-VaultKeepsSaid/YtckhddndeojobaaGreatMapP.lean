/- Maps from whole numbers to pointers, in memory; lists of numbers sorted. -/
import Derived.Test.YtckhddndeojobaaGreatOff
import Derived.Test.YtckhddndeojobaaGreatSort
import Derived.Maps.Ext
import Derived.Maps.RangeWalk
import Derived.Maps.OwnSet
import Derived.Sort.KeysCollected
import Derived.OwnWalk
namespace Go.Proofs.YtckhddndeojobaaGreat
open Go.RowKit Go.Maps
set_option linter.unusedVariables false
set_option linter.unusedSimpArgs false
set_option maxRecDepth 100000

theorem ikey_law : Keyed Tryz.prog 3 := int_keyed Tryz.underlying3
theorem ikey_of {x : Int} (h : W64 x) : keyOf Tryz.prog 3 (.int .i64 x) = some (.int .i64 x) := keyOf_int_mk Tryz.underlying3 (WalkArith.wf_i64 (by unfold W64 at h; omega))
/-- How a pointer to a block's start is told. -/
def ptrElem : Value → Option (DataW Unit × List MemPlace)
  | .pointer (some ⟨b, 0, none⟩) => some (.lit (.int .i64 (b : Int)), [])
  | .pointer none => some (.lit (.int .i64 (-1)), [])
  | _ => none
theorem ptrElem_mk (b : Nat) : ptrElem (ptr b) = some (.lit (.int .i64 (b : Int)), []) := rfl
theorem ptrElem_nil : ptrElem (.pointer none) = some (.lit (.int .i64 (-1)), []) := rfl
theorem ptrElem_inv {v : Value} {z : DataW Unit × List MemPlace} (h : ptrElem v = some z) : (v = .pointer none ∧ z = (.lit (.int .i64 (-1)), [])) ∨ ∃ b : Nat, v = ptr b ∧ z = (.lit (.int .i64 (b : Int)), []) := by
  unfold ptrElem at h
  split at h
  · rename_i b
    injection h with h
    exact .inr ⟨b, rfl, h.symm⟩
  · injection h with h
    exact .inl ⟨rfl, h.symm⟩
  · cases h
/-- Block mb is a map of whole numbers; f says which block each leads to. -/
def Mp (w : World) (mb : Nat) (f : Int → Option Nat) : Prop :=
  ∃ D : DataW Unit, w.ownsMap Tryz.prog 3 ptrElem mb (size D) D ∧ (∀ x, has D (.int .i64 x) = (f x).isSome) ∧ ∀ x r, f x = some r → ∀ zd, D.atKey (.int .i64 x) zd = .lit (.int .i64 (r : Int))
theorem tight {w : World} {mb n : Nat} {D : DataW Unit} (h : w.ownsMap Tryz.prog 3 ptrElem mb n D) : w.ownsMap Tryz.prog 3 ptrElem mb (size D) D := by
  obtain ⟨es, clock, hb, F, hs, rfl⟩ := h
  refine ⟨es, clock, hb, F, ?_, rfl⟩
  show es.size ≤ ((es.toList.map _).foldr DataW.insert []).length
  rw [length_sorted]
  simp
theorem Mp.made (w : World) : Mp (w.alloc (.map #[] 0)) w.heap.size fun _ => none := ⟨.map [], World.ownsMap_made w Tryz.prog 3 ptrElem, fun x => rfl, fun x r h => by cases h⟩
theorem Mp.lt {w : World} {mb : Nat} {f : Int → Option Nat} (h : Mp w mb f) : mb < w.heap.size := by obtain ⟨D, h, -⟩ := h; exact h.lt
theorem Mp.at {w w' : World} {mb : Nat} {f : Int → Option Nat} (h : Mp w mb f) (he : w'.heap[mb]? = w.heap[mb]?) : Mp w' mb f := by
  obtain ⟨D, ⟨es, clock, hb, r⟩, hD⟩ := h
  exact ⟨D, ⟨es, clock, he.trans hb, r⟩, hD⟩
theorem Mp.notCells {w : World} {mb g : Nat} {f : Int → Option Nat} {t : TypeId} {cs : Array Value} {fr : Nat × Nat} (h : Mp w mb f) (hg : w.heap[g]? = some (.cells cs t fr)) : mb ≠ g := by
  intro e
  subst e
  obtain ⟨D, ⟨es, clock, hb, r⟩, hD⟩ := h
  rw [hb] at hg
  cases hg
theorem Mp.congr {w : World} {mb : Nat} {f g : Int → Option Nat} (h : Mp w mb f) (e : ∀ x, g x = f x) : Mp w mb g := by
  have : g = f := funext e
  rw [this]
  exact h
theorem zero_row (w : World) : (zeroValue 100).run Tryz.prog w = .ok (.pointer none) w := by kernel_rfl
theorem Mp.lookS {w : World} {mb : Nat} {f : Int → Option Nat} (h : Mp w mb f) {x : Int} (hx : W64 x) {r : Nat} (hf : f x = some r) :
    (Instr.lookup 95 (.map (some mb)) (.int .i64 x) true).run Tryz.prog w = .ok (.tuple #[ptr r, .bool true]) w ∧ (Instr.lookup 95 (.map (some mb)) (.int .i64 x) false).run Tryz.prog w = .ok (ptr r) w := by
  obtain ⟨D, hD, h1, h2⟩ := h
  have hat := h2 x r hf (.lit (.int .i64 (-1)))
  have hh := h1 x
  rw [hf] at hh
  constructor
  · obtain ⟨v, ps, hrun, hv⟩ := hD.look_ok ikey_law Tryz.underlying95 (zero_row w) ptrElem_nil (ikey_of hx)
    rw [hat] at hv
    rw [hrun, hh]
    rcases ptrElem_inv hv with ⟨rfl, h⟩ | ⟨b, rfl, h⟩
    · exfalso
      injection h with h; injection h with h; injection h with _ h
      omega
    · injection h with h; injection h with h; injection h with _ h
      have : b = r := by omega
      rw [this]
      rfl
  · obtain ⟨v, ps, hrun, hv⟩ := hD.lookup ikey_law Tryz.underlying95 (zero_row w) ptrElem_nil (ikey_of hx)
    rw [hat] at hv
    rw [hrun]
    rcases ptrElem_inv hv with ⟨rfl, h⟩ | ⟨b, rfl, h⟩
    · exfalso
      injection h with h; injection h with h; injection h with _ h
      omega
    · injection h with h; injection h with h; injection h with _ h
      have : b = r := by omega
      rw [this]
theorem Mp.lookN {w : World} {mb : Nat} {f : Int → Option Nat} (h : Mp w mb f) {x : Int} (hx : W64 x) (hf : f x = none) :
    (Instr.lookup 95 (.map (some mb)) (.int .i64 x) true).run Tryz.prog w = .ok (.tuple #[.pointer none, .bool false]) w := by
  obtain ⟨D, hD, h1, h2⟩ := h
  have hh := h1 x
  rw [hf] at hh
  have hat := atKey_of_not_has hh (.lit (.int .i64 (-1)))
  obtain ⟨v, ps, hrun, hv⟩ := hD.look_ok ikey_law Tryz.underlying95 (zero_row w) ptrElem_nil (ikey_of hx)
  rw [hat] at hv
  rw [hrun, hh]
  rcases ptrElem_inv hv with ⟨rfl, h⟩ | ⟨b, rfl, h⟩
  · rfl
  · exfalso
    injection h with h; injection h with h; injection h with _ h
    omega

/-! ### Its keys -/
def litInt : Lit → Int
  | .int _ a => a
  | _ => 0
/-- The keys, each once. -/
theorem data_keys {w : World} {mb n : Nat} {D : DataW Unit} (h : w.ownsMap Tryz.prog 3 ptrElem mb n D) : ∃ L : List Int, L.Nodup ∧ L.length = size D ∧ ∀ x, x ∈ L ↔ has D (.int .i64 x) = true := by
  obtain ⟨es, rfl, hap, -⟩ := h.entries ikey_law
  obtain ⟨es', he, hk⟩ := h.keysOf
  injection he with he
  subst he
  have hint : ∀ p ∈ es, p.1 = .int .i64 (litInt p.1) := fun p hp => by
    obtain ⟨v, hv⟩ := hk p hp
    obtain ⟨x, -, hx, -⟩ := Maps.keyOf_int_inv Tryz.underlying3 hv
    rw [hx]; rfl
  refine ⟨es.map fun p => litInt p.1, ?_, by rw [List.length_map, size_eq], fun x => ?_⟩
  · refine List.pairwise_map.2 (hap.imp_of_mem fun {p q} hp hq hne e => hne ?_)
    rw [hint p hp, hint q hq, e]
  · rw [has_eq, List.any_eq_true, List.mem_map]
    constructor
    · rintro ⟨p, hp, rfl⟩
      exact ⟨p, hp, by rw [hint p hp]; simp [Lit.sameKey, litInt]⟩
    · rintro ⟨p, hp, hs⟩
      refine ⟨p, hp, ?_⟩
      rw [hint p hp] at hs
      simpa [Lit.sameKey] using hs
/-- Numbers, each once, are as many as those of another list that are the same. -/
theorem len_of_mem {l m : List Int} (hl : l.Nodup) (hm : m.Nodup) (h : ∀ x, x ∈ l ↔ x ∈ m) : l.length = m.length := ((List.perm_ext_iff_of_nodup hl hm).2 h).length_eq
theorem sort_of_mem {l m : List Int} (hl : l.Nodup) (hm : m.Pairwise fun a b => a < b) (h : ∀ x, x ∈ l ↔ x ∈ m) : (l.mergeSort fun x y => decide (x ≤ y)) = m := by
  have hp : l.Perm m := (List.perm_ext_iff_of_nodup hl (hm.imp fun h => by omega)).2 h
  have tr : ∀ a b c : Int, decide (a ≤ b) = true → decide (b ≤ c) = true → decide (a ≤ c) = true := fun a b c h1 h2 => by simp only [decide_eq_true_eq] at *; omega
  have to : ∀ a b : Int, (decide (a ≤ b) || decide (b ≤ a)) = true := fun a b => by simp only [Bool.or_eq_true, decide_eq_true_eq]; omega
  refine List.Perm.eq_of_pairwise (le := fun a b => decide (a ≤ b) = true) (fun a b _ _ h1 h2 => ?_) (List.pairwise_mergeSort tr to l) (hm.imp fun {a b} h => ?_) ((List.mergeSort_perm l _).trans hp)
  · simp only [decide_eq_true_eq] at h1 h2; omega
  · simp only [decide_eq_true_eq]; omega
theorem Mp.put {w : World} {mb : Nat} {f : Int → Option Nat} (h : Mp w mb f) {x : Int} (hx : W64 x) (r : Nat) (m : List Int) (hm : m.Nodup) (hml : m.length ≤ 1000000) (hmem : ∀ x, x ∈ m ↔ (f x).isSome = true) :
    ∃ w', (Instr.mapUpdate 95 (.map (some mb)) (.int .i64 x) (ptr r)).run Tryz.prog w = .ok () w' ∧ Mp w' mb (fun y => if y = x then some r else f y) ∧ w.grownBy w' (some mb) := by
  obtain ⟨D, hD, h1, h2⟩ := h
  obtain ⟨L, k1, k2, k3⟩ := data_keys hD
  have hlen : size D ≤ 1000000 := by
    rw [← k2, len_of_mem k1 hm fun y => by rw [k3 y, h1 y, hmem y]]
    exact hml
  obtain ⟨w', hr, ho, ht⟩ := hD.store ikey_law Tryz.underlying95 (by unfold maxLen; omega) (ikey_of hx) (ptrElem_mk r)
  refine ⟨w', hr, ⟨_, tight ho, fun y => ?_, fun y r' hy zd => ?_⟩, ht.grown⟩
  · show has _ _ = (if y = x then some r else f y).isSome
    by_cases e : y = x
    · subst e
      rw [if_pos rfl]
      exact has_put_same (k := .int .i64 y) hD.isMap trivial _
    · rw [if_neg e, has_put_other (by intro h; injection h; contradiction), h1]
  · replace hy : (if y = x then some r else f y) = some r' := hy
    by_cases e : y = x
    · subst e
      rw [if_pos rfl] at hy
      injection hy with hy
      subst hy
      exact atKey_put_same (k := .int .i64 y) hD.isMap trivial _ _
    · rw [if_neg e] at hy
      rw [atKey_put_other (by intro h; injection h; contradiction)]
      exact h2 y r' hy zd

/-! ### Its keys are gone over -/
/-- The numbers met so far, in whatever order. -/
def Met (D : DataW Unit) (left : Lit → Bool) (l : List Int) : Prop := l.Nodup ∧ ∀ x, x ∈ l ↔ (has D (.int .i64 x) = true ∧ left (.int .i64 x) = false)
section
variable {D : DataW Unit} {left : Lit → Bool} {l : List Int}
theorem Met.start (D : DataW Unit) : Met D (has D) [] := ⟨List.nodup_nil, fun x => by cases has D (.int .i64 x) <;> simp⟩
theorem Met.step (h : Met D left l) {x : Int} {y : DataW Unit} (hlk : left (.int .i64 x) = true) (hat : ∀ zd, D.atKey (.int .i64 x) zd = y) : Met D (fun z => left z && !z.sameKey (.int .i64 x)) (l ++ [x]) := by
  have hhas : has D (.int .i64 x) = true := has_true_of_atKey hat
  have hnew : x ∉ l := fun hx => by have := ((h.2 x).1 hx).2; rw [hlk] at this; cases this
  refine ⟨List.nodup_append.2 ⟨h.1, by simp, fun a ha b hb => by simp at hb; subst hb; exact fun e => hnew (e ▸ ha)⟩, fun y => ?_⟩
  by_cases hy : y = x
  · subst hy; simp [hhas, Lit.sameKey]
  · simp [h.2 y, hy, Lit.sameKey]
theorem Met.few (h : Met D left l) {m : List Int} (hn : m.Nodup) (hm : ∀ x, x ∈ m ↔ has D (.int .i64 x) = true) : l.length ≤ m.length := by
  have h2 : (m.filter fun x => decide (x ∈ l)).Nodup := hn.filter _
  have h3 := len_of_mem h.1 h2 fun x => by
    rw [List.mem_filter, hm x]
    simp only [decide_eq_true_eq]
    exact ⟨fun hx => ⟨((h.2 x).1 hx).1, hx⟩, fun hx => hx.2⟩
  rw [h3]
  exact List.length_filter_le _ _
end
end Go.Proofs.YtckhddndeojobaaGreat
