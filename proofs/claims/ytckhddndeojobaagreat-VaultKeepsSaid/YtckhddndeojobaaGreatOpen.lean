/- Arguments opened, for any layer: rows of things of several cells each; bools, floats. (No types of a layer.) -/
import Derived.Test.YtckhddndeojobaaGreatMem
namespace Go.Proofs.YtckhddndeojobaaGreat
open Go.ChangeShapes Go.WideShapes Go.ChangeAt Go.RowKit
set_option linter.unusedVariables false
set_option linter.unusedSimpArgs false
set_option maxRecDepth 100000

/-- How a list of things lies in cells. -/
def flat {α : Type} (enc : α → List Value) (l : List α) : List Value := l.flatMap enc
section
variable {α : Type} {enc : α → List Value} {size : Nat}
theorem flat_length (h : ∀ v, (enc v).length = size) (l : List α) : (flat enc l).length = l.length * size := by
  induction l with
  | nil => simp [flat]
  | cons a l ih =>
    unfold flat at *
    rw [List.flatMap_cons, List.length_append, h, ih, List.length_cons, Nat.add_mul, Nat.one_mul, Nat.add_comm]
theorem flat_at (h : ∀ v, (enc v).length = size) (l : List α) (k : Nat) (v : α) (hl : l[k]? = some v) (j : Nat) (hj : j < size) : (flat enc l)[k * size + j]? = (enc v)[j]? := by
  induction l generalizing k with
  | nil => simp at hl
  | cons a l ih =>
    unfold flat at *
    rw [List.flatMap_cons]
    cases k with
    | zero =>
      have : a = v := by simpa using hl
      subst this
      rw [Nat.zero_mul, Nat.zero_add, List.getElem?_append_left (by rw [h]; exact hj)]
    | succ k =>
      rw [List.getElem?_append_right (by rw [h, Nat.succ_mul]; omega), h, show (k + 1) * size + j - size = k * size + j by rw [Nat.succ_mul]; omega]
      exact ih k (by simpa using hl)
theorem flat_append (l m : List α) : flat enc (l ++ m) = flat enc l ++ flat enc m := by unfold flat; rw [List.flatMap_append]
theorem flat_one (a : α) : flat enc [a] = enc a := by unfold flat; simp
/-- The k-th thing of a row. -/
theorem Sees.item {w : World} {B n : Nat} {A : Option Addr} {l : List α} (hs : Sees w B size A n (flat enc l)) (h : ∀ v, (enc v).length = size) (hz : 0 < size) (k : Nat) (v : α) (hl : l[k]? = some v) :
    ∃ b off, A = some ⟨b, off, none⟩ ∧ b < B ∧ ∀ j u, (enc v)[j]? = some u → w.cell? ⟨b, off + k * size + j, none⟩ = some u := by
  have hk := (List.getElem?_eq_some_iff.1 hl).1
  have hlen := hs.1
  rw [flat_length h] at hlen
  have hn : l.length = n := Nat.eq_of_mul_eq_mul_right hz hlen
  obtain ⟨b, off, hA, hb, hc⟩ := hs.2 (by omega)
  refine ⟨b, off, hA, hb, fun j u hu => ?_⟩
  have hj : j < size := by have := (List.getElem?_eq_some_iff.1 hu).1; rw [h] at this; exact this
  have := hc (k * size + j) u (by rw [flat_at h l k v hl j hj]; exact hu)
  rwa [Nat.add_assoc]
end

/-- What a row that came in is like: its things, each of which is as G says. -/
structure IsR {α : Type} (w : World) (A : Option Addr) (len cap size : Nat) (enc : α → List Value) (G : α → Prop) (l : List α) : Prop where
  count : l.length = len
  sees : Sees w w.heap.size size A len (flat enc l)
  room : len ≤ cap
  top : cap ≤ 9223372036854775807
  nil : A = .none → cap = 0
  good : ∀ v ∈ l, G v

section
variable {H : Type} {encH : TypeId × Value → H} {W : World} {base fuel : Nat} {spare : Nat → Bool} {held : Bool}
theorem bool_of {P : Program} {t : TypeId} {cs : List Value} {x : DataW H × List MemPlace} (ht : P.underlying t = some .bool) (h : DataW.trod encH P W base spare held fuel t cs = some x) :
    ∃ b, cs = [.bool b] := by
  cases fuel with
  | zero => simp [DataW.trod] at h
  | succ n =>
    unfold DataW.trod at h
    rw [ht] at h
    split at h <;> simp_all
theorem float_of {P : Program} {t : TypeId} {cs : List Value} {x : DataW H × List MemPlace} {k : FloatKind} (ht : P.underlying t = some (.float k)) (h : DataW.trod encH P W base spare held fuel t cs = some x) :
    ∃ n, cs = [.float k n] ∧ (Lit.float k n).wf = true := by
  cases fuel with
  | zero => simp [DataW.trod] at h
  | succ n =>
    unfold DataW.trod at h
    rw [ht] at h
    split at h <;> simp_all
theorem list2 {α : Type} {l : List α} (h : l.length = 2) : ∃ a b, l = [a, b] := by
  match l, h with
  | [a, b], _ => exact ⟨a, b, rfl⟩
theorem list3 {α : Type} {l : List α} (h : l.length = 3) : ∃ a b c, l = [a, b, c] := by
  match l, h with
  | [a, b, c], _ => exact ⟨a, b, c, rfl⟩
theorem list4 {α : Type} {l : List α} (h : l.length = 4) : ∃ a b c d, l = [a, b, c, d] := by
  match l, h with
  | [a, b, c, d], _ => exact ⟨a, b, c, d, rfl⟩
theorem list5 {α : Type} {l : List α} (h : l.length = 5) : ∃ a b c d e, l = [a, b, c, d, e] := by
  match l, h with
  | [a, b, c, d, e], _ => exact ⟨a, b, c, d, e, rfl⟩

/-- A row of things is opened, if one thing's cells are. -/
theorem open_row {α : Type} [Inhabited α] {t e : TypeId} {size : Nat} {enc : α → List Value} {G : α → Prop} (ht : Tryz.prog.underlying t = some (.slice e)) (hsz : Tryz.prog.cellsOf e = size) (hz : 0 < size) (hlen : ∀ v, (enc v).length = size)
    (hone : ∀ (m : Nat) (cs : List Value) (x : DataW H × List MemPlace), DataW.trod encH Tryz.prog W 0 (fun _ => true) held m e cs = some x → ∃ v, cs = enc v ∧ G v)
    {A : Option Addr} {len cap : Nat} {d : DataW H} {p : List MemPlace} (h : DataW.Trod encH Tryz.prog W 0 (fun _ => true) held t (.slice A len cap) d p) : ∃ l : List α, IsR W A len cap size enc G l := by
  obtain ⟨m, hm⟩ := h
  rcases Deep.open_slice ht hm with ⟨hcs, _⟩ | ⟨a, l, c, k, n, D, Pl, hcs, _, hl, hc, hk, _, hi⟩
  · simp [Value.cells] at hcs
    obtain ⟨rfl, rfl, rfl⟩ := hcs
    exact ⟨[], rfl, Sees.nothing _ _ _ _, by omega, by omega, fun _ => rfl, fun l h => by simp at h⟩
  · simp [Value.cells] at hcs
    obtain ⟨rfl, rfl, rfl⟩ := hcs
    have hkc : k = cap := by simpa using hk
    subst hkc
    rw [hsz] at hi
    have each : ∀ i, i < k → ∃ v : α, G v ∧ W.cells? 0 (a.add (i * size)) size = some (enc v) := by
      intro i hik
      obtain ⟨cs', h1, h2⟩ := hi i hik
      obtain ⟨v, rfl, hv⟩ := hone _ _ _ h2
      exact ⟨v, hv, h1⟩
    obtain ⟨f, hf⟩ := Deep.choose_lt (α := α) (p := fun i v => G v ∧ W.cells? 0 (a.add (i * size)) size = some (enc v)) each
    refine ⟨(List.range len).map f, by simp, ?_, hl, by unfold maxLen at hc; omega, (fun h => by cases h), ?_⟩
    · refine ⟨by rw [flat_length hlen]; simp, fun h0 => ?_⟩
      obtain ⟨b, off, spot⟩ := a
      have cell0 : ∀ i j, i < k → j < size → W.cell? (((⟨b, off, spot⟩ : Addr).add (i * size)).add j) = (enc (f i))[j]? := by
        intro i j hik hj
        obtain ⟨_, _, hat⟩ := World.cells?_some (hf i hik).2
        exact hat j (by omega)
      have hc0 := cell0 0 0 (by omega) hz
      have hex : (enc (f 0))[0]? = some ((enc (f 0))[0]'(by rw [hlen]; exact hz)) := List.getElem?_eq_getElem _
      rw [hex] at hc0
      have hspot : spot = none := by simpa [Addr.add] using World.cell?_spot hc0
      subst hspot
      have hb := World.block_lt_of_cell? W _ hc0
      refine ⟨b, off, rfl, by simpa [Addr.add] using hb, fun j u hu => ?_⟩
      have hj : j < len * size := by
        have := (List.getElem?_eq_some_iff.1 hu).1
        rw [flat_length hlen, List.length_map, List.length_range] at this
        exact this
      have hq : j / size < len := (Nat.div_lt_iff_lt_mul hz).2 hj
      have hr : j % size < size := Nat.mod_lt _ hz
      have hjj : j = j / size * size + j % size := by rw [Nat.mul_comm]; exact (Nat.div_add_mod j size).symm
      have hat := flat_at hlen ((List.range len).map f) (j / size) (f (j / size)) (by rw [List.getElem?_map, List.getElem?_range hq]; rfl) (j % size) hr
      have hcl := cell0 (j / size) (j % size) (by omega) hr
      rw [add_at, add_at, Nat.add_assoc, ← hjj] at hcl
      rw [← hjj] at hat
      rw [hcl, ← hat]
      exact hu
    · intro l hl'
      obtain ⟨i, hi, rfl⟩ := List.mem_map.1 hl'
      exact (hf i (by have := List.mem_range.1 hi; omega)).1
end
end Go.Proofs.YtckhddndeojobaaGreat
