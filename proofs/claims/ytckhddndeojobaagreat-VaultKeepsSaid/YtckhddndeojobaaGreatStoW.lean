/- Stores in memory: a key's row (its chain, and how many versions that has); a store by its footprint. -/
import Derived.Test.YtckhddndeojobaaGreatChnP
import Derived.Test.YtckhddndeojobaaGreatMapP
import Derived.Test.YtckhddndeojobaaGreatStoM
namespace Go.Proofs.YtckhddndeojobaaGreat
open Go.RowKit Go.Cn Go.So
set_option linter.unusedVariables false
set_option linter.unusedSimpArgs false
set_option maxRecDepth 100000

/-- Block r is a key's row, whose chain is c; all of it is in F. -/
def Ux (w : World) (r : Nat) (c : Cs) (F : Nat → Prop) : Prop :=
  ∃ cb Fc, Whole w r 105 #[ptr cb, .int .i64 (c.l.length : Int)] ∧ Chn w cb c Fc ∧ ¬ Fc r ∧ ∀ b, F b ↔ (b = r ∨ Fc b)
section
variable {w w' : World} {r : Nat} {c : Cs} {F : Nat → Prop}
theorem Ux.low (h : Ux w r c F) {b : Nat} (hb : F b) : b < w.heap.size := by
  obtain ⟨cb, Fc, h1, h2, -, h4⟩ := h
  rcases (h4 b).1 hb with rfl | hb
  · exact h1.lt
  · exact h2.low hb
theorem Ux.mine (h : Ux w r c F) : F r := by obtain ⟨cb, Fc, h1, h2, -, h4⟩ := h; exact (h4 r).2 (.inl rfl)
theorem Ux.off {G : Nat → Prop} (h : Ux w r c F) (ho : Off G w w') (hG : ∀ b, F b → ¬ G b) : Ux w' r c F := by
  obtain ⟨cb, Fc, h1, h2, h3, h4⟩ := h
  exact ⟨cb, Fc, ho.whole h1 (hG r ((h4 r).2 (.inl rfl))), h2.off ho fun b hb => hG b ((h4 b).2 (.inr hb)), h3, h4⟩
theorem Ux.call (h : Ux w r c F) (hb : Below w.heap.size w w') : Ux w' r c F := h.off (.of hb fun _ => False) fun b _ h => h
end

/-- The row of a key that has one. -/
def rowAt (s : Sto) (rb : Int → Nat) (k : Int) : Option Nat := (s.ch k).map fun _ => rb k
/-- Block g is the store s, whose map is block mb, whose rows are rb; all of it is in F. -/
structure Sx (w : World) (g mb : Nat) (s : Sto) (rb : Int → Nat) (K : Int → Nat → Prop) (F : Nat → Prop) : Prop where
  fine : Fine s
  face : Whole w g 97 #[.map (some mb), .int .i64 s.closed, .int .i64 s.mark]
  map : Mp w mb (rowAt s rb)
  rows : ∀ k c, s.ch k = some c → Ux w (rb k) c (K k)
  apart : ∀ j k b, (s.ch j).isSome = true → (s.ch k).isSome = true → K j b → K k b → j = k
  out : ∀ k, (s.ch k).isSome = true → ¬ K k g ∧ ¬ K k mb
  mine : F g ∧ F mb ∧ ∀ k b, (s.ch k).isSome = true → K k b → F b
  low : ∀ b, F b → b < w.heap.size
def Stx (w : World) (g : Nat) (s : Sto) (F : Nat → Prop) : Prop := ∃ mb rb K, Sx w g mb s rb K F
/-- The store g has become s, and nothing else that is old has changed. -/
structure WentS (F : Nat → Prop) (w w' : World) (g : Nat) (s : Sto) : Prop where
  off : Off F w w'
  sto : ∃ F', (∀ b, F' b → F b ∨ w.heap.size ≤ b) ∧ Stx w' g s F'
section
variable {w w' : World} {g mb : Nat} {s s' : Sto} {rb : Int → Nat} {K : Int → Nat → Prop} {F : Nat → Prop}
theorem Sx.off {G : Nat → Prop} (x : Sx w g mb s rb K F) (ho : Off G w w') (hG : ∀ b, F b → ¬ G b) : Sx w' g mb s rb K F :=
  ⟨x.fine, ho.whole x.face (hG g x.mine.1), x.map.at (ho.block mb x.map.lt (hG mb x.mine.2.1)),
    fun k c hk => (x.rows k c hk).off ho fun b hb => hG b (x.mine.2.2 k b (by rw [hk]; rfl) hb), x.apart, x.out, x.mine, fun b hb => Nat.lt_of_lt_of_le (x.low b hb) ho.size⟩
theorem Sx.call (x : Sx w g mb s rb K F) (hb : Below w.heap.size w w') : Sx w' g mb s rb K F := x.off (.of hb fun _ => False) fun b _ h => h
theorem Sx.alloc (x : Sx w g mb s rb K F) (o : Obj) : Sx (w.alloc o) g mb s rb K F := x.call ((Below.refl _ _).alloc (Nat.le_refl _) o)
theorem Sx.drewN (x : Sx w g mb s rb K F) (k : Nat) : Sx (w.drewN k) g mb s rb K F := x.call (drew_below w k)
theorem Sx.lt (x : Sx w g mb s rb K F) : g < w.heap.size := x.face.lt
theorem Sx.mg (x : Sx w g mb s rb K F) : mb ≠ g := x.map.notCells x.face
theorem Sx.cells (x : Sx w g mb s rb K F) : w.cell? ⟨g, 0, none⟩ = some (.map (some mb)) ∧ w.cell? ⟨g, 1, none⟩ = some (.int .i64 s.closed) ∧ w.cell? ⟨g, 2, none⟩ = some (.int .i64 s.mark) ∧ g < w.heap.size :=
  ⟨x.face.cell 0, x.face.cell 1, x.face.cell 2, x.face.lt⟩
theorem key64 {s : Sto} (h : Fine s) {k : Int} {c : Cs} (hk : s.ch k = some c) : W64 k := by
  have := h.key k c hk
  unfold W64; omega
theorem Sx.lookS (x : Sx w g mb s rb K F) {k : Int} {c : Cs} (hk : s.ch k = some c) :
    (Instr.lookup 95 (.map (some mb)) (.int .i64 k) true).run Tryz.prog w = .ok (.tuple #[ptr (rb k), .bool true]) w ∧ (Instr.lookup 95 (.map (some mb)) (.int .i64 k) false).run Tryz.prog w = .ok (ptr (rb k)) w :=
  x.map.lookS (key64 x.fine hk) (by unfold rowAt; rw [hk]; rfl)
theorem Sx.lookN (x : Sx w g mb s rb K F) {k : Int} (hk : s.ch k = none) (h : W64 k) :
    (Instr.lookup 95 (.map (some mb)) (.int .i64 k) true).run Tryz.prog w = .ok (.tuple #[.pointer none, .bool false]) w :=
  x.map.lookN h (by unfold rowAt; rw [hk]; rfl)
/-- What a key's row shows. -/
theorem Sx.row (x : Sx w g mb s rb K F) {k : Int} {c : Cs} (hk : s.ch k = some c) :
    ∃ cb A cap, w.cell? ⟨rb k, 0, none⟩ = some (ptr cb) ∧ w.cell? ⟨rb k, 1, none⟩ = some (.int .i64 (c.l.length : Int)) ∧ rb k < w.heap.size ∧ Rc w cb A cap c := by
  obtain ⟨cb, Fc, h1, h2, -, -⟩ := x.rows k c hk
  obtain ⟨A, cap, hr⟩ := h2.read
  exact ⟨cb, A, cap, h1.cell 0, h1.cell 1, h1.lt, hr⟩
theorem Stx.call (x : Stx w g s F) (hb : Below w.heap.size w w') : Stx w' g s F := by
  obtain ⟨mb, rb, K, x⟩ := x
  exact ⟨mb, rb, K, x.call hb⟩
theorem Stx.off {G : Nat → Prop} (x : Stx w g s F) (ho : Off G w w') (hG : ∀ b, F b → ¬ G b) : Stx w' g s F := by
  obtain ⟨mb, rb, K, x⟩ := x
  exact ⟨mb, rb, K, x.off ho hG⟩
theorem Stx.low (x : Stx w g s F) {b : Nat} (hb : F b) : b < w.heap.size := by obtain ⟨mb, rb, K, x⟩ := x; exact x.low b hb
theorem Stx.fine (x : Stx w g s F) : Fine s := by obtain ⟨mb, rb, K, x⟩ := x; exact x.fine
theorem Stx.mine (x : Stx w g s F) : F g := by obtain ⟨mb, rb, K, x⟩ := x; exact x.mine.1
theorem Stx.lt (x : Stx w g s F) : g < w.heap.size := by obtain ⟨mb, rb, K, x⟩ := x; exact x.lt
theorem WentS.same (x : Stx w g s F) (hb : Below w.heap.size w w') : WentS F w w' g s := ⟨.of hb F, F, fun b h => .inl h, x.call hb⟩
theorem WentS.before {w1 : World} (hb : Below w.heap.size w w1) (hm : WentS F w1 w' g s) : WentS F w w' g s := by
  obtain ⟨ho, F', hF, hd⟩ := hm
  refine ⟨(Off.of hb F).trans ho, F', fun b hf => ?_, hd⟩
  rcases hF b hf with h | h
  · exact .inl h
  · exact .inr (Nat.le_trans hb.size h)
theorem WentS.after {w1 : World} (hm : WentS F w w1 g s) (hb : Below w1.heap.size w1 w') : WentS F w w' g s := by
  obtain ⟨ho, F', hF, hd⟩ := hm
  exact ⟨ho.call hb, F', hF, hd.call hb⟩
/-- One call behind another. -/
theorem WentS.then {w1 : World} (hm : WentS F w w1 g s) (hn : ∀ F1, Stx w1 g s F1 → WentS F1 w1 w' g s') : WentS F w w' g s' := by
  obtain ⟨ho, F', hF, hd⟩ := hm
  obtain ⟨ho2, F2, hF2, hd2⟩ := hn F' hd
  refine ⟨ho.then hF ho2, F2, fun b hb => ?_, hd2⟩
  rcases hF2 b hb with h | h
  · exact hF b h
  · exact .inr (Nat.le_trans ho.size h)
theorem WentS.stx (hm : WentS F w w' g s) : ∃ F', (∀ b, F' b → F b ∨ w.heap.size ≤ b) ∧ Stx w' g s F' := hm.sto
/-- Its closing time or its mark is another. -/
theorem Sx.set (x : Sx w g mb s rb K F) (i : Nat) (v : Value) (hs : s'.ch = s.ch) (hf : Fine s') (hv : (#[.map (some mb), .int .i64 s.closed, .int .i64 s.mark] : Array Value).setIfInBounds i v = #[.map (some mb), .int .i64 s'.closed, .int .i64 s'.mark]) :
    Sx (w.setCell ⟨g, i, none⟩ v) g mb s' rb K F := by
  have far : ∀ b, b ≠ g → (w.setCell ⟨g, i, none⟩ v).heap[b]? = w.heap[b]? := fun b hb => Below.heap_setCell w ⟨g, i, none⟩ _ b hb
  have ho : Off (fun b => b = g) w (w.setCell ⟨g, i, none⟩ v) := (Off.refl (fun b => b = g) w).set (p := ⟨g, i, none⟩) (.inl rfl) v
  refine ⟨hf, by have := x.face.set i v; rwa [hv] at this, ?_, fun k c hk => ?_, ?_, ?_, ?_, fun b hb => by simpa using x.low b hb⟩
  · have : rowAt s' rb = rowAt s rb := by unfold rowAt; rw [hs]
    rw [this]
    exact x.map.at (far mb x.mg)
  · rw [hs] at hk
    exact (x.rows k c hk).off ho fun b hb e => (x.out k (by rw [hk]; rfl)).1 (e ▸ hb)
  · rw [hs]; exact x.apart
  · rw [hs]; exact x.out
  · rw [hs]; exact x.mine
theorem WentS.set (x : Sx w g mb s rb K F) (i : Nat) (v : Value) (hs : s'.ch = s.ch) (hf : Fine s') (hv : (#[.map (some mb), .int .i64 s.closed, .int .i64 s.mark] : Array Value).setIfInBounds i v = #[.map (some mb), .int .i64 s'.closed, .int .i64 s'.mark]) :
    WentS F w (w.setCell ⟨g, i, none⟩ v) g s' := ⟨(Off.refl F w).set (p := ⟨g, i, none⟩) (.inl x.mine.1) v, F, fun b h => .inl h, mb, rb, K, x.set i v hs hf hv⟩
/-- A key's row is another, which lies where it lay or in new blocks. -/
theorem Sx.turn (x : Sx w g mb s rb K F) {k : Int} {c c' : Cs} (hk : s.ch k = some c) (hf : Fine s') (hk' : s'.ch k = some c') (hs : ∀ j, j ≠ k → s'.ch j = s.ch j) (hm : s'.closed = s.closed ∧ s'.mark = s.mark)
    {K' : Nat → Prop} (ho : Off (K k) w w') (hu : Ux w' (rb k) c' K') (hK : ∀ b, K' b → K k b ∨ w.heap.size ≤ b) : WentS F w w' g s' := by
  have hks : (s.ch k).isSome = true := by rw [hk]; rfl
  have hsome : ∀ j, (s'.ch j).isSome = (s.ch j).isSome := fun j => by
    by_cases e : j = k
    · subst e; rw [hk, hk']; rfl
    · rw [hs j e]
  have hKF : ∀ b, K k b → F b := fun b hb => x.mine.2.2 k b hks hb
  have hoF : Off F w w' := ⟨ho.os, ho.tape, ho.output, ho.size, fun i hi hg => ho.block i hi fun h => hg (hKF i h)⟩
  refine ⟨hoF, fun b => F b ∨ K' b, fun b hb => ?_, mb, rb, fun j => if j = k then K' else K j, ⟨hf, ?_, ?_, fun j cj hj => ?_, fun i j b hi hj hib hjb => ?_, fun j hj => ?_, ⟨.inl x.mine.1, .inl x.mine.2.1, fun j b hj hb => ?_⟩, fun b hb => ?_⟩⟩
  · rcases hb with h | h
    · exact .inl h
    · rcases hK b h with h | h
      · exact .inl (hKF b h)
      · exact .inr h
  · rw [hm.1, hm.2]
    exact ho.whole x.face (x.out k hks).1
  · have : rowAt s' rb = rowAt s rb := by
      funext j
      unfold rowAt
      by_cases e : j = k
      · subst e; rw [hk, hk']; rfl
      · rw [hs j e]
    rw [this]
    exact x.map.at (ho.block mb x.map.lt (x.out k hks).2)
  · by_cases e : j = k
    · subst e
      rw [hk'] at hj
      injection hj with hj
      subst hj
      simp only [if_pos]
      exact hu
    · simp only [if_neg e]
      rw [hs j e] at hj
      exact (x.rows j cj hj).off ho fun b hb h => e (x.apart j k b (by rw [hj]; rfl) hks hb h)
  · rw [hsome] at hi hj
    have lowK : ∀ j b, (s.ch j).isSome = true → K j b → b < w.heap.size := fun j b hj hb => x.low b (x.mine.2.2 j b hj hb)
    by_cases ei : i = k
    · by_cases ej : j = k
      · rw [ei, ej]
      · simp only [if_pos ei] at hib
        simp only [if_neg ej] at hjb
        rcases hK b hib with h | h
        · rw [ei]; exact x.apart k j b hks hj h hjb
        · have := lowK j b hj hjb; omega
    · simp only [if_neg ei] at hib
      by_cases ej : j = k
      · simp only [if_pos ej] at hjb
        rcases hK b hjb with h | h
        · rw [ej]; exact x.apart i k b hi hks hib h
        · have := lowK i b hi hib; omega
      · simp only [if_neg ej] at hjb
        exact x.apart i j b hi hj hib hjb
  · rw [hsome] at hj
    by_cases e : j = k
    · simp only [if_pos e]
      have h1 := x.out k hks
      have h2 := x.lt
      have h3 := x.map.lt
      exact ⟨fun h => by rcases hK g h with h | h; exact h1.1 h; omega, fun h => by rcases hK mb h with h | h; exact h1.2 h; omega⟩
    · simp only [if_neg e]
      exact x.out j hj
  · rw [hsome] at hj
    by_cases e : j = k
    · simp only [if_pos e] at hb
      exact .inr hb
    · simp only [if_neg e] at hb
      exact .inl (x.mine.2.2 j b hj hb)
  · rcases hb with h | h
    · exact Nat.lt_of_lt_of_le (x.low b h) ho.size
    · exact hu.low h
/-- A key that had no row has one, all of which is new. -/
theorem Sx.grow (x : Sx w g mb s rb K F) {k : Int} {c' : Cs} (hk : s.ch k = none) (hf : Fine s') (hk' : s'.ch k = some c') (hs : ∀ j, j ≠ k → s'.ch j = s.ch j) (hm : s'.closed = s.closed ∧ s'.mark = s.mark)
    {K' : Nat → Prop} {r : Nat} (ho : Off (fun b => b = mb) w w') (hmap : Mp w' mb fun y => if y = k then some r else rowAt s rb y) (hu : Ux w' r c' K') (hK : ∀ b, K' b → w.heap.size ≤ b) : WentS F w w' g s' := by
  have hother : ∀ j, j ≠ k → (s'.ch j).isSome = (s.ch j).isSome := fun j e => by rw [hs j e]
  have hoF : Off F w w' := ⟨ho.os, ho.tape, ho.output, ho.size, fun i hi hg => ho.block i hi fun h => hg (by rw [h]; exact x.mine.2.1)⟩
  have lowK : ∀ j b, (s.ch j).isSome = true → K j b → b < w.heap.size := fun j b hj hb => x.low b (x.mine.2.2 j b hj hb)
  refine ⟨hoF, fun b => F b ∨ K' b, fun b hb => ?_, mb, fun j => if j = k then r else rb j, fun j => if j = k then K' else K j, ⟨hf, ?_, ?_, fun j cj hj => ?_, fun i j b hi hj hib hjb => ?_, fun j hj => ?_, ⟨.inl x.mine.1, .inl x.mine.2.1, fun j b hj hb => ?_⟩, fun b hb => ?_⟩⟩
  · rcases hb with h | h
    · exact .inl h
    · exact .inr (hK b h)
  · rw [hm.1, hm.2]
    exact ho.whole x.face (Ne.symm x.mg)
  · refine hmap.congr fun y => ?_
    unfold rowAt
    by_cases e : y = k
    · subst e; rw [hk', if_pos rfl]; simp
    · rw [hs y e, if_neg e]; simp [e]
  · by_cases e : j = k
    · subst e
      rw [hk'] at hj
      injection hj with hj
      subst hj
      simp only [if_pos]
      exact hu
    · simp only [if_neg e]
      rw [hs j e] at hj
      exact (x.rows j cj hj).off ho fun b hb h => (x.out j (by rw [hj]; rfl)).2 (h ▸ hb)
  · by_cases ei : i = k
    · by_cases ej : j = k
      · rw [ei, ej]
      · simp only [if_pos ei] at hib
        simp only [if_neg ej] at hjb
        rw [hother j ej] at hj
        have := lowK j b hj hjb
        have := hK b hib
        omega
    · simp only [if_neg ei] at hib
      rw [hother i ei] at hi
      by_cases ej : j = k
      · simp only [if_pos ej] at hjb
        have := lowK i b hi hib
        have := hK b hjb
        omega
      · simp only [if_neg ej] at hjb
        rw [hother j ej] at hj
        exact x.apart i j b hi hj hib hjb
  · by_cases e : j = k
    · simp only [if_pos e]
      have h2 := x.lt
      have h3 := x.map.lt
      exact ⟨fun h => by have := hK g h; omega, fun h => by have := hK mb h; omega⟩
    · simp only [if_neg e]
      rw [hother j e] at hj
      exact x.out j hj
  · by_cases e : j = k
    · simp only [if_pos e] at hb
      exact .inr hb
    · simp only [if_neg e] at hb
      rw [hother j e] at hj
      exact .inl (x.mine.2.2 j b hj hb)
  · rcases hb with h | h
    · exact Nat.lt_of_lt_of_le (x.low b h) ho.size
    · exact hu.low h
end
end Go.Proofs.YtckhddndeojobaaGreat
