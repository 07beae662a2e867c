/- Layer 14: what LedgerTurns needs: two calls copied out of an array, in whatever order. -/
import Derived.Test.YtmemfbdikinegaaLedP
namespace Go.Ld
open Go.Lk Go.Am
set_option linter.unusedVariables false
theorem does_ok {x : Nat} (hx : rated x = true) {f : Acc} (h : Fine f) (o : Op14) {n : Int} (ht : tot f ≤ n) : Fine (doF x f o) ∧ tot (doF x f o) ≤ n + 1000000000000000 := by
  have h1 := h.does hx o
  have h2 := doN_le x f o
  exact ⟨h1.1, by rw [h1.2]; omega⟩
end Go.Ld
namespace Go.Proofs.Ytmemfbdikinegaa
open Go.ChangeShapes Go.WideShapes Go.ChangeAt Go.RowKit Go.Lk Go.Ld Go.Am
set_option linter.unusedVariables false
set_option linter.unusedSimpArgs false
set_option maxRecDepth 100000
abbrev opC (o : Op14) : Array Value := #[.int .i64 o.k, .int .i64 o.a, .int .i64 o.b, .int .i64 o.n]
abbrev opZ : Array Value := #[.int .i64 0, .int .i64 0, .int .i64 0, .int .i64 0]
/-- Worlds in which the boxes of both calls are made (a, b), and told (s, t). -/
structure Tq (w y : World) (p q : Op14) (p9 p10 : Nat) (a b s t : Bool) : Prop where
  bel : Below w.heap.size w y
  m9 : a = true → Whole y p9 35 (if s then opC p else opZ) ∧ w.heap.size ≤ p9
  m10 : b = true → Whole y p10 35 (if t then opC q else opZ) ∧ w.heap.size ≤ p10
  ne : a = true → b = true → p9 ≠ p10
  o9 : s = true → a = true
  o10 : t = true → b = true
section
variable {w y : World} {p q : Op14} {p9 p10 : Nat} {a b s t : Bool}
theorem Tq.start (w : World) (p q : Op14) : Tq w w.drew p q 0 0 false false false false := ⟨drew_below w 1, fun h => (by cases h), fun h => (by cases h), fun h => (by cases h), fun h => (by cases h), fun h => by cases h⟩
theorem Tq.make9 (h : Tq w y p q p9 p10 false b s t) : Tq w (y.alloc (.cells opZ 35)) p q y.heap.size p10 true b s t := by
  have hs : s = false := by cases s with
    | false => rfl
    | true => cases h.o9 rfl
  subst hs
  exact ⟨h.bel.alloc h.bel.size _, fun _ => ⟨Whole.fresh y _ _, h.bel.size⟩, fun e => ⟨(h.m10 e).1.alloc _, (h.m10 e).2⟩, fun _ e e2 => by have := (h.m10 e).1.lt; omega, fun e => (by cases e), h.o10⟩
theorem Tq.make10 (h : Tq w y p q p9 p10 a false s t) : Tq w (y.alloc (.cells opZ 35)) p q p9 y.heap.size a true s t := by
  have ht : t = false := by cases t with
    | false => rfl
    | true => cases h.o10 rfl
  subst ht
  exact ⟨h.bel.alloc h.bel.size _, fun e => ⟨(h.m9 e).1.alloc _, (h.m9 e).2⟩, fun _ => ⟨Whole.fresh y _ _, h.bel.size⟩, fun e _ e2 => by have := (h.m9 e).1.lt; omega, h.o9, fun e => by cases e⟩
theorem Tq.tell9 (h : Tq w y p q p9 p10 true b false t) : Tq w ((((y.setCell ⟨p9, 0, none⟩ (.int .i64 p.k)).setCell ⟨p9, 1, none⟩ (.int .i64 p.a)).setCell ⟨p9, 2, none⟩ (.int .i64 p.b)).setCell ⟨p9, 3, none⟩ (.int .i64 p.n)) p q p9 p10 true b true t := by
  obtain ⟨h1, h2⟩ := h.m9 rfl
  refine ⟨(((h.bel.setCell (p := ⟨p9, 0, none⟩) h2 _).setCell (p := ⟨p9, 1, none⟩) h2 _).setCell (p := ⟨p9, 2, none⟩) h2 _).setCell (p := ⟨p9, 3, none⟩) h2 _, fun _ => ⟨(((h1.set 0 _).set 1 _).set 2 _).set 3 _, h2⟩, fun e => ?_, h.ne, fun _ => rfl, h.o10⟩
  have hn : p10 ≠ p9 := fun e2 => h.ne rfl e e2.symm
  exact ⟨((((h.m10 e).1.away (p := ⟨p9, 0, none⟩) hn _).away (p := ⟨p9, 1, none⟩) hn _).away (p := ⟨p9, 2, none⟩) hn _).away (p := ⟨p9, 3, none⟩) hn _, (h.m10 e).2⟩
theorem Tq.tell10 (h : Tq w y p q p9 p10 a true s false) : Tq w ((((y.setCell ⟨p10, 0, none⟩ (.int .i64 q.k)).setCell ⟨p10, 1, none⟩ (.int .i64 q.a)).setCell ⟨p10, 2, none⟩ (.int .i64 q.b)).setCell ⟨p10, 3, none⟩ (.int .i64 q.n)) p q p9 p10 a true s true := by
  obtain ⟨h1, h2⟩ := h.m10 rfl
  refine ⟨(((h.bel.setCell (p := ⟨p10, 0, none⟩) h2 _).setCell (p := ⟨p10, 1, none⟩) h2 _).setCell (p := ⟨p10, 2, none⟩) h2 _).setCell (p := ⟨p10, 3, none⟩) h2 _, fun e => ?_, fun _ => ⟨(((h1.set 0 _).set 1 _).set 2 _).set 3 _, h2⟩, h.ne, h.o9, fun _ => rfl⟩
  have hn : p9 ≠ p10 := h.ne e rfl
  exact ⟨((((h.m9 e).1.away (p := ⟨p10, 0, none⟩) hn _).away (p := ⟨p10, 1, none⟩) hn _).away (p := ⟨p10, 2, none⟩) hn _).away (p := ⟨p10, 3, none⟩) hn _, (h.m9 e).2⟩
theorem Tq.cells9 (h : Tq w y p q p9 p10 true b s t) : p9 < y.heap.size ∧ (∀ i, i < 4 → ∃ u, y.cell? ⟨p9, i, none⟩ = some u) ∧ ∀ i, y.frozen? ⟨p9, i, none⟩ = false := by
  have h1 := (h.m9 rfl).1
  refine ⟨h1.lt, fun i hi => ?_, fun i => h1.free i⟩
  have hs : i < (if s = true then opC p else opZ).size := by split <;> exact hi
  exact ⟨_, (h1.cell i).trans (Array.getElem?_eq_getElem hs)⟩
theorem Tq.cells10 (h : Tq w y p q p9 p10 a true s t) : p10 < y.heap.size ∧ (∀ i, i < 4 → ∃ u, y.cell? ⟨p10, i, none⟩ = some u) ∧ ∀ i, y.frozen? ⟨p10, i, none⟩ = false := by
  have h1 := (h.m10 rfl).1
  refine ⟨h1.lt, fun i hi => ?_, fun i => h1.free i⟩
  have hs : i < (if t = true then opC q else opZ).size := by split <;> exact hi
  exact ⟨_, (h1.cell i).trans (Array.getElem?_eq_getElem hs)⟩
theorem Lp.row {W w : World} {L : List Row} {Ms : List (Nat × Acc)} {q : Nat} {t : TypeId} {cs : Array Value} (h : Lp W w L Ms) (hw : Whole w q t cs) : Lp W w ((q, t, cs) :: L) Ms :=
  ⟨⟨h.st.below, fun r hr => by
    rcases List.mem_cons.1 hr with rfl | hr
    · exact hw
    · exact h.st.knows r hr⟩, h.maps, h.apart⟩
end
end Go.Proofs.Ytmemfbdikinegaa
