/- The last region of the document's Now: two appends in whatever order. -/
import Derived.Test.YtpnojhcjaneleaaClkP
namespace Go.Proofs.Ytpnojhcjaneleaa
open Go.RowKit Go.Sp Go.Fl Go.Ck
set_option linter.unusedVariables false
set_option linter.unusedSimpArgs false
set_option maxRecDepth 100000

theorem own_drew {w : World} {B size n : Nat} {e : TypeId} {v : Value} {xs : List Value} (h : w.ownsRow B e size v n xs) : w.drew.ownsRow B e size v n xs := h
abbrev itemC (h lo : Int) : Array Value := #[.int .i64 h, .bool false, .int .i64 0, .int .i64 0, .int .i64 lo]
/-- Where that region stands: B is above all blocks that are known; a: the empty row is made, b: the list was put behind it, d: the item is made, e: it was put behind the list. -/
structure Ap (w y : World) (L : List Row) (B p0 p8 n : Nat) (v1 v2 : Value) (l : List Tk) (h lo : Int) (a b d e : Bool) : Prop where
  st : St w y L
  low : w.heap.size ≤ B ∧ B ≤ y.heap.size ∧ ∀ r ∈ L, r.1 < B
  own0 : a = true → b = false → y.ownsRow B 77 5 (.slice (some ⟨p0, 0, none⟩) 0 0) 0 []
  own1 : b = true → e = false → y.ownsRow B 77 5 v1 n (flat encT l)
  item : d = true → e = false → Whole y p8 77 (itemC h lo) ∧ B ≤ p8
  own2 : e = true → y.ownsRow B 77 5 v2 (n + 1) (flat encT (l ++ [⟨h, false, 0, 0, lo⟩]))
  far : a = true → d = true → p0 ≠ p8
  ord : (b = true → a = true) ∧ (e = true → b = true ∧ d = true)
  lt0 : a = true → p0 < y.heap.size
section
variable {w y : World} {L : List Row} {B p0 p8 n : Nat} {v1 v2 : Value} {l : List Tk} {h lo : Int} {a b d e : Bool}
theorem Ap.start (hs : St w y L) (hB : B = y.heap.size) (p0 p8 n : Nat) (v1 v2 : Value) (l : List Tk) (h lo : Int) : Ap w y L B p0 p8 n v1 v2 l h lo false false false false :=
  ⟨hs, ⟨by rw [hB]; exact hs.below.size, by omega, fun r hr => by rw [hB]; exact (hs.knows r hr).lt⟩, (fun h => by cases h), (fun h => by cases h), (fun h => by cases h), (fun h => by cases h), (fun h => by cases h), ⟨(fun h => by cases h), fun h => by cases h⟩, fun h => by cases h⟩
theorem Ap.made (k : Ap w y L B p0 p8 n v1 v2 l h lo false b d e) : Ap w (y.alloc (.cells #[] 77)) L B y.heap.size p8 n v1 v2 l h lo true b d e := by
  have hb : b = false := by cases b with | false => rfl | true => have := k.ord.1 rfl; cases this
  subst hb
  have he : e = false := by cases e with | false => rfl | true => have := (k.ord.2 rfl).1; cases this
  subst he
  refine ⟨k.st.other _, ⟨k.low.1, by have := k.low.2.1; simp; omega, k.low.2.2⟩, fun _ _ => ?_, (fun h => by cases h), fun h1 h2 => ⟨(k.item h1 h2).1.alloc _, (k.item h1 h2).2⟩, (fun h => by cases h), fun _ h1 => ?_, ⟨(fun h => by cases h), fun h => by cases h⟩, fun _ => by simp⟩
  · have := own_emptyAt y 77 5 y.heap.size rfl
    refine ⟨this.1, ?_⟩
    rcases this.2 with hn | ⟨g, cap, cur, e1, hb, r⟩
    · exact .inl hn
    · exact .inr ⟨g, cap, cur, e1, Nat.le_trans k.low.2.1 hb, r⟩
  · have := (k.item h1 rfl).1.lt
    omega
theorem Ap.item8 (k : Ap w y L B p0 p8 n v1 v2 l h lo a b false e) : Ap w (y.alloc (.cells (itemC h lo) 77)) L B p0 y.heap.size n v1 v2 l h lo a b true e := by
  have he : e = false := by cases e with | false => rfl | true => have := (k.ord.2 rfl).2; cases this
  subst he
  refine ⟨k.st.other _, ⟨k.low.1, by have := k.low.2.1; simp; omega, k.low.2.2⟩, fun h1 h2 => (k.own0 h1 h2).alloc _, fun h1 h2 => (k.own1 h1 h2).alloc _, fun _ _ => ⟨Whole.fresh y _ _, k.low.2.1⟩, (fun h => by cases h), fun h1 _ => by have := k.lt0 h1; omega, ⟨k.ord.1, fun h => by cases h⟩, fun h1 => by have := k.lt0 h1; simp; omega⟩
theorem Ap.app1 (k : Ap w y L B p0 p8 n v1 v2 l h lo true false d e) {v : Value} {y2 : World} (ho : y2.ownsRow B 77 5 v n (flat encT l)) (hg : y.grownBy y2 (some p0)) : Ap w y2 L B p0 p8 n v v2 l h lo true true d e := by
  have he : e = false := by cases e with | false => rfl | true => have := (k.ord.2 rfl).1; cases this
  subst he
  have hp : B ≤ p0 := own_block_ge (k.own0 rfl rfl) rfl
  have hb : Below B y y2 := (Below.refl _ _).grown hg k.low.2.1 (fun q hq => by injection hq with hq; omega)
  refine ⟨k.st.callB hb k.low.1 k.low.2.2, ⟨k.low.1, Nat.le_trans k.low.2.1 hb.size, k.low.2.2⟩, (fun _ h => by cases h), fun _ _ => ho, fun h1 h2 => ⟨(k.item h1 h2).1.grown hg (fun e => k.far rfl h1 (by injection e with e; exact e.symm)), (k.item h1 h2).2⟩, (fun h => by cases h), k.far, ⟨(fun _ => rfl), fun h => by cases h⟩, fun _ => Nat.lt_of_lt_of_le (k.lt0 rfl) hb.size⟩
theorem Ap.app2 (k : Ap w y L B p0 p8 n v1 v2 l h lo a true true false) {v : Value} {y2 : World} (ho : y2.ownsRow B 77 5 v (n + 1) (flat encT (l ++ [⟨h, false, 0, 0, lo⟩]))) (hg : y.grownBy y2 v1.ownBlock) : Ap w y2 L B p0 p8 n v1 v l h lo a true true true := by
  have ho1 := k.own1 rfl rfl
  have hb : Below B y y2 := (Below.refl _ _).grown hg k.low.2.1 (fun q hq => own_block_ge ho1 hq)
  exact ⟨k.st.callB hb k.low.1 k.low.2.2, ⟨k.low.1, Nat.le_trans k.low.2.1 hb.size, k.low.2.2⟩, (fun _ h => by cases h), (fun _ h => by cases h), (fun _ h => by cases h), fun _ => ho, k.far, ⟨k.ord.1, fun _ => ⟨rfl, rfl⟩⟩, fun h1 => Nat.lt_of_lt_of_le (k.lt0 h1) hb.size⟩
theorem Ap.stored {x i : Nat} {t : TypeId} {cs : Array Value} {u : Value} (k : Ap w y ((x, t, cs) :: L) B p0 p8 n v1 v2 l h lo a true d true) (hx : w.heap.size ≤ x) (hd : ∀ r ∈ L, r.1 ≠ x) : Ap w (y.setCell ⟨x, i, none⟩ u) ((x, t, cs.setIfInBounds i u) :: L) B p0 p8 n v1 v2 l h lo a true d true := by
  have hxB : x < B := k.low.2.2 (x, t, cs) (by simp)
  have hsz : (y.setCell ⟨x, i, none⟩ u).heap.size = y.heap.size := by simp
  refine ⟨k.st.set0 hx hd i u, ⟨k.low.1, by rw [hsz]; exact k.low.2.1, fun r hr => ?_⟩, (fun _ h => by cases h), (fun _ h => by cases h), (fun _ h => by cases h), fun h1 => own_away (k.own2 h1) hxB u, k.far, k.ord, fun h1 => by rw [hsz]; exact k.lt0 h1⟩
  rcases List.mem_cons.1 hr with rfl | hr
  · exact hxB
  · exact k.low.2.2 r (List.mem_cons_of_mem _ hr)
theorem Ap.sees (k : Ap w y L B p0 p8 n v1 v2 l h lo a b true false) : Sees y (p8 + 1) 5 (some ⟨p8, 0, none⟩) 1 (encT ⟨h, false, 0, 0, lo⟩) := by
  have hw := (k.item rfl rfl).1
  refine ⟨rfl, fun _ => ⟨p8, 0, rfl, by omega, fun j u hu => ?_⟩⟩
  rw [Nat.zero_add, hw.cell j, ← Array.getElem?_toList]
  exact hu
end
end Go.Proofs.Ytpnojhcjaneleaa
