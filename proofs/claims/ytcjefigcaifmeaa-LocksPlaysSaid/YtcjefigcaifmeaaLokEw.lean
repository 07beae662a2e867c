/- Locks: the document's Ask and End: words: the table's box and its rows, beside known blocks; where three cells of it are told anew. -/
import Derived.Test.YtcjefigcaifmeaaLokGw
namespace Go.Proofs.Ytcjefigcaifmeaa
open Go.ChangeShapes Go.WideShapes Go.ChangeAt Go.RowKit Go.Lk
set_option linter.unusedVariables false
set_option linter.unusedSimpArgs false
set_option maxRecDepth 100000
abbrev OwR (y : World) (B : Nat) (v : Value) (l : List Rw) : Prop := y.ownsRow B 74 3 v l.length (flat encR l)
abbrev OwD (y : World) (B : Nat) (v : Value) (l : List Int) : Prop := y.ownsRow B 3 1 v l.length (flat encN l)
theorem encN_one (l : List Int) : ∀ u ∈ flat encN l, u.oneCell' = true := by
  intro u hu
  unfold flat at hu
  obtain ⟨a, _, hu⟩ := List.mem_flatMap.1 hu
  simp only [encN, List.mem_singleton] at hu
  rw [hu]; rfl
theorem sees_num1 (w : World) (g : Nat) (hg : g = w.heap.size) (x : Int) : Sees (w.alloc (.cells #[.int .i64 x] 3)) (g + 1) 1 (some ⟨g, 0, none⟩) 1 (flat encN [x]) := sees_num w g hg x
/-- Block p is the document's table in a box: its rows are one's own; these blocks are known; nothing of w has changed. -/
structure Ts (w y : World) (L : List Row) (B p : Nat) (vh vw vd : Value) (H W : List Rw) (D : List Int) : Prop where
  st : St w y L
  far : (∀ r ∈ L, r.1 ≠ p) ∧ w.heap.size ≤ p
  box : Whole y p 28 #[vh, vw, vd]
  hh : OwR y B vh H
  hw : OwR y B vw W
  hd : OwD y B vd D
section
variable {w y y' : World} {L : List Row} {B p : Nat} {vh vw vd : Value} {H W : List Rw} {D : List Int}
theorem Ts.call (g : Ts w y L B p vh vw vd H W D) (hb : Below y.heap.size y y') : Ts w y' L B p vh vw vd H W D :=
  ⟨g.st.call hb, g.far, g.box.below hb g.box.lt, own_call g.hh hb, own_call g.hw hb, own_call g.hd hb⟩
theorem Ts.drewN (g : Ts w y L B p vh vw vd H W D) (n : Nat) : Ts w (y.drewN n) L B p vh vw vd H W D := g.call (drew_below y n)
theorem Ts.few {L' : List Row} (g : Ts w y L B p vh vw vd H W D) (hl : ∀ r ∈ L', r ∈ L) : Ts w y L' B p vh vw vd H W D :=
  ⟨⟨g.st.below, fun r hr => g.st.knows r (hl r hr)⟩, ⟨fun r hr => g.far.1 r (hl r hr), g.far.2⟩, g.box, g.hh, g.hw, g.hd⟩
theorem Ts.alloc (g : Ts w y L B p vh vw vd H W D) (q : Nat) (hq : q = y.heap.size) (t : TypeId) (cs : Array Value) : Ts w (y.alloc (.cells cs t)) ((q, t, cs) :: L) B p vh vw vd H W D := by
  have k := g.call ((Below.refl y.heap.size y).alloc (Nat.le_refl _) (.cells cs t))
  refine ⟨g.st.alloc q hq t cs, ⟨fun r hr => ?_, g.far.2⟩, k.box, k.hh, k.hw, k.hd⟩
  rcases List.mem_cons.1 hr with rfl | hr
  · have := g.box.lt; simp only; omega
  · exact g.far.1 r hr
theorem Ts.grown {row : Option Nat} (g : Ts w y L B p vh vw vd H W D) (hg : y.grownBy y' row) (hr : ∀ b, row = some b → w.heap.size ≤ b ∧ b ≠ p ∧ (∀ r ∈ L, r.1 ≠ b) ∧ vh.ownBlock ≠ some b ∧ vw.ownBlock ≠ some b ∧ vd.ownBlock ≠ some b) : Ts w y' L B p vh vw vd H W D := by
  refine ⟨⟨g.st.below.grown hg g.st.below.size fun b hb => (hr b hb).1, fun r hl => (g.st.knows r hl).grown hg fun e => (hr r.1 e.symm).2.2.1 r hl rfl⟩, g.far, g.box.grown hg fun e => (hr p e.symm).2.1 rfl, own_grow g.hh hg fun b hb e => (hr b e).2.2.2.1 hb, own_grow g.hw hg fun b hb e => (hr b e).2.2.2.2.1 hb, own_grow g.hd hg fun b hb e => (hr b e).2.2.2.2.2 hb⟩
theorem Ts.kinds (g : Ts w y L B p vh vw vd H W D) {q : Nat} {t : TypeId} {cs : Array Value} (hq : Whole y q t cs) (h1 : t ≠ 74) (h2 : t ≠ 3) : vh.ownBlock ≠ some q ∧ vw.ownBlock ≠ some q ∧ vd.ownBlock ≠ some q :=
  ⟨own_kind g.hh hq h1, own_kind g.hw hq h1, own_kind g.hd hq h2⟩
/-- A known block of whose cells one is told anew, and which is no row's. -/
theorem Ts.set0 {q : Nat} {t : TypeId} {cs : Array Value} (g : Ts w y ((q, t, cs) :: L) B p vh vw vd H W D) (hq : w.heap.size ≤ q) (hd : ∀ r ∈ L, r.1 ≠ q) (h1 : t ≠ 74) (h2 : t ≠ 3) (i : Nat) (u : Value) : Ts w (y.setCell ⟨q, i, none⟩ u) ((q, t, cs.setIfInBounds i u) :: L) B p vh vw vd H W D := by
  have hqp := g.far.1 _ (List.mem_cons_self ..)
  obtain ⟨k1, k2, k3⟩ := g.kinds (g.st.knows _ (List.mem_cons_self ..)) h1 h2
  refine ⟨⟨g.st.below.setCell (p := ⟨q, i, none⟩) hq u, g.st.knows.set0 hd i u⟩, ⟨fun r hr => ?_, g.far.2⟩, g.box.away (p := ⟨q, i, none⟩) (fun e => hqp e.symm) u, own_set g.hh k1, own_set g.hw k2, own_set g.hd k3⟩
  rcases List.mem_cons.1 hr with rfl | hr
  · exact hqp
  · exact g.far.1 r (List.mem_cons_of_mem _ hr)
/-- Its box is told three rows anew. -/
theorem Ts.set3 (g : Ts w y L B p vh vw vd H W D) {vh' vw' vd' : Value} {H' W' : List Rw} {D' : List Int} (h1 : OwR y B vh' H') (h2 : OwR y B vw' W') (h3 : OwD y B vd' D') :
    Ts w (((y.setCell ⟨p, 0, none⟩ vh').setCell ⟨p, 1, none⟩ vw').setCell ⟨p, 2, none⟩ vd') L B p vh' vw' vd' H' W' D' := by
  have a1 := own_kind h1 g.box (by decide)
  have a2 := own_kind h2 g.box (by decide)
  have a3 := own_kind h3 g.box (by decide)
  refine ⟨⟨((g.st.below.setCell (p := ⟨p, 0, none⟩) g.far.2 _).setCell (p := ⟨p, 1, none⟩) g.far.2 _).setCell (p := ⟨p, 2, none⟩) g.far.2 _, fun r hr => (((g.st.knows r hr).away (p := ⟨p, 0, none⟩) (g.far.1 r hr) _).away (p := ⟨p, 1, none⟩) (g.far.1 r hr) _).away (p := ⟨p, 2, none⟩) (g.far.1 r hr) _⟩, g.far, ?_, own_set (own_set (own_set h1 a1) a1) a1, own_set (own_set (own_set h2 a2) a2) a2, own_set (own_set (own_set h3 a3) a3) a3⟩
  have := ((g.box.set 0 vh').set 1 vw').set 2 vd'
  simpa using this
/-- One of its rows is told anew. -/
theorem Ts.set1 (g : Ts w y L B p vh vw vd H W D) {vw' : Value} {W' : List Rw} (h2 : OwR y B vw' W') : Ts w (y.setCell ⟨p, 1, none⟩ vw') L B p vh vw' vd H W' D := by
  have a1 := own_kind g.hh g.box (by decide)
  have a2 := own_kind h2 g.box (by decide)
  have a3 := own_kind g.hd g.box (by decide)
  refine ⟨⟨g.st.below.setCell (p := ⟨p, 1, none⟩) g.far.2 _, fun r hr => (g.st.knows r hr).away (p := ⟨p, 1, none⟩) (g.far.1 r hr) _⟩, g.far, ?_, own_set g.hh a1, own_set h2 a2, own_set g.hd a3⟩
  have := g.box.set 1 vw'
  simpa using this
end
/-- Where the three cells of the table's box are told anew: a row was made (a, b, c), it is stored (d, e, f). -/
structure Gq (w y : World) (L : List Row) (B p : Nat) (vh vw vd : Value) (H W : List Rw) (D : List Int) (v1 v2 v3 : Value) (H' W' : List Rw) (D' : List Int) (a b c d e f : Bool) : Prop where
  st : St w y L
  far : (∀ r ∈ L, r.1 ≠ p) ∧ w.heap.size ≤ p
  box : Whole y p 28 #[if d = true then v1 else vh, if e = true then v2 else vw, if f = true then v3 else vd]
  hh : OwR y B vh H
  hw : OwR y B vw W
  hd : OwD y B vd D
  n1 : a = true → OwR y w.heap.size v1 H'
  n2 : b = true → OwR y w.heap.size v2 W'
  n3 : c = true → OwD y w.heap.size v3 D'
  ord : (d = true → a = true) ∧ (e = true → b = true) ∧ (f = true → c = true)
section
variable {w y y' : World} {L : List Row} {B p : Nat} {vh vw vd : Value} {H W : List Rw} {D : List Int} {v1 v2 v3 : Value} {H' W' : List Rw} {D' : List Int} {a b c d e f : Bool}
theorem Gq.start (g : Ts w y L B p vh vw vd H W D) (v1 v2 v3 : Value) (H' W' : List Rw) (D' : List Int) : Gq w y L B p vh vw vd H W D v1 v2 v3 H' W' D' false false false false false false :=
  ⟨g.st, g.far, g.box, g.hh, g.hw, g.hd, (fun h => by cases h), (fun h => by cases h), (fun h => by cases h), (fun h => by cases h), (fun h => by cases h), fun h => by cases h⟩
theorem Gq.call (g : Gq w y L B p vh vw vd H W D v1 v2 v3 H' W' D' a b c d e f) (hb : Below y.heap.size y y') : Gq w y' L B p vh vw vd H W D v1 v2 v3 H' W' D' a b c d e f :=
  ⟨g.st.call hb, g.far, g.box.below hb g.box.lt, own_call g.hh hb, own_call g.hw hb, own_call g.hd hb, fun h => own_call (g.n1 h) hb, fun h => own_call (g.n2 h) hb, fun h => own_call (g.n3 h) hb, g.ord⟩
theorem Gq.got1 (g : Gq w y L B p vh vw vd H W D v1 v2 v3 H' W' D' false b c d e f) (hb : Below y.heap.size y y') {v : Value} (ho : OwR y' y.heap.size v H') : Gq w y' L B p vh vw vd H W D v v2 v3 H' W' D' true b c d e f := by
  have hx : d = false := by cases d with | false => rfl | true => have := g.ord.1 rfl; cases this
  subst hx
  have k := g.call hb
  exact ⟨k.st, k.far, k.box, k.hh, k.hw, k.hd, fun _ => own_lessB ho g.st.below.size, k.n2, k.n3, (fun h => by cases h), k.ord.2⟩
theorem Gq.got2 (g : Gq w y L B p vh vw vd H W D v1 v2 v3 H' W' D' a false c d e f) (hb : Below y.heap.size y y') {v : Value} (ho : OwR y' y.heap.size v W') : Gq w y' L B p vh vw vd H W D v1 v v3 H' W' D' a true c d e f := by
  have hx : e = false := by cases e with | false => rfl | true => have := g.ord.2.1 rfl; cases this
  subst hx
  have k := g.call hb
  exact ⟨k.st, k.far, k.box, k.hh, k.hw, k.hd, k.n1, fun _ => own_lessB ho g.st.below.size, k.n3, k.ord.1, (fun h => by cases h), k.ord.2.2⟩
theorem Gq.got3 (g : Gq w y L B p vh vw vd H W D v1 v2 v3 H' W' D' a b false d e f) {v : Value} (ho : OwD y w.heap.size v D') : Gq w y L B p vh vw vd H W D v1 v2 v H' W' D' a b true d e f := by
  have hx : f = false := by cases f with | false => rfl | true => have := g.ord.2.2 rfl; cases this
  subst hx
  exact ⟨g.st, g.far, g.box, g.hh, g.hw, g.hd, g.n1, g.n2, fun _ => ho, g.ord.1, g.ord.2.1, fun h => by cases h⟩
/-- A block of int that is none of the rows grows. -/
theorem Gq.grown {row : Option Nat} (g : Gq w y L B p vh vw vd H W D v1 v2 v3 H' W' D' a b c d e f) (hg : y.grownBy y' row) (hr : ∀ q, row = some q → w.heap.size ≤ q ∧ q ≠ p ∧ (∀ r ∈ L, r.1 ≠ q) ∧ vh.ownBlock ≠ some q ∧ vw.ownBlock ≠ some q ∧ vd.ownBlock ≠ some q ∧ (a = true → v1.ownBlock ≠ some q) ∧ (b = true → v2.ownBlock ≠ some q)) (hc : c = false) : Gq w y' L B p vh vw vd H W D v1 v2 v3 H' W' D' a b c d e f := by
  refine ⟨⟨g.st.below.grown hg g.st.below.size fun b hb => (hr b hb).1, fun r hl => (g.st.knows r hl).grown hg fun e => (hr r.1 e.symm).2.2.1 r hl rfl⟩, g.far, g.box.grown hg fun e => (hr p e.symm).2.1 rfl, own_grow g.hh hg fun b hb e => (hr b e).2.2.2.1 hb, own_grow g.hw hg fun b hb e => (hr b e).2.2.2.2.1 hb, own_grow g.hd hg fun b hb e => (hr b e).2.2.2.2.2.1 hb, fun h => own_grow (g.n1 h) hg fun b hb e => (hr b e).2.2.2.2.2.2.1 h hb, fun h => own_grow (g.n2 h) hg fun b hb e => (hr b e).2.2.2.2.2.2.2 h hb, fun h => ?_, g.ord⟩
  rw [hc] at h; cases h
theorem Gq.far3 (g : Gq w y L B p vh vw vd H W D v1 v2 v3 H' W' D' a b c d e f) : vh.ownBlock ≠ some p ∧ vw.ownBlock ≠ some p ∧ vd.ownBlock ≠ some p ∧ (a = true → v1.ownBlock ≠ some p) ∧ (b = true → v2.ownBlock ≠ some p) ∧ (c = true → v3.ownBlock ≠ some p) :=
  ⟨own_kind g.hh g.box (by decide), own_kind g.hw g.box (by decide), own_kind g.hd g.box (by decide), fun h => own_kind (g.n1 h) g.box (by decide), fun h => own_kind (g.n2 h) g.box (by decide), fun h => own_kind (g.n3 h) g.box (by decide)⟩
theorem Gq.setH (g : Gq w y L B p vh vw vd H W D v1 v2 v3 H' W' D' true b c false e f) : Gq w (y.setCell ⟨p, 0, none⟩ v1) L B p vh vw vd H W D v1 v2 v3 H' W' D' true b c true e f := by
  obtain ⟨f1, f2, f3, f4, f5, f6⟩ := g.far3
  refine ⟨⟨g.st.below.setCell (p := ⟨p, 0, none⟩) g.far.2 _, fun r hr => (g.st.knows r hr).away (p := ⟨p, 0, none⟩) (g.far.1 r hr) _⟩, g.far, ?_, own_set g.hh f1, own_set g.hw f2, own_set g.hd f3, fun h => own_set (g.n1 h) (f4 h), fun h => own_set (g.n2 h) (f5 h), fun h => own_set (g.n3 h) (f6 h), (fun _ => rfl), g.ord.2⟩
  have := g.box.set 0 v1
  simpa using this
theorem Gq.setW (g : Gq w y L B p vh vw vd H W D v1 v2 v3 H' W' D' a true c d false f) : Gq w (y.setCell ⟨p, 1, none⟩ v2) L B p vh vw vd H W D v1 v2 v3 H' W' D' a true c d true f := by
  obtain ⟨f1, f2, f3, f4, f5, f6⟩ := g.far3
  refine ⟨⟨g.st.below.setCell (p := ⟨p, 1, none⟩) g.far.2 _, fun r hr => (g.st.knows r hr).away (p := ⟨p, 1, none⟩) (g.far.1 r hr) _⟩, g.far, ?_, own_set g.hh f1, own_set g.hw f2, own_set g.hd f3, fun h => own_set (g.n1 h) (f4 h), fun h => own_set (g.n2 h) (f5 h), fun h => own_set (g.n3 h) (f6 h), g.ord.1, (fun _ => rfl), g.ord.2.2⟩
  have := g.box.set 1 v2
  simpa using this
theorem Gq.setD (g : Gq w y L B p vh vw vd H W D v1 v2 v3 H' W' D' a b true d e false) : Gq w (y.setCell ⟨p, 2, none⟩ v3) L B p vh vw vd H W D v1 v2 v3 H' W' D' a b true d e true := by
  obtain ⟨f1, f2, f3, f4, f5, f6⟩ := g.far3
  refine ⟨⟨g.st.below.setCell (p := ⟨p, 2, none⟩) g.far.2 _, fun r hr => (g.st.knows r hr).away (p := ⟨p, 2, none⟩) (g.far.1 r hr) _⟩, g.far, ?_, own_set g.hh f1, own_set g.hw f2, own_set g.hd f3, fun h => own_set (g.n1 h) (f4 h), fun h => own_set (g.n2 h) (f5 h), fun h => own_set (g.n3 h) (f6 h), g.ord.1, g.ord.2.1, fun _ => rfl⟩
  have := g.box.set 2 v3
  simpa using this
theorem Gq.fin (g : Gq w y L B p vh vw vd H W D v1 v2 v3 H' W' D' true true true true true true) (hB : B ≤ w.heap.size) : Ts w y L B p v1 v2 v3 H' W' D' :=
  ⟨g.st, g.far, by have := g.box; simpa using this, own_lessB (g.n1 rfl) hB, own_lessB (g.n2 rfl) hB, own_lessB (g.n3 rfl) hB⟩
end
end Go.Proofs.Ytcjefigcaifmeaa
