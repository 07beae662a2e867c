/- Clocks in memory: a clock's blocks; worlds in which nothing old but one block has changed. -/
import Derived.Test.YtjpalcolhagpcaaClkS
import Derived.Test.YtjpalcolhagpcaaClockM
namespace Go.Proofs.Ytjpalcolhagpcaa
open Go.RowKit Go.Sp Go.Fl Go.Ck
set_option linter.unusedVariables false
set_option linter.unusedSimpArgs false
set_option maxRecDepth 100000

/-- Nothing old has changed, but for block g. -/
structure But (g : Nat) (w w' : World) : Prop where
  os : w'.os = w.os
  tape : w'.tape = w.tape
  output : w'.output = w.output
  size : w.heap.size ≤ w'.heap.size
  block : ∀ k, k < w.heap.size → k ≠ g → w'.heap[k]? = w.heap[k]?
section
variable {g : Nat} {a b c w w' : World}
theorem But.of (h : Below w.heap.size w w') (g : Nat) : But g w w' := ⟨h.os, h.tape, h.output, h.size, fun k hk _ => h.block k hk⟩
theorem But.refl (g : Nat) (w : World) : But g w w := .of (Below.refl _ _) g
theorem But.trans (h : But g a b) (k : But g b c) : But g a c :=
  ⟨k.os.trans h.os, k.tape.trans h.tape, k.output.trans h.output, Nat.le_trans h.size k.size, fun i hi hg => (k.block i (Nat.lt_of_lt_of_le hi h.size) hg).trans (h.block i hi hg)⟩
theorem But.call (h : But g a w) (k : Below w.heap.size w w') : But g a w' := h.trans (.of k g)
theorem But.drewN (h : But g a w) (n : Nat) : But g a (w.drewN n) := ⟨h.os, h.tape, h.output, h.size, h.block⟩
theorem But.alloc (h : But g a w) (o : Obj) : But g a (w.alloc o) := h.call ((Below.refl _ _).alloc (Nat.le_refl _) o)
theorem But.set (h : But g a w) (k : Nat) (u : Value) : But g a (w.setCell ⟨g, k, none⟩ u) :=
  h.trans ((Below.refl 0 w).setCell (Nat.zero_le _) u |> fun hb => ⟨hb.os, hb.tape, hb.output, hb.size, fun i hi hg => Below.heap_setCell w _ u i hg⟩)
theorem But.setNew (h : But g a w) {p : Addr} (hp : a.heap.size ≤ p.block) (u : Value) : But g a (w.setCell p u) := by
  have hb := (Below.refl 0 w).setCell (p := p) (Nat.zero_le _) u
  refine ⟨hb.os.trans h.os, hb.tape.trans h.tape, hb.output.trans h.output, Nat.le_trans h.size hb.size, fun i hi hg => ?_⟩
  rw [Below.heap_setCell w p u i (by omega)]
  exact h.block i hi hg
theorem But.below (h : But g w w') {B : Nat} (hB : B ≤ w.heap.size) (hg : B ≤ g) : Below B w w' :=
  ⟨h.os, h.tape, h.output, h.size, fun k hk => h.block k (by omega) (by omega)⟩
theorem But.whole (h : But g w w') {x : Nat} {t : TypeId} {cs : Array Value} (k : Whole w x t cs) (hx : x ≠ g) : Whole w' x t cs := (h.block x k.lt hx).trans k
end

/-- Block g is this clock; its basis, if it has one, is another block. -/
structure Clk (w : World) (g : Nat) (c : Ck) : Prop where
  is : ∃ p : Option Addr, Whole w g 68 #[.pointer p, .float .f64 c.rate, .int .i64 c.last, .int .i64 c.floor] ∧ (c.on = false → p = none) ∧
    (c.on = true → ∃ b, p = some ⟨b, 0, none⟩ ∧ Whole w b 70 #[.int .i64 c.r, .int .i64 c.t, .int .i64 c.e])
section
variable {g : Nat} {w w' : World} {c : Ck}
theorem whole_unlike {x y : Nat} {s t : TypeId} {cs ds : Array Value} (h : Whole w x s cs) (k : Whole w y t ds) (hst : s ≠ t) : x ≠ y := by
  intro e
  subst e
  have := (show w.heap[x]? = _ from h).symm.trans k
  injection this with this
  injection this with h1 h2
  exact hst h2
theorem Clk.lt (h : Clk w g c) : g < w.heap.size := by
  obtain ⟨p, hw, -⟩ := h.is
  exact hw.lt
theorem Clk.keep (h : Clk w g c) (hk : ∀ x t cs, Whole w x t cs → Whole w' x t cs) : Clk w' g c := by
  obtain ⟨p, hw, h0, h1⟩ := h.is
  refine ⟨p, hk _ _ _ hw, h0, fun hc => ?_⟩
  obtain ⟨b, hp, hb⟩ := h1 hc
  exact ⟨b, hp, hk _ _ _ hb⟩
theorem Clk.call (h : Clk w g c) (hb : Below w.heap.size w w') : Clk w' g c := h.keep fun _ _ _ k => k.below hb k.lt
theorem Clk.alloc (h : Clk w g c) (o : Obj) : Clk (w.alloc o) g c := h.keep fun _ _ _ k => k.alloc o
theorem Clk.drewN (h : Clk w g c) (n : Nat) : Clk (w.drewN n) g c := h.keep fun _ _ _ k => k.drewN n
/-- Another clock is changed. -/
theorem Clk.other (h : Clk w g c) {g' : Nat} {c' : Ck} (k : Clk w g' c') (hg : g ≠ g') (hb : But g' w w') : Clk w' g c := by
  obtain ⟨p, hw, h0, h1⟩ := h.is
  obtain ⟨q, kw, -⟩ := k.is
  refine ⟨p, hb.whole hw hg, h0, fun hc => ?_⟩
  obtain ⟨b, hp, hbb⟩ := h1 hc
  exact ⟨b, hp, hb.whole hbb (whole_unlike hbb kw (by decide))⟩
theorem Clk.off (h : Clk w g c) (hc : c.on = false) : Whole w g 68 #[.pointer none, .float .f64 c.rate, .int .i64 c.last, .int .i64 c.floor] := by
  obtain ⟨p, hw, h0, -⟩ := h.is
  rw [h0 hc] at hw
  exact hw
theorem Clk.on (h : Clk w g c) (hc : c.on = true) : ∃ b, b ≠ g ∧ Whole w g 68 #[.pointer (some ⟨b, 0, none⟩), .float .f64 c.rate, .int .i64 c.last, .int .i64 c.floor] ∧ Whole w b 70 #[.int .i64 c.r, .int .i64 c.t, .int .i64 c.e] := by
  obtain ⟨p, hw, -, h1⟩ := h.is
  obtain ⟨b, rfl, hb⟩ := h1 hc
  exact ⟨b, whole_unlike hb hw (by decide), hw, hb⟩
end

/-- Where a walk stands that may change block g: nothing else that is old has changed, and these blocks are known. -/
structure Sg (g : Nat) (W w : World) (L : List Row) : Prop where
  but : But g W w
  knows : Knows w L
section
variable {g : Nat} {W w w' : World} {L : List Row}
theorem Sg.of (h : St W w L) (g : Nat) : Sg g W w L := ⟨.of h.below g, h.knows⟩
theorem Sg.call (h : Sg g W w L) (hb : Below w.heap.size w w') : Sg g W w' L := ⟨h.but.call hb, h.knows.keep hb⟩
theorem Sg.alloc (h : Sg g W w L) (x : Nat) (hx : x = w.heap.size) (t : TypeId) (cs : Array Value) : Sg g W (w.alloc (.cells cs t)) ((x, t, cs) :: L) := ⟨h.but.alloc _, h.knows.alloc x hx t cs⟩
theorem Sg.drewN (h : Sg g W w L) (n : Nat) : Sg g W (w.drewN n) L := ⟨h.but.drewN n, h.knows.drewN n⟩
theorem Sg.few {L' : List Row} (h : Sg g W w L) (hl : ∀ r ∈ L', r ∈ L) : Sg g W w L' := ⟨h.but, fun r hr => h.knows r (hl r hr)⟩
theorem Sg.set {t : TypeId} {cs : Array Value} (h : Sg g W w ((g, t, cs) :: L)) (hd : ∀ r ∈ L, r.1 ≠ g) (k : Nat) (u : Value) : Sg g W (w.setCell ⟨g, k, none⟩ u) ((g, t, cs.setIfInBounds k u) :: L) := ⟨h.but.set k u, h.knows.set0 hd k u⟩
theorem Sg.setNew {x : Nat} {t : TypeId} {cs : Array Value} (h : Sg g W w ((x, t, cs) :: L)) (hx : W.heap.size ≤ x) (hd : ∀ r ∈ L, r.1 ≠ x) (k : Nat) (u : Value) : Sg g W (w.setCell ⟨x, k, none⟩ u) ((x, t, cs.setIfInBounds k u) :: L) := ⟨h.but.setNew hx u, h.knows.set0 hd k u⟩
end

/-- Where a law stands: nothing of W has changed, these blocks are known, and block g, which is none of W, is this clock. -/
structure Lw (W w : World) (L : List Row) (g : Nat) (c : Ck) : Prop where
  st : St W w L
  clk : Clk w g c
  new : W.heap.size ≤ g
  far : ∀ r ∈ L, r.1 ≠ g
section
variable {g : Nat} {W w w' : World} {L : List Row} {c c' : Ck}
theorem Lw.call (h : Lw W w L g c) (hb : Below w.heap.size w w') : Lw W w' L g c := ⟨h.st.call hb, h.clk.call hb, h.new, h.far⟩
theorem Lw.drewN (h : Lw W w L g c) (n : Nat) : Lw W (w.drewN n) L g c := ⟨h.st.drewN n, h.clk.drewN n, h.new, h.far⟩
theorem Lw.alloc (h : Lw W w L g c) (x : Nat) (hx : x = w.heap.size) (t : TypeId) (cs : Array Value) : Lw W (w.alloc (.cells cs t)) ((x, t, cs) :: L) g c :=
  ⟨h.st.alloc x hx t cs, h.clk.alloc _, h.new, fun r hr => by
    rcases List.mem_cons.1 hr with rfl | hr
    · have := h.clk.lt
      show x ≠ g
      omega
    · exact h.far r hr⟩
theorem Lw.few {L' : List Row} (h : Lw W w L g c) (hl : ∀ r ∈ L', r ∈ L) : Lw W w L' g c := ⟨h.st.few hl, h.clk, h.new, fun r hr => h.far r (hl r hr)⟩
/-- The clock was set, or asked. -/
theorem Lw.turn (h : Lw W w L g c) (hb : But g w w') (hc : Clk w' g c') : Lw W w' L g c' :=
  ⟨⟨h.st.below.trans (hb.below h.st.below.size h.new), fun r hr => hb.whole (h.st.knows r hr) (h.far r hr)⟩, hc, h.new, h.far⟩
end
end Go.Proofs.Ytjpalcolhagpcaa
