/- Layer 11: two chains side by side (for ChainPrunes). -/
import Derived.Test.YtiocghhhfhobbaaChnL
namespace Go.Proofs.Ytiocghhhfhobbaa
open Go.RowKit Go.Cn
set_option linter.unusedVariables false
set_option linter.unusedSimpArgs false
set_option maxRecDepth 100000

theorem isr_call {α : Type} {w w' : World} {A : Option Addr} {len cap size : Nat} {enc : α → List Value} {G : α → Prop} {l : List α} (h : IsR w A len cap size enc G l) (hb : Below w.heap.size w w') : IsR w' A len cap size enc G l :=
  ⟨h.count, (h.sees.below hb).more hb.size, h.room, h.top, h.nil, h.good⟩
/-- Two chains that have nothing in common: c at g, d at k. -/
structure Tw (W w : World) (L : List Row) (g : Nat) (c : Cs) (k : Nat) (d : Cs) : Prop where
  st : St W w L
  chn : ∃ F G, Chn w g c F ∧ Chn w k d G ∧ (∀ b, F b → W.heap.size ≤ b) ∧ (∀ r ∈ L, ¬ F r.1) ∧ (∀ b, F b → ¬ G b)
section
variable {W w w' : World} {L L' : List Row} {g k : Nat} {c c' d : Cs}
theorem Tw.call (h : Tw W w L g c k d) (hb : Below w.heap.size w w') : Tw W w' L g c k d := by
  obtain ⟨F, G, k1, k2, k3, k4, k5⟩ := h.chn
  exact ⟨h.st.call hb, F, G, k1.call hb, k2.call hb, k3, k4, k5⟩
theorem Tw.few (h : Tw W w L g c k d) (hl : ∀ r ∈ L', r ∈ L) : Tw W w L' g c k d := by
  obtain ⟨F, G, k1, k2, k3, k4, k5⟩ := h.chn
  exact ⟨st_few h.st hl, F, G, k1, k2, k3, fun r hr => k4 r (hl r hr), k5⟩
theorem Tw.alloc (h : Tw W w L g c k d) (x : Nat) (hx : x = w.heap.size) (t : TypeId) (cs : Array Value) : Tw W (w.alloc (.cells cs t)) ((x, t, cs) :: L) g c k d := by
  obtain ⟨F, G, k1, k2, k3, k4, k5⟩ := h.chn
  have hb : Below w.heap.size w (w.alloc (.cells cs t)) := (Below.refl _ _).alloc (Nat.le_refl _) _
  exact ⟨h.st.alloc x hx t cs, F, G, k1.call hb, k2.call hb, k3, fun r hr => by
    rcases List.mem_cons.1 hr with rfl | hr
    · intro hf
      have := k1.low hf
      simp only at this
      omega
    · exact k4 r hr, k5⟩
theorem Tw.ok (h : Tw W w L g c k d) : Ok c := by obtain ⟨F, G, k1, -⟩ := h.chn; exact k1.ok
theorem Tw.ok2 (h : Tw W w L g c k d) : Ok d := by obtain ⟨F, G, -, k1, -⟩ := h.chn; exact k1.ok
theorem Tw.read (h : Tw W w L g c k d) : ∃ A' cap', Rc w g A' cap' c := by obtain ⟨F, G, k1, -⟩ := h.chn; exact k1.read
theorem Tw.read2 (h : Tw W w L g c k d) : ∃ A' cap', Rc w k A' cap' d := by obtain ⟨F, G, -, k1, -⟩ := h.chn; exact k1.read
theorem Tw.drewN (h : Tw W w L g c k d) (n : Nat) : Tw W (w.drewN n) L g c k d := h.call (drew_below w n)
theorem Tw.class (h : Tw W w L g c k d) : ∃ C : World → Prop, C w.drew ∧ Hid (∀ a b, C a → Below a.heap.size a b → C b) ∧ Hid (∀ a, C a → Tw W a L g c k d ∧ Below w.heap.size w a) :=
  ⟨fun a => Tw W a L g c k d ∧ Below w.heap.size w a, ⟨h.drewN 1, drew_below w 1⟩, Lib.hid fun a b ha hb => ⟨ha.1.call hb, ha.2.trans (hb.mono ha.2.size)⟩, Lib.hid fun a ha => ha⟩
theorem Tw.start {w1 w2 : World} {c d : Cs} {g k : Nat} (h : Pl W w1 [] g c none 0 []) (h2 : Pl w1 w2 [] k d none 0 []) : Tw W w2 [] g c k d := by
  obtain ⟨F, k1, k2, -⟩ := h.chn
  obtain ⟨G, j1, j2, -⟩ := h2.chn
  have hb := h2.st.below
  refine ⟨h.st.call hb, F, G, k1.call hb, j1, k2, (fun r hr => by cases hr), fun b hf hg => ?_⟩
  have := k1.low hf
  have := j2 b hg
  omega
theorem tprune (t : Int) (h : Tw W w L g c k d) : Calls Try.prog 19 #[ptr g, .int .i64 t] w fun e w' => e = .returned (.int .i64 (pruneE t)) ∧ Tw W w' L g (prune c t) k d := by
  obtain ⟨F, G, k1, k2, k3, k4, k5⟩ := h.chn
  refine (cprune_any g c F t w k1).mono fun e w' ⟨h1, ho, F', hF', hd⟩ => ⟨h1, ?_⟩
  have hWw := h.st.below.size
  refine ⟨⟨h.st.below.trans (ho.below hWw k3), fun r hr => ho.whole (h.st.knows r hr) (k4 r hr)⟩, F', G, hd, k2.off ho fun b hb hf => k5 b hf hb, fun b hb => ?_, fun r hr hf => ?_, fun b hf hg => ?_⟩
  · rcases hF' b hb with h1 | h1
    · exact k3 b h1
    · omega
  · rcases hF' _ hf with h1 | h1
    · exact k4 r hr h1
    · have := (h.st.knows r hr).lt; omega
  · rcases hF' b hf with h1 | h1
    · exact k5 b h1 hg
    · have := k2.low hg; omega
theorem tget (t : Int) (h : Tw W w L g c k d) : Calls Try.prog 17 #[ptr g, .int .i64 t] w fun e w' => e = .returned (.tuple #[aggV (getV c t), .int .i64 (getE c t)]) ∧ Below w.heap.size w w' := by
  obtain ⟨A', cap', hr⟩ := h.read
  exact cget_any g A' cap' c t w hr
theorem tget2 (t : Int) (h : Tw W w L g c k d) : Calls Try.prog 17 #[ptr k, .int .i64 t] w fun e w' => e = .returned (.tuple #[aggV (getV d t), .int .i64 (getE d t)]) ∧ Below w.heap.size w w' := by
  obtain ⟨A', cap', hr⟩ := h.read2
  exact cget_any k A' cap' d t w hr
theorem tlist (h : Tw W w L g c k d) : Calls Try.prog 14 #[ptr g] w fun e w' => ∃ A' cap', e = .returned (.slice A' c.l.length cap') ∧ Below w.heap.size w w' ∧ w'.ownsRow w.heap.size 34 2 (.slice A' c.l.length cap') c.l.length (flat encV c.l) := by
  obtain ⟨A', cap', hr⟩ := h.read
  exact clist_any g A' cap' c w hr
theorem tlist2 (h : Tw W w L g c k d) : Calls Try.prog 14 #[ptr k] w fun e w' => ∃ A' cap', e = .returned (.slice A' d.l.length cap') ∧ Below w.heap.size w w' ∧ w'.ownsRow w.heap.size 34 2 (.slice A' d.l.length cap') d.l.length (flat encV d.l) := by
  obtain ⟨A', cap', hr⟩ := h.read2
  exact clist_any k A' cap' d w hr
theorem tmark (h : Tw W w L g c k d) : Calls Try.prog 15 #[ptr g] w fun e w' => e = .returned (.int .i64 c.mark) ∧ w' = w := by
  obtain ⟨A', cap', hr⟩ := h.read
  exact cmark_any g A' cap' c w hr
theorem tmark2 (h : Tw W w L g c k d) : Calls Try.prog 15 #[ptr k] w fun e w' => e = .returned (.int .i64 d.mark) ∧ w' = w := by
  obtain ⟨A', cap', hr⟩ := h.read2
  exact cmark_any k A' cap' d w hr
end
end Go.Proofs.Ytiocghhhfhobbaa
