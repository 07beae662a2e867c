/- Layer 12: two stores side by side; puts of unlike keys. -/
import Derived.Test.YtcpcepbjdohdmaaStoN
import Derived.Test.YtcpcepbjdohdmaaInv
namespace Go.So
open Go.Cn
set_option linter.unusedVariables false
theorem why_same {s s' : Sto} {t k : Int} {ahead : List En} (h : s'.ch k = s.ch k) : whyE s' t k ahead = whyE s t k ahead := by unfold whyE; rw [h]
theorem scan_same {s s' : Sto} {t : Int} {l ahead : List En} (h : ∀ e ∈ l, s'.ch e.1 = s.ch e.1) : scanE s' t ahead l = scanE s t ahead l := by
  induction l generalizing ahead with
  | nil => rfl
  | cons a l ih =>
    unfold scanE
    rw [why_same (h a (List.mem_cons_self ..)), ih fun e he => h e (List.mem_cons_of_mem _ he)]
theorem putSE_same {s s' : Sto} {t : Int} {l : List En} (hc : s'.closed = s.closed) (h : ∀ e ∈ l, s'.ch e.1 = s.ch e.1) : putSE s' t l = putSE s t l := by
  unfold putSE
  rw [hc, scan_same h]
theorem putS_other {s : Sto} {t k : Int} {l : List En} (h : ∀ e ∈ l, e.1 ≠ k) : (putS s t l).ch k = s.ch k := by
  unfold putS
  split
  · exact adds_other s t k l h
  · rfl
theorem putS_at {s s' : Sto} {t : Int} {l : List En} (hc : s'.closed = s.closed) (h : ∀ e ∈ l, s'.ch e.1 = s.ch e.1) {e : En} (he : e ∈ l) : (putS s' t l).ch e.1 = (putS s t l).ch e.1 := by
  have hE := putSE_same (t := t) hc h
  unfold putS
  rw [hE]
  split
  · rename_i h0
    obtain ⟨-, -, -, hcan, -⟩ := put_zero h0
    rw [adds_at s' t l hcan.once e he, adds_at s t l hcan.once e he, h e he]
  · exact h e he
/-- Puts of unlike keys may change places. -/
theorem puts_turn {s : Sto} {a b : Int} {p q : List En} (h : ∀ x ∈ p, ∀ y ∈ q, x.1 ≠ y.1) :
    putSE (putS s b q) a p = putSE s a p ∧ putSE (putS s a p) b q = putSE s b q ∧ putS (putS s b q) a p = putS (putS s a p) b q := by
  have hp : ∀ e ∈ p, (putS s b q).ch e.1 = s.ch e.1 := fun e he => putS_other fun y hy e2 => h e he y hy e2.symm
  have hq : ∀ e ∈ q, (putS s a p).ch e.1 = s.ch e.1 := fun e he => putS_other fun x hx e2 => h x hx e he e2
  have cq := putS_keeps s b q
  have cp := putS_keeps s a p
  refine ⟨putSE_same cq.1 hp, putSE_same cp.1 hq, ?_⟩
  have c1 := putS_keeps (putS s b q) a p
  have c2 := putS_keeps (putS s a p) b q
  have hch : ∀ k, (putS (putS s b q) a p).ch k = (putS (putS s a p) b q).ch k := fun k => by
    by_cases hkp : ∃ e ∈ p, e.1 = k
    · obtain ⟨e, he, rfl⟩ := hkp
      rw [putS_at cq.1 hp he, putS_other (l := q) fun y hy e2 => h e he y hy e2.symm]
    · have hkp2 : ∀ e ∈ p, e.1 ≠ k := fun e he e2 => hkp ⟨e, he, e2⟩
      rw [putS_other hkp2]
      by_cases hkq : ∃ e ∈ q, e.1 = k
      · obtain ⟨e, he, rfl⟩ := hkq
        rw [putS_at cp.1 hq he]
      · have hkq2 : ∀ e ∈ q, e.1 ≠ k := fun e he e2 => hkq ⟨e, he, e2⟩
        rw [putS_other hkq2, putS_other hkq2, putS_other hkp2]
  have e1 : (putS (putS s b q) a p).closed = (putS (putS s a p) b q).closed := by rw [c1.1, c2.1, cq.1, cp.1]
  have e2 : (putS (putS s b q) a p).mark = (putS (putS s a p) b q).mark := by rw [c1.2, c2.2, cq.2, cp.2]
  have ext : ∀ x y : Sto, x.ch = y.ch → x.closed = y.closed → x.mark = y.mark → x = y := fun x y h1 h2 h3 => by
    obtain ⟨x1, x2, x3⟩ := x
    obtain ⟨y1, y2, y3⟩ := y
    simp only at h1 h2 h3
    subst h1 h2 h3
    rfl
  exact ext _ _ (funext hch) e1 e2
/-- A store behind none, one or two of its calls. -/
def stg (s0 s1 s2 : Sto) (a b : Bool) : Sto := if b then s2 else if a then s1 else s0
theorem stg_0 (s0 s1 s2 : Sto) : stg s0 s1 s2 false false = s0 := rfl
theorem stg_1 (s0 s1 s2 : Sto) : stg s0 s1 s2 true false = s1 := rfl
theorem stg_2 (s0 s1 s2 : Sto) : stg s0 s1 s2 true true = s2 := rfl
end Go.So
namespace Go.Proofs.Ytcpcepbjdohdmaa
open Go.ChangeShapes Go.WideShapes Go.ChangeAt Go.RowKit Go.Cn Go.So
set_option linter.unusedVariables false
set_option linter.unusedSimpArgs false
set_option maxRecDepth 100000
/-- A slot that holds v once its operation has come, and u ahead of that. -/
def so (b : Bool) (v u : Value) : Value := if b then v else u
theorem so_true (v u : Value) : so true v u = v := rfl
theorem so_false (v u : Value) : so false v u = u := rfl
/-- Where a law with two stores stands. -/
structure Ps2 (W w : World) (L : List Row) (g : Nat) (s : Sto) (g2 : Nat) (s2 : Sto) : Prop where
  st : St W w L
  sto : ∃ F F2, Stx w g s F ∧ Stx w g2 s2 F2 ∧ (∀ b, F b → W.heap.size ≤ b ∧ ¬ F2 b) ∧ (∀ b, F2 b → W.heap.size ≤ b) ∧ ∀ r ∈ L, ¬ F r.1 ∧ ¬ F2 r.1
section
variable {W w w' : World} {L L' : List Row} {g g2 : Nat} {s s' s2 : Sto}
theorem Ps2.swap (h : Ps2 W w L g s g2 s2) : Ps2 W w L g2 s2 g s := by
  obtain ⟨F, F2, k1, k2, k3, k4, k5⟩ := h.sto
  exact ⟨h.st, F2, F, k2, k1, fun b hb => ⟨k4 b hb, fun hf => (k3 b hf).2 hb⟩, fun b hb => (k3 b hb).1, fun r hr => (k5 r hr).symm⟩
theorem Ps2.call (h : Ps2 W w L g s g2 s2) (hb : Below w.heap.size w w') : Ps2 W w' L g s g2 s2 := by
  obtain ⟨F, F2, k1, k2, k3, k4, k5⟩ := h.sto
  exact ⟨h.st.call hb, F, F2, k1.call hb, k2.call hb, k3, k4, k5⟩
theorem Ps2.drewN (h : Ps2 W w L g s g2 s2) (n : Nat) : Ps2 W (w.drewN n) L g s g2 s2 := h.call (drew_below w n)
theorem Ps2.few (h : Ps2 W w L g s g2 s2) (hl : ∀ r ∈ L', r ∈ L) : Ps2 W w L' g s g2 s2 := by
  obtain ⟨F, F2, k1, k2, k3, k4, k5⟩ := h.sto
  exact ⟨st_few h.st hl, F, F2, k1, k2, k3, k4, fun r hr => k5 r (hl r hr)⟩
theorem Ps2.alloc (h : Ps2 W w L g s g2 s2) (x : Nat) (hx : x = w.heap.size) (t : TypeId) (cs : Array Value) : Ps2 W (w.alloc (.cells cs t)) ((x, t, cs) :: L) g s g2 s2 := by
  obtain ⟨F, F2, k1, k2, k3, k4, k5⟩ := h.sto
  have hb : Below w.heap.size w (w.alloc (.cells cs t)) := (Below.refl _ _).alloc (Nat.le_refl _) _
  exact ⟨h.st.alloc x hx t cs, F, F2, k1.call hb, k2.call hb, k3, k4, fun r hr => by
    rcases List.mem_cons.1 hr with rfl | hr
    · refine ⟨fun hf => ?_, fun hf => ?_⟩
      · have := k1.low hf; simp only at this; omega
      · have := k2.low hf; simp only at this; omega
    · exact k5 r hr⟩
theorem Ps2.went {F F2 : Nat → Prop} (h : Ps2 W w L g s g2 s2) (k2 : Stx w g2 s2 F2) (k3 : ∀ b, F b → W.heap.size ≤ b ∧ ¬ F2 b) (k4 : ∀ b, F2 b → W.heap.size ≤ b) (k5 : ∀ r ∈ L, ¬ F r.1 ∧ ¬ F2 r.1) (hm : WentS F w w' g s') : Ps2 W w' L g s' g2 s2 := by
  obtain ⟨ho, F', hF', hd⟩ := hm
  have hWw := h.st.below.size
  refine ⟨⟨h.st.below.trans (ho.below hWw fun b hb => (k3 b hb).1), fun r hr => ho.whole (h.st.knows r hr) (k5 r hr).1⟩, F', F2, hd, k2.off ho fun b hb hf => (k3 b hf).2 hb, fun b hb => ?_, k4, fun r hr => ⟨fun hf => ?_, (k5 r hr).2⟩⟩
  · rcases hF' b hb with h1 | h1
    · exact k3 b h1
    · exact ⟨by omega, fun hf => by have := k2.low hf; omega⟩
  · rcases hF' _ hf with h1 | h1
    · exact (k5 r hr).1 h1
    · have := (h.st.knows r hr).lt; omega
theorem Er.old2 {A : Option Addr} {cap : Nat} {l : List En} (h : Er W A cap l) (p : Ps2 W w L g s g2 s2) : Er w A cap l := ⟨(h.sees.below p.st.below).more p.st.below.size, h.room, h.top, h.good⟩
theorem p2put {A : Option Addr} {cap : Nat} {l : List En} (t : Int) (h : Ps2 W w L g s g2 s2) (hr : Er W A cap l) :
    Calls Try.prog 23 #[ptr g, .int .i64 t, .slice A l.length cap] w fun e w' => e = .returned (.int .i64 (putSE s t l)) ∧ Ps2 W w' L g (putS s t l) g2 s2 := by
  obtain ⟨F, F2, k1, k2, k3, k4, k5⟩ := h.sto
  have hr2 := hr.old2 h
  exact (sput_any t A cap l w k1 hr2.sees hr2.room hr2.top (fun e he => (hr2.good e he).1) fun hn a ha hf => by
    have h1 := er_far hr hn a ha
    have h2 := (k3 _ hf).1
    omega).mono fun e w' ⟨h1, h2⟩ => ⟨h1, h.went k2 k3 k4 k5 h2⟩
theorem p2close (t : Int) (h : Ps2 W w L g s g2 s2) : Calls Try.prog 24 #[ptr g, .int .i64 t] w fun e w' => e = .returned (.int .i64 (closeSE t)) ∧ Ps2 W w' L g (closeS s t) g2 s2 := by
  obtain ⟨F, F2, k1, k2, k3, k4, k5⟩ := h.sto
  exact (sclose_any t w k1).mono fun e w' ⟨h1, h2⟩ => ⟨h1, h.went k2 k3 k4 k5 h2⟩
theorem p2snap (t : Int) (h : Ps2 W w L g s g2 s2) : Calls Try.prog 18 #[ptr g, .int .i64 t] w fun e w' => ∃ A cap, e = .returned (.tuple #[.slice A (snapS s t).length cap, .int .i64 (tellsE s t)]) ∧ Below w.heap.size w w' ∧ w'.ownsRow w.heap.size 58 2 (.slice A (snapS s t).length cap) (snapS s t).length (flat encE (snapS s t)) := by
  obtain ⟨F, F2, ⟨mb, rb, K, x⟩, -⟩ := h.sto
  exact ssnap_any t w x
theorem Ps2.lt (h : Ps2 W w L g s g2 s2) : g < w.heap.size := by obtain ⟨F, F2, k1, -⟩ := h.sto; exact k1.lt
/-- Both were made one behind the other. -/
theorem Ps2.made (h : Ps W w [] g s fun _ => False) (h2 : Ps w w' [] g2 s2 fun _ => False) : Ps2 W w' [] g s g2 s2 := by
  obtain ⟨F, k1, k2, -⟩ := h.sto
  obtain ⟨F2, q1, q2, -⟩ := h2.sto
  refine ⟨⟨h.st.below.trans (h2.st.below.mono h.st.below.size), fun r hr => (by cases hr)⟩, F, F2, k1.call h2.st.below, q1, fun b hb => ⟨k2 b hb, fun hf => ?_⟩, fun b hb => ?_, fun r hr => (by cases hr)⟩
  · have h3 := q2 b hf
    have h4 := k1.low hb
    omega
  · have h3 := q2 b hb
    have h4 := h.st.below.size
    omega
end
/-- A store behind none, one or two of two puts, beside another one. -/
structure Tw (W x : World) (L : List Row) (g : Nat) (s0 s1 s2 : Sto) (g2 : Nat) (z : Sto) (a b : Bool) : Prop where
  ps : Ps2 W x L g (stg s0 s1 s2 a b) g2 z
  ord : b = true → a = true
section
variable {W x y : World} {L : List Row} {g g2 : Nat} {s0 s1 s2 z : Sto} {a b : Bool}
theorem Tw.start (h : Ps2 W x L g s0 g2 z) : Tw W x L g s0 s1 s2 g2 z false false := ⟨h, fun h => by cases h⟩
theorem Tw.first (h : Tw W x L g s0 s1 s2 g2 z false b) : b = false ∧ Ps2 W x L g s0 g2 z := by
  cases b with
  | false => exact ⟨rfl, h.ps⟩
  | true => cases h.ord rfl
theorem Tw.one (h : Ps2 W y L g s1 g2 z) : Tw W y L g s0 s1 s2 g2 z true false := ⟨h, fun _ => rfl⟩
theorem Tw.second (h : Tw W x L g s0 s1 s2 g2 z true false) : Ps2 W x L g s1 g2 z := h.ps
theorem Tw.two (h : Ps2 W y L g s2 g2 z) : Tw W y L g s0 s1 s2 g2 z true true := ⟨h, fun _ => rfl⟩
theorem Tw.fin (h : Tw W x L g s0 s1 s2 g2 z true true) : Ps2 W x L g s2 g2 z := h.ps
end
end Go.Proofs.Ytcpcepbjdohdmaa
