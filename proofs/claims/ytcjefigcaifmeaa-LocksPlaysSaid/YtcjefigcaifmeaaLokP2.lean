/- Locks: two tables side by side, and known blocks beside them (LocksOwn). -/
import Derived.Test.YtcjefigcaifmeaaLokEn
namespace Go.Proofs.Ytcjefigcaifmeaa
open Go.ChangeShapes Go.WideShapes Go.ChangeAt Go.RowKit Go.Lk
set_option linter.unusedVariables false
set_option linter.unusedSimpArgs false
set_option maxRecDepth 100000

/-- A block of cells that is a table's is its face, or a party. -/
theorem Tab.kind {w : World} {g : Nat} {s : Tb} {F : Nat → Prop} (x : Tab w g s F) {b : Nat} (hb : F b) {cs : Array Value} {t : TypeId} {fr : Nat × Nat} (h : w.heap[b]? = some (.cells cs t fr)) : t = 53 ∨ t = 69 := by
  obtain ⟨loc, h1, T, h3⟩ := x
  obtain ⟨a, ha, rfl⟩ := (h3 b).1 hb
  have hh := T.has a ha
  have key : ∀ {t' : TypeId} {cs' : Array Value}, Whole w (loc a) t' cs' → t = t' := fun {t' cs'} k => by
    have e := h.symm.trans (show w.heap[loc a]? = _ from k)
    injection e with e
    injection e with e1 e2
  cases a with
  | face => exact .inl (key hh)
  | rows => exact absurd rfl (Mv.notCells hh h)
  | pars => exact absurd rfl (Mv.notCells hh h)
  | h k => exact absurd rfl (Mv.notCells hh h)
  | w k => exact absurd rfl (Mv.notCells hh h)
  | p x => exact .inr (key hh)
  | ks x => exact absurd rfl (Mv.notCells hh h)
def Okt (t : TypeId) : Prop := t ≠ 53 ∧ t ≠ 69
instance (t : TypeId) : Decidable (Okt t) := by unfold Okt; exact inferInstance
theorem Tab.away {w : World} {g : Nat} {s : Tb} {F : Nat → Prop} (x : Tab w g s F) {q : Nat} {t : TypeId} {cs : Array Value} (h : Whole w q t cs) (ht : Okt t) : ¬ F q := fun hf => by
  rcases x.kind hf h with e | e
  · exact ht.1 e
  · exact ht.2 e
/-- Where a law with two tables stands: nothing of W has changed, these blocks are known, none of which is a table's. -/
structure Pk2 (W w : World) (L : List Row) (g : Nat) (s : Tb) (g2 : Nat) (s2 : Tb) (n : Nat) : Prop where
  st : St W w L
  ty : ∀ r ∈ L, Okt r.2.1
  tabs : ∃ F F2, Tab w g s F ∧ Tab w g2 s2 F2 ∧ (∀ b, F b → W.heap.size ≤ b ∧ ¬ F2 b) ∧ ∀ b, F2 b → W.heap.size ≤ b
  fine : Fine s ∧ Fine s2
  few : cntT s ≤ n ∧ cntT s2 ≤ n
section
variable {W w w' : World} {L L' : List Row} {g : Nat} {s s' : Tb} {g2 : Nat} {s2 : Tb} {n m : Nat}
theorem Pk2.le (h : Pk2 W w L g s g2 s2 n) (hm : n ≤ m) : Pk2 W w L g s g2 s2 m := ⟨h.st, h.ty, h.tabs, h.fine, ⟨Nat.le_trans h.few.1 hm, Nat.le_trans h.few.2 hm⟩⟩
theorem Pk2.swap (h : Pk2 W w L g s g2 s2 n) : Pk2 W w L g2 s2 g s n := by
  obtain ⟨F, F2, k1, k2, k3, k4⟩ := h.tabs
  exact ⟨h.st, h.ty, ⟨F2, F, k2, k1, fun b hb => ⟨k4 b hb, fun hf => (k3 b hf).2 hb⟩, fun b hb => (k3 b hb).1⟩, h.fine.symm, h.few.symm⟩
theorem Pk2.call (h : Pk2 W w L g s g2 s2 n) (hb : Below w.heap.size w w') : Pk2 W w' L g s g2 s2 n := by
  obtain ⟨F, F2, k1, k2, k3, k4⟩ := h.tabs
  exact ⟨h.st.call hb, h.ty, ⟨F, F2, k1.call hb, k2.call hb, k3, k4⟩, h.fine, h.few⟩
theorem Pk2.drewN (h : Pk2 W w L g s g2 s2 n) (j : Nat) : Pk2 W (w.drewN j) L g s g2 s2 n := h.call (drew_below w j)
theorem Pk2.keep (h : Pk2 W w L g s g2 s2 n) (hl : ∀ r ∈ L', r ∈ L) : Pk2 W w L' g s g2 s2 n := ⟨⟨h.st.below, fun r hr => h.st.knows r (hl r hr)⟩, fun r hr => h.ty r (hl r hr), h.tabs, h.fine, h.few⟩
theorem Pk2.row (h : Pk2 W w L g s g2 s2 n) {q : Nat} {t : TypeId} {cs : Array Value} (hw : Whole w q t cs) (ht : Okt t) : Pk2 W w ((q, t, cs) :: L) g s g2 s2 n :=
  ⟨⟨h.st.below, fun r hr => by
    rcases List.mem_cons.1 hr with rfl | hr
    · exact hw
    · exact h.st.knows r hr⟩, fun r hr => by
    rcases List.mem_cons.1 hr with rfl | hr
    · exact ht
    · exact h.ty r hr, h.tabs, h.fine, h.few⟩
theorem Pk2.alloc (h : Pk2 W w L g s g2 s2 n) (x : Nat) (hx : x = w.heap.size) (t : TypeId) (cs : Array Value) (ht : Okt t) : Pk2 W (w.alloc (.cells cs t)) ((x, t, cs) :: L) g s g2 s2 n := by
  subst hx
  exact (h.call ((Below.refl _ _).alloc (Nat.le_refl _) _)).row (Whole.fresh w t cs) ht
/-- A known block is told something. -/
theorem Pk2.set0 {x : Nat} {t : TypeId} {cs : Array Value} (h : Pk2 W w ((x, t, cs) :: L) g s g2 s2 n) (hx : W.heap.size ≤ x) (hd : ∀ r ∈ L, r.1 ≠ x) (k : Nat) (u : Value) :
    Pk2 W (w.setCell ⟨x, k, none⟩ u) ((x, t, cs.setIfInBounds k u) :: L) g s g2 s2 n := by
  obtain ⟨F, F2, k1, k2, k3, k4⟩ := h.tabs
  have hkn : Whole w x t cs := h.st.knows _ (List.mem_cons_self ..)
  have ht := h.ty _ (List.mem_cons_self ..)
  have ho : Off (fun b => b = x) w (w.setCell ⟨x, k, none⟩ u) := (Off.refl (fun b => b = x) w).set (p := ⟨x, k, none⟩) (.inl rfl) u
  refine ⟨⟨h.st.below.setCell (p := ⟨x, k, none⟩) hx u, h.st.knows.set0 hd k u⟩, fun r hr => ?_, ⟨F, F2, k1.off ho fun b hb e => k1.away hkn ht (e ▸ hb), k2.off ho fun b hb e => k2.away hkn ht (e ▸ hb), k3, k4⟩, h.fine, h.few⟩
  rcases List.mem_cons.1 hr with rfl | hr
  · exact ht
  · exact h.ty r (List.mem_cons_of_mem _ hr)
theorem Pk2.set3 {x : Nat} {t : TypeId} {cs : Array Value} {r0 : Row} (h : Pk2 W w ((x, t, cs) :: r0 :: L) g s g2 s2 n) (hx : W.heap.size ≤ x) (hd : ∀ r ∈ r0 :: L, r.1 ≠ x) (u0 u1 u2 : Value) :
    Pk2 W (((w.setCell ⟨x, 0, none⟩ u0).setCell ⟨x, 1, none⟩ u1).setCell ⟨x, 2, none⟩ u2) L g s g2 s2 n :=
  (((h.set0 hx hd 0 u0).set0 hx hd 1 u1).set0 hx hd 2 u2).keep fun r hr => List.mem_cons_of_mem _ (List.mem_cons_of_mem _ hr)
/-- The first table was told something. -/
theorem Pk2.went {F F2 : Nat → Prop} (h : Pk2 W w L g s g2 s2 n) (k1 : Tab w g s F) (k2 : Tab w g2 s2 F2) (k3 : ∀ b, F b → W.heap.size ≤ b ∧ ¬ F2 b) (k4 : ∀ b, F2 b → W.heap.size ≤ b) (hm : WentT F w w' g s') (hf : Fine s') (hc : cntT s' ≤ m) (hnm : n ≤ m) : Pk2 W w' L g s' g2 s2 m := by
  obtain ⟨ho, F', hF', hd⟩ := hm
  have hWw := h.st.below.size
  refine ⟨⟨h.st.below.trans (ho.below hWw fun b hb => (k3 b hb).1), fun r hr => ho.whole (h.st.knows r hr) (k1.away (h.st.knows r hr) (h.ty r hr))⟩, h.ty, ⟨F', F2, hd, k2.off ho fun b hb hg => (k3 b hg).2 hb, fun b hb => ?_, k4⟩, ⟨hf, h.fine.2⟩, ⟨hc, Nat.le_trans h.few.2 hnm⟩⟩
  rcases hF' b hb with h1 | h1
  · exact k3 b h1
  · exact ⟨by omega, fun hf2 => by have := k2.low hf2; omega⟩
theorem Pk2.class (h : Pk2 W w L g s g2 s2 n) : ∃ C : World → Prop, C w.drew ∧ Hid (∀ a b, C a → Below a.heap.size a b → C b) ∧ Hid (∀ a, C a → Pk2 W a L g s g2 s2 n ∧ Below w.heap.size w a) :=
  ⟨fun a => Pk2 W a L g s g2 s2 n ∧ Below w.heap.size w a, ⟨h.drewN 1, drew_below w 1⟩, Lib.hid fun a b ha hb => ⟨ha.1.call hb, ha.2.trans (hb.mono ha.2.size)⟩, Lib.hid fun a ha => ha⟩
theorem k2ask (x k : Int) (b : Bool) (hx : W64 x) (hk : W64 k) (h : Pk2 W w L g s g2 s2 n) (hn : n + 1 ≤ 100000) :
    Calls Try.prog 6 #[ptr g, .int .i64 x, .int .i64 k, .bool b] w fun e w' => ∃ A cap A' cap', e = .returned (.tuple #[.agg #[.bool (askA s x b k).granted, .slice A (askA s x b k).wounded.length cap, .slice A' (askA s x b k).woken.length cap'], .int .i64 (askE s x k)]) ∧
      Pk2 W w' L g (askS s x b k) g2 s2 (n + 1) ∧ w.heap.size ≤ w'.heap.size ∧ w'.ownsRow w.heap.size 3 1 (.slice A (askA s x b k).wounded.length cap) (askA s x b k).wounded.length ((askA s x b k).wounded.map (Value.int .i64)) ∧
      w'.ownsRow w.heap.size 57 2 (.slice A' (askA s x b k).woken.length cap') (askA s x b k).woken.length (flat encG (askA s x b k).woken) := by
  obtain ⟨F, F2, k1, k2, k3, k4⟩ := h.tabs
  have k1' := k1
  obtain ⟨loc, rfl, T, hF⟩ := k1
  obtain rfl := foot_eq hF
  have hc := h.few.1
  exact (lask_any x k b hx hk w T h.fine.1 (by omega)).mono fun e w' ⟨A, cap, A', cap', h1, h2, h3, h4⟩ => ⟨A, cap, A', cap', h1, h.went k1' k2 k3 k4 h2 (h.fine.1.ask hx.2) (Nat.le_trans (cnt_ask h.fine.1 hx.2) (by omega)) (Nat.le_succ n), h2.off.size, h3, h4⟩
theorem k2end (x : Int) (hx : W64 x) (h : Pk2 W w L g s g2 s2 n) (hn : n ≤ 100000) :
    Calls Try.prog 10 #[ptr g, .int .i64 x] w fun e w' => ∃ A cap, e = .returned (.tuple #[.slice A (endA s x).length cap, .int .i64 (if x < 1 then 130 else 0)]) ∧ Pk2 W w' L g (endS s x) g2 s2 n ∧ w.heap.size ≤ w'.heap.size ∧
      w'.ownsRow w.heap.size 57 2 (.slice A (endA s x).length cap) (endA s x).length (flat encG (endA s x)) := by
  obtain ⟨F, F2, k1, k2, k3, k4⟩ := h.tabs
  have k1' := k1
  obtain ⟨loc, rfl, T, hF⟩ := k1
  obtain rfl := foot_eq hF
  have hc := h.few.1
  exact (lend_any x hx w T h.fine.1 (by omega)).mono fun e w' ⟨A, cap, h1, h2, h3⟩ => ⟨A, cap, h1, h.went k1' k2 k3 k4 h2 (h.fine.1.end x) (Nat.le_trans (cnt_end h.fine.1 x) hc) (Nat.le_refl n), h2.off.size, h3⟩
theorem k2holds (k : Int) (hk : W64 k) (h : Pk2 W w L g s g2 s2 n) (hn : n ≤ 100000) :
    Calls Try.prog 15 #[ptr g, .int .i64 k] w fun e w' => ∃ A cap, e = .returned (.slice A (supp (s.h k)).length cap) ∧ Below w.heap.size w w' ∧ w'.ownsRow w.heap.size 60 2 (.slice A (supp (s.h k)).length cap) (supp (s.h k)).length (flat (encH (fl (s.h k))) (supp (s.h k))) := by
  obtain ⟨F, F2, ⟨loc, rfl, T, hF⟩, k2⟩ := h.tabs
  have hc := h.few.1
  exact lholds_any k hk w T h.fine.1 (by omega)
theorem k2waits (k : Int) (hk : W64 k) (h : Pk2 W w L g s g2 s2 n) (hn : n ≤ 100000) :
    Calls Try.prog 16 #[ptr g, .int .i64 k] w fun e w' => ∃ A cap, e = .returned (.slice A (supp (s.w k)).length cap) ∧ Below w.heap.size w w' ∧ w'.ownsRow w.heap.size 60 2 (.slice A (supp (s.w k)).length cap) (supp (s.w k)).length (flat (encH (fl (s.w k))) (supp (s.w k))) := by
  obtain ⟨F, F2, ⟨loc, rfl, T, hF⟩, k2⟩ := h.tabs
  have hc := h.few.1
  exact lwaits_any k hk w T h.fine.1 (by omega)
/-- Both were made, one behind the other. -/
theorem Pk2.made (h : Pk W w [] g s (fun _ => False) n) (h2 : Pk w w' [] g2 s2 (fun _ => False) n) : Pk2 W w' [] g s g2 s2 n := by
  obtain ⟨F, k1, k2, -⟩ := h.tab
  obtain ⟨F2, q1, q2, -⟩ := h2.tab
  have hb := h2.st.below
  refine ⟨⟨h.st.below.trans (hb.mono h.st.below.size), fun r hr => (by cases hr)⟩, fun r hr => (by cases hr), ⟨F, F2, k1.call hb, q1, fun b hb2 => ⟨k2 b hb2, fun hf => ?_⟩, fun b hb2 => ?_⟩, ⟨h.fine, h2.fine⟩, ⟨h.few, h2.few⟩⟩
  · have a1 := q2 b hf
    have a2 := k1.low hb2
    omega
  · have a1 := q2 b hb2
    have a2 := h.st.below.size
    omega
/-- Of a row that was told: it lies nowhere, or in a block of cells that is known whole. -/
theorem Pk2.told (h : Pk2 W w L g s g2 s2 n) {B size k cap : Nat} {t : TypeId} {A : Option Addr} {xs : List Value} (ho : w.ownsRow B t size (.slice A k cap) k xs) (ht : Okt t) :
    k = 0 ∨ ∃ q cs, A = some ⟨q, 0, none⟩ ∧ B ≤ q ∧ k * size ≤ cs.size ∧ (cs.toList.take (k * size) = xs) ∧ Pk2 W w ((q, t, cs) :: L) g s g2 s2 n := by
  rcases ho.2 with ⟨h0, h1⟩ | ⟨g', cap', cur, hv, hb, hg, h1, h2, h3, h4⟩
  · exact .inl h1
  · simp only [Value.slice.injEq, true_and] at hv
    obtain ⟨rfl, rfl⟩ := hv
    exact .inr ⟨g', cur, rfl, hb, by rw [h3]; exact Nat.mul_le_mul_right _ h1, h4, h.row hg ht⟩
end
end Go.Proofs.Ytcjefigcaifmeaa
