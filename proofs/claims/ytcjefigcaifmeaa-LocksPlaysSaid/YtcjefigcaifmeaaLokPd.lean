/- Locks: where LocksPlays stands: the program's table beside the document's, which go together. -/
import Derived.Test.YtcjefigcaifmeaaLokEw
namespace Go.Proofs.Ytcjefigcaifmeaa
open Go.ChangeShapes Go.WideShapes Go.ChangeAt Go.RowKit Go.Lk
set_option linter.unusedVariables false
set_option linter.unusedSimpArgs false
set_option maxRecDepth 100000
structure Pd (W w : World) (L : List Row) (g : Nat) (s : Tb) (p : Nat) (vh vw vd : Value) (H Wt : List Rw) (D : List Int) (n : Nat) : Prop where
  t : Ts W w L W.heap.size p vh vw vd H Wt D
  tab : ∃ F, Tab w g s F ∧ ∀ b, F b → W.heap.size ≤ b
  ty : ∀ r ∈ L, Okt r.2.1
  fine : Fine s
  few : cntT s ≤ n
section
variable {W w w' : World} {L L' : List Row} {g : Nat} {s s' : Tb} {p : Nat} {vh vw vd : Value} {H Wt : List Rw} {D : List Int} {n m : Nat}
theorem Pd.call (h : Pd W w L g s p vh vw vd H Wt D n) (hb : Below w.heap.size w w') : Pd W w' L g s p vh vw vd H Wt D n := by
  obtain ⟨F, k1, k2⟩ := h.tab
  exact ⟨h.t.call hb, ⟨F, k1.call hb, k2⟩, h.ty, h.fine, h.few⟩
theorem Pd.few' (h : Pd W w L g s p vh vw vd H Wt D n) (hl : ∀ r ∈ L', r ∈ L) : Pd W w L' g s p vh vw vd H Wt D n := ⟨h.t.few hl, h.tab, fun r hr => h.ty r (hl r hr), h.fine, h.few⟩
theorem Pd.alloc (h : Pd W w L g s p vh vw vd H Wt D n) (q : Nat) (hq : q = w.heap.size) (t : TypeId) (cs : Array Value) (ht : Okt t) : Pd W (w.alloc (.cells cs t)) ((q, t, cs) :: L) g s p vh vw vd H Wt D n := by
  obtain ⟨F, k1, k2⟩ := h.tab
  exact ⟨h.t.alloc q hq t cs, ⟨F, k1.call ((Below.refl _ _).alloc (Nat.le_refl _) _), k2⟩, fun r hr => by
    rcases List.mem_cons.1 hr with rfl | hr
    · exact ht
    · exact h.ty r hr, h.fine, h.few⟩
/-- A cell of a block that is no table's is told anew. -/
theorem tab_set {w : World} {g : Nat} {s : Tb} {F : Nat → Prop} (k : Tab w g s F) {q : Nat} {t : TypeId} {cs : Array Value} (hq : Whole w q t cs) (ht : Okt t) (i : Nat) (u : Value) : Tab (w.setCell ⟨q, i, none⟩ u) g s F :=
  k.off ((Off.refl (fun b => b = q) w).set (p := ⟨q, i, none⟩) (.inl rfl) u) fun b hb e => k.away hq ht (e ▸ hb)
theorem Pd.set0 {q : Nat} {t : TypeId} {cs : Array Value} (h : Pd W w ((q, t, cs) :: L) g s p vh vw vd H Wt D n) (hq : W.heap.size ≤ q) (hd : ∀ r ∈ L, r.1 ≠ q) (h1 : t ≠ 74) (h2 : t ≠ 3) (i : Nat) (u : Value) : Pd W (w.setCell ⟨q, i, none⟩ u) ((q, t, cs.setIfInBounds i u) :: L) g s p vh vw vd H Wt D n := by
  obtain ⟨F, k1, k2⟩ := h.tab
  exact ⟨h.t.set0 hq hd h1 h2 i u, ⟨F, tab_set k1 (h.t.st.knows _ (List.mem_cons_self ..)) (h.ty _ (List.mem_cons_self ..)) i u, k2⟩, fun r hr => by
    rcases List.mem_cons.1 hr with rfl | hr
    · exact h.ty (q, t, cs) (List.mem_cons_self ..)
    · exact h.ty r (List.mem_cons_of_mem _ hr), h.fine, h.few⟩
/-- The document's table is told anew. -/
theorem Pd.set3 (h : Pd W w L g s p vh vw vd H Wt D n) {vh' vw' vd' : Value} {H' Wt' : List Rw} {D' : List Int} (h1 : OwR w W.heap.size vh' H') (h2 : OwR w W.heap.size vw' Wt') (h3 : OwD w W.heap.size vd' D') :
    Pd W (((w.setCell ⟨p, 0, none⟩ vh').setCell ⟨p, 1, none⟩ vw').setCell ⟨p, 2, none⟩ vd') L g s p vh' vw' vd' H' Wt' D' n := by
  obtain ⟨F, k1, k2⟩ := h.tab
  have a0 := h.t.box
  exact ⟨h.t.set3 h1 h2 h3, ⟨F, tab_set (tab_set (tab_set k1 a0 (by decide) 0 vh') (a0.set 0 vh') (by decide) 1 vw') ((a0.set 0 vh').set 1 vw') (by decide) 2 vd', k2⟩, h.ty, h.fine, h.few⟩
theorem own_away {w : World} {g : Nat} {s : Tb} {F : Nat → Prop} (k : Tab w g s F) {B size n : Nat} {e : TypeId} {v : Value} {xs : List Value} (h : w.ownsRow B e size v n xs) (ht : Okt e) : ∀ b, v.ownBlock = some b → ¬ F b := fun b hb hf => by
  rcases h.2 with ⟨rfl, _⟩ | ⟨g', cap, cur, rfl, _, hh, _⟩
  · simp [Value.ownBlock] at hb
  · have : g' = b := by simpa [Value.ownBlock] using hb
    subst this
    exact k.away hh ht hf
/-- The program's table was told something. -/
theorem Pd.went {F : Nat → Prop} (h : Pd W w L g s p vh vw vd H Wt D n) (k1 : Tab w g s F) (k2 : ∀ b, F b → W.heap.size ≤ b) (hm : WentT F w w' g s') (hf : Fine s') (hc : cntT s' ≤ m) : Pd W w' L g s' p vh vw vd H Wt D m := by
  obtain ⟨ho, F', hF', hd⟩ := hm
  have hWw := h.t.st.below.size
  refine ⟨⟨⟨h.t.st.below.trans (ho.below hWw k2), fun r hr => ho.whole (h.t.st.knows r hr) (k1.away (h.t.st.knows r hr) (h.ty r hr))⟩, h.t.far, ho.whole h.t.box (k1.away h.t.box (by decide)), own_off h.t.hh ho (own_away k1 h.t.hh (by decide)), own_off h.t.hw ho (own_away k1 h.t.hw (by decide)), own_off h.t.hd ho (own_away k1 h.t.hd (by decide))⟩, ⟨F', hd, fun b hb => ?_⟩, h.ty, hf, hc⟩
  rcases hF' b hb with h1 | h1
  · exact k2 b h1
  · omega
theorem pdask (x k : Int) (b : Bool) (hx : W64 x) (hk : W64 k) (h : Pd W w L g s p vh vw vd H Wt D n) (hn : n + 1 ≤ 100000) :
    Calls Try.prog 6 #[ptr g, .int .i64 x, .int .i64 k, .bool b] w fun e w' => ∃ A cap A' cap', e = .returned (.tuple #[.agg #[.bool (askA s x b k).granted, .slice A (askA s x b k).wounded.length cap, .slice A' (askA s x b k).woken.length cap'], .int .i64 (askE s x k)]) ∧
      Pd W w' L g (askS s x b k) p vh vw vd H Wt D (n + 1) ∧ w.heap.size ≤ w'.heap.size ∧ w'.ownsRow w.heap.size 3 1 (.slice A (askA s x b k).wounded.length cap) (askA s x b k).wounded.length ((askA s x b k).wounded.map (Value.int .i64)) ∧
      w'.ownsRow w.heap.size 57 2 (.slice A' (askA s x b k).woken.length cap') (askA s x b k).woken.length (flat encG (askA s x b k).woken) := by
  obtain ⟨F, k1, k2⟩ := h.tab
  have k1' := k1
  obtain ⟨loc, rfl, T, hF⟩ := k1
  obtain rfl := foot_eq hF
  have hc := h.few
  exact (lask_any x k b hx hk w T h.fine (by omega)).mono fun e w' ⟨A, cap, A', cap', h1, h2, h3, h4⟩ => ⟨A, cap, A', cap', h1, h.went k1' k2 h2 (h.fine.ask hx.2) (Nat.le_trans (cnt_ask h.fine hx.2) (by omega)), h2.off.size, h3, h4⟩
theorem pdend (x : Int) (hx : W64 x) (h : Pd W w L g s p vh vw vd H Wt D n) (hn : n ≤ 100000) :
    Calls Try.prog 10 #[ptr g, .int .i64 x] w fun e w' => ∃ A cap, e = .returned (.tuple #[.slice A (endA s x).length cap, .int .i64 (if x < 1 then 130 else 0)]) ∧ Pd W w' L g (endS s x) p vh vw vd H Wt D n ∧ w.heap.size ≤ w'.heap.size ∧
      w'.ownsRow w.heap.size 57 2 (.slice A (endA s x).length cap) (endA s x).length (flat encG (endA s x)) := by
  obtain ⟨F, k1, k2⟩ := h.tab
  have k1' := k1
  obtain ⟨loc, rfl, T, hF⟩ := k1
  obtain rfl := foot_eq hF
  have hc := h.few
  exact (lend_any x hx w T h.fine (by omega)).mono fun e w' ⟨A, cap, h1, h2, h3⟩ => ⟨A, cap, h1, h.went k1' k2 h2 (h.fine.end x) (Nat.le_trans (cnt_end h.fine x) hc), h2.off.size, h3⟩
theorem pdholds (k : Int) (hk : W64 k) (h : Pd W w L g s p vh vw vd H Wt D n) (hn : n ≤ 100000) :
    Calls Try.prog 15 #[ptr g, .int .i64 k] w fun e w' => ∃ A cap, e = .returned (.slice A (supp (s.h k)).length cap) ∧ Below w.heap.size w w' ∧ w'.ownsRow w.heap.size 60 2 (.slice A (supp (s.h k)).length cap) (supp (s.h k)).length (flat (encH (fl (s.h k))) (supp (s.h k))) := by
  obtain ⟨F, ⟨loc, rfl, T, hF⟩, k2⟩ := h.tab
  have hc := h.few
  exact lholds_any k hk w T h.fine (by omega)
theorem pdwaits (k : Int) (hk : W64 k) (h : Pd W w L g s p vh vw vd H Wt D n) (hn : n ≤ 100000) :
    Calls Try.prog 16 #[ptr g, .int .i64 k] w fun e w' => ∃ A cap, e = .returned (.slice A (supp (s.w k)).length cap) ∧ Below w.heap.size w w' ∧ w'.ownsRow w.heap.size 60 2 (.slice A (supp (s.w k)).length cap) (supp (s.w k)).length (flat (encH (fl (s.w k))) (supp (s.w k))) := by
  obtain ⟨F, ⟨loc, rfl, T, hF⟩, k2⟩ := h.tab
  have hc := h.few
  exact lwaits_any k hk w T h.fine (by omega)
theorem pddead (x : Int) (hx : W64 x) (h : Pd W w L g s p vh vw vd H Wt D n) : Calls Try.prog 13 #[ptr g, .int .i64 x] w fun e w' => e = .returned (.bool (s.dead x)) ∧ w' = w := by
  obtain ⟨F, ⟨loc, rfl, T, hF⟩, k2⟩ := h.tab
  exact ldead_any x hx w T h.fine
end
/-- Of, as rows of holds. -/
theorem of_len {l : List Rw} {h : Int → Lk.Fn} (r : Rel l h) (k : Int) : (ofR l k).length = (supp (h k)).length := by
  have : ofR l k = rowOf (h k) := of_rel r k
  rw [this]
  unfold rowOf
  rw [List.length_map]
theorem of_flat {l : List Rw} {h : Int → Lk.Fn} (r : Rel l h) (k : Int) : flat encP (ofR l k) = flat (encH (fl (h k))) (supp (h k)) := by
  have : ofR l k = rowOf (h k) := of_rel r k
  rw [this]
  exact flat_rowOf _
/-- Of, told of a list that goes with the table's. -/
theorem rof_rel (A : Option Addr) (cap : Nat) (l : List Rw) (h : Int → Lk.Fn) (r : Rel l h) (x : Int) (w : World) (hs : Sees w w.heap.size 3 A l.length (flat encR l)) (hl : l.length ≤ 100000) :
    Calls Try.prog 28 #[.slice A l.length cap, .int .i64 x] w fun e w' => ∃ A cap, e = .returned (.slice A (supp (h x)).length cap) ∧ Below w.heap.size w w' ∧ w'.ownsRow w.heap.size 60 2 (.slice A (supp (h x)).length cap) (supp (h x)).length (flat (encH (fl (h x))) (supp (h x))) := by
  refine (rof_any A cap l x w hs hl).mono ?_
  rintro e w' ⟨v', rfl, ho, hb⟩
  rw [of_len r, of_flat r] at ho
  obtain ⟨A', c', rfl, -⟩ := own_slice0 ho
  exact ⟨A', c', rfl, hb, ho⟩
end Go.Proofs.Ytcjefigcaifmeaa
