/- Layer 13: where a law stands; a call of a law; awake. -/
import Derived.Test.YtcjefigcaifmeaaLokA
import Derived.Test.YtcjefigcaifmeaaLokC
import Derived.Test.YtcjefigcaifmeaaOpen
namespace Go.Proofs.Ytcjefigcaifmeaa
open Go.ChangeShapes Go.WideShapes Go.ChangeAt Go.RowKit Go.Lk
set_option linter.unusedVariables false
set_option linter.unusedSimpArgs false
set_option maxRecDepth 100000

theorem own_lessB {y : World} {B g size n : Nat} {e : TypeId} {v : Value} {xs : List Value} (h : y.ownsRow g e size v n xs) (hB : B ≤ g) : y.ownsRow B e size v n xs := by
  refine ⟨h.1, ?_⟩
  rcases h.2 with hn | ⟨g', cap, cur, e1, hb, r⟩
  · exact .inl hn
  · exact .inr ⟨g', cap, cur, e1, Nat.le_trans hB hb, r⟩
theorem cnt_ask {s : Tb} (m : Fine s) {x k : Int} {b : Bool} (hx : x ≤ 9223372036854775807) : cntT (askS s x b k) ≤ cntT s + 1 := by
  have m2 : Fine (askS s x b k) := m.ask hx
  refine len_sub (l := supp (innF (askS s x b k))) (m := x :: supp (innF s)) (supp_rises m2.fin).nodup fun y hy => ?_
  rw [supp_mem m2.fin, innF_iff] at hy
  by_cases e : y = x
  · rw [e]; exact List.mem_cons_self ..
  · refine List.mem_cons_of_mem _ ((supp_mem m.fin y).2 ((innF_iff s y).2 ?_))
    unfold askS at hy
    split at hy
    · rwa [askT_inn, if_neg e] at hy
    · exact hy
theorem cnt_end {s : Tb} (m : Fine s) (x : Int) : cntT (endS s x) ≤ cntT s := supp_less m.fin (m.end x).fin fun y hy => by
  rw [innF_iff] at hy ⊢
  by_cases h : x < 1 ∨ s.inn x = false
  · unfold endS at hy; rwa [if_pos h] at hy
  · rw [endS_inn _ _ _ h] at hy
    split at hy
    · cases hy
    · exact hy
/-- Where a law stands: nothing of W has changed, these blocks are known, block g is the table s, none of whose blocks is one of W, of these or of Y. -/
structure Pk (W w : World) (L : List Row) (g : Nat) (s : Tb) (Y : Nat → Prop) (n : Nat) : Prop where
  st : St W w L
  tab : ∃ F, Tab w g s F ∧ (∀ b, F b → W.heap.size ≤ b) ∧ (∀ r ∈ L, ¬ F r.1) ∧ ∀ b, Y b → ¬ F b
  low : ∀ b, Y b → b < w.heap.size
  fine : Fine s
  few : cntT s ≤ n
section
variable {W w w' : World} {L L' : List Row} {g : Nat} {s s' : Tb} {Y Y' : Nat → Prop} {n : Nat}
theorem Pk.call (h : Pk W w L g s Y n) (hb : Below w.heap.size w w') : Pk W w' L g s Y n := by
  obtain ⟨F, k1, k2, k3, k4⟩ := h.tab
  exact ⟨h.st.call hb, ⟨F, k1.call hb, k2, k3, k4⟩, fun b hY => Nat.lt_of_lt_of_le (h.low b hY) hb.size, h.fine, h.few⟩
theorem Pk.drewN (h : Pk W w L g s Y n) (j : Nat) : Pk W (w.drewN j) L g s Y n := h.call (drew_below w j)
theorem Pk.keep (h : Pk W w L g s Y n) (hl : ∀ r ∈ L', r ∈ L) : Pk W w L' g s Y n := by
  obtain ⟨F, k1, k2, k3, k4⟩ := h.tab
  exact ⟨⟨h.st.below, fun r hr => h.st.knows r (hl r hr)⟩, ⟨F, k1, k2, fun r hr => k3 r (hl r hr), k4⟩, h.low, h.fine, h.few⟩
theorem Pk.alloc (h : Pk W w L g s Y n) (x : Nat) (hx : x = w.heap.size) (t : TypeId) (cs : Array Value) : Pk W (w.alloc (.cells cs t)) ((x, t, cs) :: L) g s Y n := by
  obtain ⟨F, k1, k2, k3, k4⟩ := h.tab
  have hb : Below w.heap.size w (w.alloc (.cells cs t)) := (Below.refl _ _).alloc (Nat.le_refl _) _
  exact ⟨h.st.alloc x hx t cs, ⟨F, k1.call hb, k2, fun r hr => by
    rcases List.mem_cons.1 hr with rfl | hr
    · intro hf
      have := k1.low hf
      simp only at this
      omega
    · exact k3 r hr, k4⟩, fun b hY => Nat.lt_of_lt_of_le (h.low b hY) hb.size, h.fine, h.few⟩
theorem Pk.more (h : Pk W w L g s Y n) (hb : Below w.heap.size w w') (hY : ∀ b, Y' b → Y b ∨ w.heap.size ≤ b ∧ b < w'.heap.size) : Pk W w' L g s Y' n := by
  obtain ⟨F, k1, k2, k3, k4⟩ := h.tab
  refine ⟨h.st.call hb, ⟨F, k1.call hb, k2, k3, fun b hb2 hf => ?_⟩, fun b hb2 => ?_, h.fine, h.few⟩
  · rcases hY b hb2 with h1 | h1
    · exact k4 b h1 hf
    · have := k1.low hf; omega
  · rcases hY b hb2 with h1 | h1
    · exact Nat.lt_of_lt_of_le (h.low b h1) hb.size
    · exact h1.2
/-- A known block is told something. -/
theorem Pk.set0 {x : Nat} {t : TypeId} {cs : Array Value} (h : Pk W w ((x, t, cs) :: L) g s Y n) (hx : W.heap.size ≤ x) (hd : ∀ r ∈ L, r.1 ≠ x) (k : Nat) (u : Value) :
    Pk W (w.setCell ⟨x, k, none⟩ u) ((x, t, cs.setIfInBounds k u) :: L) g s Y n := by
  obtain ⟨F, k1, k2, k3, k4⟩ := h.tab
  have hxf := k3 _ (List.mem_cons_self ..)
  have ho : Off (fun b => b = x) w (w.setCell ⟨x, k, none⟩ u) := (Off.refl (fun b => b = x) w).set (p := ⟨x, k, none⟩) (.inl rfl) u
  refine ⟨⟨h.st.below.setCell (p := ⟨x, k, none⟩) hx u, h.st.knows.set0 hd k u⟩, ⟨F, k1.off ho fun b hb e => hxf (e ▸ hb), k2, fun r hr => ?_, k4⟩, fun b hb => by simpa using h.low b hb, h.fine, h.few⟩
  rcases List.mem_cons.1 hr with rfl | hr
  · exact hxf
  · exact k3 r (List.mem_cons_of_mem _ hr)
/-- Blocks that are none of the table's change. -/
theorem Pk.off {G : Nat → Prop} (h : Pk W w L g s Y n) (ho : Off G w w') (hW : ∀ b, G b → W.heap.size ≤ b) (hL : ∀ r ∈ L, ¬ G r.1) (hG : ∀ b, G b → Y b) : Pk W w' L g s Y n := by
  obtain ⟨F, k1, k2, k3, k4⟩ := h.tab
  exact ⟨⟨h.st.below.trans (ho.below h.st.below.size hW), fun r hr => ho.whole (h.st.knows r hr) (hL r hr)⟩, ⟨F, k1.off ho fun b hb hg => k4 b (hG b hg) hb, k2, k3, k4⟩, fun b hb => Nat.lt_of_lt_of_le (h.low b hb) ho.size, h.fine, h.few⟩
/-- The table was told something. -/
theorem Pk.went {F : Nat → Prop} {m : Nat} (h : Pk W w L g s Y n) (hF : (∀ b, F b → W.heap.size ≤ b) ∧ (∀ r ∈ L, ¬ F r.1) ∧ ∀ b, Y b → ¬ F b) (hm : WentT F w w' g s') (hf2 : Fine s') (hc : cntT s' ≤ m) : Pk W w' L g s' Y m := by
  obtain ⟨k2, k3, k4⟩ := hF
  obtain ⟨ho, F', hF', hd⟩ := hm
  have hWw := h.st.below.size
  refine ⟨⟨h.st.below.trans (ho.below hWw k2), fun r hr => ho.whole (h.st.knows r hr) (k3 r hr)⟩, ⟨F', hd, fun b hb => ?_, fun r hr hf => ?_, fun b hb hf => ?_⟩, fun b hb => Nat.lt_of_lt_of_le (h.low b hb) ho.size, hf2, hc⟩
  · rcases hF' b hb with h1 | h1
    · exact k2 b h1
    · omega
  · rcases hF' _ hf with h1 | h1
    · exact k3 r hr h1
    · have := (h.st.knows r hr).lt; omega
  · rcases hF' _ hf with h1 | h1
    · exact k4 b hb h1
    · have := h.low b hb; omega
/-- The worlds in which the same is known, as a class of which nothing else is told. -/
theorem Pk.class (h : Pk W w L g s Y n) : ∃ C : World → Prop, C w.drew ∧ Hid (∀ a b, C a → Below a.heap.size a b → C b) ∧ Hid (∀ a, C a → Pk W a L g s Y n ∧ Below w.heap.size w a) :=
  ⟨fun a => Pk W a L g s Y n ∧ Below w.heap.size w a, ⟨h.drewN 1, drew_below w 1⟩, Lib.hid fun a b ha hb => ⟨ha.1.call hb, ha.2.trans (hb.mono ha.2.size)⟩, Lib.hid fun a ha => ha⟩
theorem foot_eq {F : Nat → Prop} {loc : Nm → Nat} (h : ∀ b, F b ↔ Foot s loc b) : F = Foot s loc := funext fun b => propext (h b)
theorem kask (x k : Int) (b : Bool) (hx : W64 x) (hk : W64 k) (h : Pk W w L g s Y n) (hn : n + 1 ≤ 100000) :
    Calls Try.prog 6 #[ptr g, .int .i64 x, .int .i64 k, .bool b] w fun e w' => ∃ A cap A' cap', e = .returned (.tuple #[.agg #[.bool (askA s x b k).granted, .slice A (askA s x b k).wounded.length cap, .slice A' (askA s x b k).woken.length cap'], .int .i64 (askE s x k)]) ∧
      Pk W w' L g (askS s x b k) Y (n + 1) ∧ w.heap.size ≤ w'.heap.size ∧ w'.ownsRow w.heap.size 3 1 (.slice A (askA s x b k).wounded.length cap) (askA s x b k).wounded.length ((askA s x b k).wounded.map (Value.int .i64)) ∧
      w'.ownsRow w.heap.size 57 2 (.slice A' (askA s x b k).woken.length cap') (askA s x b k).woken.length (flat encG (askA s x b k).woken) := by
  obtain ⟨F, ⟨loc, rfl, T, hF⟩, k2⟩ := h.tab
  obtain rfl := foot_eq hF
  have hc := h.few
  exact (lask_any x k b hx hk w T h.fine (by omega)).mono fun e w' ⟨A, cap, A', cap', h1, h2, h3, h4⟩ => ⟨A, cap, A', cap', h1, h.went k2 h2 (h.fine.ask hx.2) (Nat.le_trans (cnt_ask h.fine hx.2) (by omega)), h2.off.size, h3, h4⟩
theorem kend (x : Int) (hx : W64 x) (h : Pk W w L g s Y n) (hn : n ≤ 100000) :
    Calls Try.prog 10 #[ptr g, .int .i64 x] w fun e w' => ∃ A cap, e = .returned (.tuple #[.slice A (endA s x).length cap, .int .i64 (if x < 1 then 130 else 0)]) ∧ Pk W w' L g (endS s x) Y n ∧ w.heap.size ≤ w'.heap.size ∧
      w'.ownsRow w.heap.size 57 2 (.slice A (endA s x).length cap) (endA s x).length (flat encG (endA s x)) := by
  obtain ⟨F, ⟨loc, rfl, T, hF⟩, k2⟩ := h.tab
  obtain rfl := foot_eq hF
  have hc := h.few
  exact (lend_any x hx w T h.fine (by omega)).mono fun e w' ⟨A, cap, h1, h2, h3⟩ => ⟨A, cap, h1, h.went k2 h2 (h.fine.end x) (Nat.le_trans (cnt_end h.fine x) hc), h2.off.size, h3⟩
theorem kholds (k : Int) (hk : W64 k) (h : Pk W w L g s Y n) (hn : n ≤ 100000) :
    Calls Try.prog 15 #[ptr g, .int .i64 k] w fun e w' => ∃ A cap, e = .returned (.slice A (supp (s.h k)).length cap) ∧ Below w.heap.size w w' ∧ w'.ownsRow w.heap.size 60 2 (.slice A (supp (s.h k)).length cap) (supp (s.h k)).length (flat (encH (fl (s.h k))) (supp (s.h k))) := by
  obtain ⟨F, ⟨loc, rfl, T, hF⟩, k2⟩ := h.tab
  have hc := h.few
  exact lholds_any k hk w T h.fine (by omega)
theorem kwaits (k : Int) (hk : W64 k) (h : Pk W w L g s Y n) (hn : n ≤ 100000) :
    Calls Try.prog 16 #[ptr g, .int .i64 k] w fun e w' => ∃ A cap, e = .returned (.slice A (supp (s.w k)).length cap) ∧ Below w.heap.size w w' ∧ w'.ownsRow w.heap.size 60 2 (.slice A (supp (s.w k)).length cap) (supp (s.w k)).length (flat (encH (fl (s.w k))) (supp (s.w k))) := by
  obtain ⟨F, ⟨loc, rfl, T, hF⟩, k2⟩ := h.tab
  have hc := h.few
  exact lwaits_any k hk w T h.fine (by omega)
theorem kdead (x : Int) (hx : W64 x) (h : Pk W w L g s Y n) : Calls Try.prog 13 #[ptr g, .int .i64 x] w fun e w' => e = .returned (.bool (s.dead x)) ∧ w' = w := by
  obtain ⟨F, ⟨loc, rfl, T, hF⟩, k2⟩ := h.tab
  exact ldead_any x hx w T h.fine
end
theorem cnt_new : cntT newT = 0 := by
  unfold cntT
  rw [show supp (innF newT) = [] from supp_eq List.Pairwise.nil fun x => by simp [innF, newT]]
  rfl
theorem knew (w : World) : Calls Try.prog 4 #[] w fun e w' => e = .returned (ptr (w.heap.size + 1 + 1)) ∧ Below w.heap.size w w' ∧ Pk w w' [] (w.heap.size + 1 + 1) newT (fun _ => False) 0 :=
  (lnew_any w).mono fun e w' ⟨h1, h2, F, h3, h4⟩ => ⟨h1, h2, (St.start w).call h2, ⟨F, h3, h4, (fun r hr => by cases hr), fun b hb => hb.elim⟩, (fun b hb => hb.elim), Fine.new, Nat.le_of_eq cnt_new⟩

/-! ### Arguments opened -/
/-- A call of a law. -/
structure Op13 where
  k : Int
  x : Int
  key : Int
  b : Bool
instance : Inhabited Op13 := ⟨⟨0, 0, 0, false⟩⟩
def encO (o : Op13) : List Value := [.int .i64 o.k, .int .i64 o.x, .int .i64 o.key, .bool o.b]
abbrev aggO (o : Op13) : Value := .agg #[.int .i64 o.k, .int .i64 o.x, .int .i64 o.key, .bool o.b]
theorem encO_len (o : Op13) : (encO o).length = 4 := rfl
/-- What a call that came in is like. -/
structure GO (o : Op13) : Prop where
  k : W64 o.k
  x : W64 o.x
  key : W64 o.key
section
variable {H : Type} {enc : TypeId × Value → H} {W : World} {held : Bool}
theorem w64_of {a : Int} (h : -9223372036854775808 ≤ a ∧ a ≤ 9223372036854775807) : W64 a := h
theorem op_cells {m : Nat} {cs : List Value} {x : DataW H × List MemPlace} (hm : DataW.trod enc Try.prog W 0 (fun _ => true) held m 31 cs = some x) : ∃ v, cs = encO v ∧ GO v := by
  obtain ⟨xs, n, -, -, hl, hxl, hf⟩ := DataW.trod_struct Try.underlying31 hm
  rw [show Try.prog.cellsOf 31 = 4 by kernel_rfl] at hl
  obtain ⟨c0, c1, c2, c3, rfl⟩ := list4 hl
  obtain ⟨y0, y1, y2, y3, rfl⟩ := list4 (l := xs) (by simpa using hxl)
  have h0 : DataW.trod enc Try.prog W 0 (fun _ => true) held n 3 (([c0, c1, c2, c3].drop 0).take (Try.prog.cellsOf 3)) = some y0 := hf 0 _ rfl
  have h1 : DataW.trod enc Try.prog W 0 (fun _ => true) held n 3 (([c0, c1, c2, c3].drop 1).take (Try.prog.cellsOf 3)) = some y1 := hf 1 _ rfl
  have h2 : DataW.trod enc Try.prog W 0 (fun _ => true) held n 3 (([c0, c1, c2, c3].drop 2).take (Try.prog.cellsOf 3)) = some y2 := hf 2 _ rfl
  have h3 : DataW.trod enc Try.prog W 0 (fun _ => true) held n 4 (([c0, c1, c2, c3].drop 3).take (Try.prog.cellsOf 4)) = some y3 := hf 3 _ rfl
  rw [show Try.prog.cellsOf 3 = 1 by kernel_rfl] at h0 h1 h2
  rw [show Try.prog.cellsOf 4 = 1 by kernel_rfl] at h3
  obtain ⟨a, e0, -, w0⟩ := DataW.trod_int Try.underlying3 h0
  obtain ⟨b, e1, -, w1⟩ := DataW.trod_int Try.underlying3 h1
  obtain ⟨c, e2, -, w2⟩ := DataW.trod_int Try.underlying3 h2
  obtain ⟨d, e3, -⟩ := DataW.trod_bool Try.underlying4 h3
  simp only [List.drop_succ_cons, List.drop_zero, List.take_succ_cons, List.take_zero, List.cons.injEq, and_true] at e0 e1 e2 e3
  subst e0 e1 e2 e3
  exact ⟨⟨a, b, c, d⟩, rfl, w64_of (bounds_i64 w0), w64_of (bounds_i64 w1), w64_of (bounds_i64 w2)⟩
theorem open_ops {A : Option Addr} {len cap : Nat} {d : DataW H} {p : List MemPlace} (h : DataW.Trod enc Try.prog W 0 (fun _ => true) held 22 (.slice A len cap) d p) : ∃ l, IsR W A len cap 4 encO GO l :=
  open_row Try.underlying22 (by kernel_rfl) (by omega) encO_len (fun m cs x hm => op_cells hm) h
end

/-! ### A call of a law -/
noncomputable def run1 (s : Tb) (o : Op13) : Tb := if o.k = 0 then askS s o.x o.b o.key else endS s o.x
noncomputable def runE (s : Tb) (o : Op13) : Int := if o.k = 0 then askE s o.x o.key else if o.x < 1 then 130 else 0
noncomputable def runA (s : Tb) (o : Op13) : Lk.Told := if o.k = 0 then askA s o.x o.b o.key else ⟨false, [], endA s o.x⟩
theorem Fine.run1 {s : Tb} (m : Fine s) {o : Op13} (ho : GO o) : Fine (run1 s o) := by
  unfold Go.Proofs.Ytcjefigcaifmeaa.run1
  split
  · exact m.ask ho.x.2
  · exact m.end o.x
theorem own_set3 {w : World} {B q n size : Nat} {e : TypeId} {v : Value} {xs : List Value} (h : w.ownsRow B e size v n xs) (hq : q < B) (u0 u1 u2 : Value) : (((w.setCell ⟨q, 0, none⟩ u0).setCell ⟨q, 1, none⟩ u1).setCell ⟨q, 2, none⟩ u2).ownsRow B e size v n xs :=
  ownsRow_setCell_below (ownsRow_setCell_below (ownsRow_setCell_below h (a := ⟨q, 0, none⟩) hq u0) (a := ⟨q, 1, none⟩) hq u1) (a := ⟨q, 2, none⟩) hq u2
theorem Pk.set3 {W w : World} {L : List Row} {g : Nat} {s : Tb} {Y : Nat → Prop} {n x : Nat} {t : TypeId} {cs : Array Value} {r0 : Row} (h : Pk W w ((x, t, cs) :: r0 :: L) g s Y n) (hx : W.heap.size ≤ x) (hd : ∀ r ∈ r0 :: L, r.1 ≠ x) (u0 u1 u2 : Value) :
    Pk W (((w.setCell ⟨x, 0, none⟩ u0).setCell ⟨x, 1, none⟩ u1).setCell ⟨x, 2, none⟩ u2) L g s Y n :=
  (((h.set0 hx hd 0 u0).set0 hx hd 1 u1).set0 hx hd 2 u2).keep fun r hr => List.mem_cons_of_mem _ (List.mem_cons_of_mem _ hr)
end Go.Proofs.Ytcjefigcaifmeaa
