/- Layer 15: where a law stands; a vault's calls there; arguments opened; part, one. -/
import Derived.Test.YtckhddndeojobaaGreatVltU
import Derived.Test.YtckhddndeojobaaGreatVltD
import Derived.Test.YtckhddndeojobaaGreatOpen
namespace Go.Proofs.YtckhddndeojobaaGreat
open Go.ChangeShapes Go.WideShapes Go.ChangeAt Go.RowKit Go.Cn Go.So Go.Vt
open Go.Lk (upd supp Fin1 upd_same upd_other)
set_option linter.unusedVariables false
set_option linter.unusedSimpArgs false
set_option maxRecDepth 100000
/-- These blocks are as they were. -/
def Keep (Y : Nat → Prop) (w w' : World) : Prop := w.heap.size ≤ w'.heap.size ∧ ∀ b, Y b → w'.heap[b]? = w.heap[b]?
theorem Keep.refl (Y : Nat → Prop) (w : World) : Keep Y w w := ⟨Nat.le_refl _, fun _ _ => rfl⟩
theorem Keep.trans {Y : Nat → Prop} {a b c : World} (h : Keep Y a b) (k : Keep Y b c) : Keep Y a c := ⟨Nat.le_trans h.1 k.1, fun i hi => (k.2 i hi).trans (h.2 i hi)⟩
theorem Keep.below {Y : Nat → Prop} {a b : World} (h : Below a.heap.size a b) (hY : ∀ i, Y i → i < a.heap.size) : Keep Y a b := ⟨h.size, fun i hi => h.block i (hY i hi)⟩
theorem Keep.less {Y Y' : Nat → Prop} {a b : World} (h : Keep Y a b) (hY : ∀ i, Y' i → Y i) : Keep Y' a b := ⟨h.1, fun i hi => h.2 i (hY i hi)⟩
theorem sees_keep {Y : Nat → Prop} {w w' : World} {size n : Nat} {A : Option Addr} {xs : List Value} (h : Sees w w.heap.size size A n xs) (hk : Keep Y w w') (hf : 0 < n → ∀ a, A = some a → Y a.block) : Sees w' w'.heap.size size A n xs := by
  refine ⟨h.1, fun hn => ?_⟩
  obtain ⟨b, off, e, hb, hc⟩ := h.2 hn
  refine ⟨b, off, e, Nat.lt_of_lt_of_le hb hk.1, fun j z hz => ?_⟩
  have e2 : w'.heap[b]? = w.heap[b]? := hk.2 b (hf hn _ e)
  rw [← hc j z hz]
  simp only [World.cell?, e2]
theorem Whole.keep {Y : Nat → Prop} {w w' : World} {g : Nat} {t : TypeId} {cs : Array Value} (h : Whole w g t cs) (hk : Keep Y w w') (hg : Y g) : Whole w' g t cs := (hk.2 g hg).trans h
/-- Where a law stands: nothing of W has changed, block g is the vault v, none of whose blocks is one of W or of Y; m bounds what it has. -/
structure Vp (W w : World) (g : Nat) (v : Vt) (m : Nat) (Y : Nat → Prop) : Prop where
  bel : Below W.heap.size W w
  vlt : ∃ F, Vlt w g v F ∧ (∀ b, F b → W.heap.size ≤ b) ∧ ∀ b, Y b → ¬ F b
  low : ∀ b, Y b → b < w.heap.size
  good : Vt.Good v m
  few : Few v
section
variable {W w w' : World} {g : Nat} {v v' : Vt} {m m' : Nat} {Y Y' : Nat → Prop}
theorem Vlt.call {F : Nat → Prop} (h : Vlt w g v F) (hb : Below w.heap.size w w') : Vlt w' g v F := by obtain ⟨sg, hb1, fb, Fs, x⟩ := h; exact ⟨sg, hb1, fb, Fs, x.call hb⟩
theorem Vlt.low {F : Nat → Prop} (h : Vlt w g v F) {b : Nat} (hf : F b) : b < w.heap.size := by obtain ⟨sg, hb1, fb, Fs, x⟩ := h; exact x.low hf
theorem Vp.call (h : Vp W w g v m Y) (hb : Below w.heap.size w w') : Vp W w' g v m Y := by
  obtain ⟨F, k1, k2, k3⟩ := h.vlt
  exact ⟨h.bel.trans (hb.mono h.bel.size), ⟨F, k1.call hb, k2, k3⟩, fun b hY => Nat.lt_of_lt_of_le (h.low b hY) hb.size, h.good, h.few⟩
theorem Vp.drewN (h : Vp W w g v m Y) (n : Nat) : Vp W (w.drewN n) g v m Y := h.call (drew_below w n)
theorem Vp.le (h : Vp W w g v m Y) (hm : m ≤ m') : Vp W w g v m' Y := ⟨h.bel, h.vlt, h.low, h.good.le hm, h.few⟩
theorem Vp.less (h : Vp W w g v m Y) (hY : ∀ b, Y' b → Y b) : Vp W w g v m Y' := by
  obtain ⟨F, k1, k2, k3⟩ := h.vlt
  exact ⟨h.bel, ⟨F, k1, k2, fun b hb => k3 b (hY b hb)⟩, fun b hb => h.low b (hY b hb), h.good, h.few⟩
/-- More blocks are kept, that are new. -/
theorem Vp.more (h : Vp W w g v m Y) (hb : Below w.heap.size w w') (hY : ∀ b, Y' b → Y b ∨ w.heap.size ≤ b ∧ b < w'.heap.size) : Vp W w' g v m Y' := by
  obtain ⟨F, k1, k2, k3⟩ := h.vlt
  refine ⟨h.bel.trans (hb.mono h.bel.size), ⟨F, k1.call hb, k2, fun b hb2 hf => ?_⟩, fun b hb2 => ?_, h.good, h.few⟩
  · rcases hY b hb2 with h1 | h1
    · exact k3 b h1 hf
    · have := k1.low hf; omega
  · rcases hY b hb2 with h1 | h1
    · exact Nat.lt_of_lt_of_le (h.low b h1) hb.size
    · exact h1.2
/-- The vault was told something. -/
theorem Vp.went {F : Nat → Prop} (h : Vp W w g v m Y) (k2 : ∀ b, F b → W.heap.size ≤ b) (k3 : ∀ b, Y b → ¬ F b) (hm : WentV F w w' g v') (hg : Vt.Good v' m') (hf : Few v') : Vp W w' g v' m' Y ∧ Keep Y w w' := by
  obtain ⟨ho, F', hF', hd⟩ := hm
  have hWw := h.bel.size
  refine ⟨⟨h.bel.trans (ho.below hWw k2), ⟨F', hd, fun b hb => ?_, fun b hb hf => ?_⟩, fun b hb => Nat.lt_of_lt_of_le (h.low b hb) ho.size, hg, hf⟩, ho.size, fun b hb => ho.block b (h.low b hb) (k3 b hb)⟩
  · rcases hF' b hb with h1 | h1
    · exact k2 b h1
    · omega
  · rcases hF' _ hf with h1 | h1
    · exact k3 b hb h1
    · have := h.low b hb; omega
/-- A cell of a kept block is told something. -/
theorem Vp.set (h : Vp W w g v m Y) {p : Addr} (hp : Y p.block) (hW : W.heap.size ≤ p.block) (u : Value) : Vp W (w.setCell p u) g v m Y := by
  obtain ⟨F, ⟨sg, hb, fb, Fs, x⟩, k2, k3⟩ := h.vlt
  have ho : Off (fun b => b = p.block) w (w.setCell p u) := (Off.refl (fun b => b = p.block) w).set (.inl rfl) u
  exact ⟨h.bel.setCell hW u, ⟨F, ⟨sg, hb, fb, Fs, x.off ho fun b hf e => k3 b (e ▸ hp) hf⟩, k2, k3⟩, fun b hb => by simpa using h.low b hb, h.good, h.few⟩
theorem Vp.start {F : Nat → Prop} {x : Nat} (hb : Below W.heap.size W w) (h : Vlt w g (newV x) F) (hF : ∀ b, F b → W.heap.size ≤ b) (hx : Am.rated x = true) : Vp W w g (newV x) 0 fun _ => False :=
  ⟨hb, ⟨F, h, hF, fun b hb => hb.elim⟩, fun b hb => hb.elim, Good.new hx 0, Few.new x⟩
/-- The worlds in which the same is known, as a class of which nothing else is told. -/
theorem Vp.class (h : Vp W w g v m Y) : ∃ C : World → Prop, C w.drew ∧ Hid (∀ a b, C a → Below a.heap.size a b → C b) ∧ Hid (∀ a, C a → Vp W a g v m Y ∧ Below w.heap.size w a) :=
  ⟨fun a => Vp W a g v m Y ∧ Below w.heap.size w a, ⟨h.drewN 1, drew_below w 1⟩, Lib.hid fun a b ha hb => ⟨ha.1.call hb, ha.2.trans (hb.mono ha.2.size)⟩, Lib.hid fun a ha => ha⟩
theorem Vp.num (h : Vp W w g v m Y) : (supp v.fates).length ≤ 1000000 ∧ (supp v.held).length ≤ 1000000 := by
  have h1 := h.few
  have h2 := held_len h.good
  unfold Few at h1
  omega
theorem vp_open (t a n : Int) (ha : W64 a) (h : Vp W w g v m Y) (hm : m < 4000) : Calls Tryz.prog 21 #[ptr g, .int .i64 t, .int .i64 a, .int .i64 n] w fun e w' => e = .returned (.int .i64 (openE v t a n)) ∧ Vp W w' g (openV v t a n) (m + 1) Y ∧ Keep Y w w' := by
  obtain ⟨F, ⟨sg, hb, fb, Fs, x⟩, k2, k3⟩ := h.vlt
  exact (vopen_any t a n ha x).mono fun e w' ⟨h1, h2⟩ => ⟨h1, h.went k2 k3 h2 (h.good.open hm t a n) (h.few.open t a n)⟩
theorem vp_hold (t : Int) (p : Pt) (h1 : W64 p.id) (h2 : W64 p.acc) (h3 : W64 p.n) (h : Vp W w g v m Y) : Calls Tryz.prog 19 #[ptr g, .int .i64 t, ptE p] w fun e w' => e = .returned (.int .i64 (holdE v t p)) ∧ Vp W w' g (holdV v t p) (m + 1) Y ∧ Keep Y w w' := by
  obtain ⟨F, ⟨sg, hb, fb, Fs, x⟩, k2, k3⟩ := h.vlt
  exact (vhold_any t p h1 h2 h3 h.good h.num.1 h.num.2 x).mono fun e w' ⟨h1, h2⟩ => ⟨h1, h.went k2 k3 h2 (h.good.hold t p) (h.few.hold h.good t p)⟩
theorem vp_commit (t id : Int) (hi : W64 id) (h : Vp W w g v m Y) (hm : m < 4000) : Calls Tryz.prog 13 #[ptr g, .int .i64 t, .int .i64 id] w fun e w' => e = .returned (.int .i64 (commitE v t id)) ∧ Vp W w' g (commitV v t id) (m + 1) Y ∧ Keep Y w w' := by
  obtain ⟨F, ⟨sg, hb, fb, Fs, x⟩, k2, k3⟩ := h.vlt
  exact (vcommit_any t id hi h.good hm h.num.1 x).mono fun e w' ⟨h1, h2⟩ => ⟨h1, h.went k2 k3 h2 (h.good.commit hm t id) (h.few.commit h.good t id)⟩
theorem vp_drop (id : Int) (hi : W64 id) (h : Vp W w g v m Y) : Calls Tryz.prog 14 #[ptr g, .int .i64 id] w fun e w' => e = .returned (.int .i64 (dropE v id)) ∧ Vp W w' g (dropV v id) m Y ∧ Keep Y w w' := by
  obtain ⟨F, ⟨sg, hb, fb, Fs, x⟩, k2, k3⟩ := h.vlt
  exact (vdrop_any id hi (fun hf => by have := (h.good.held _ _ (h.good.heldBy hf).1).ac; unfold W64; omega) h.num.1 x).mono fun e w' ⟨h1, h2⟩ => ⟨h1, h.went k2 k3 h2 (h.good.drop id) (h.few.drop h.good id)⟩
theorem vp_close (t : Int) (h : Vp W w g v m Y) : Calls Tryz.prog 17 #[ptr g, .int .i64 t] w fun e w' => e = .returned (.int .i64 (closeE v t)) ∧ Vp W w' g (closeV v t) m Y ∧ Keep Y w w' := by
  obtain ⟨F, ⟨sg, hb, fb, Fs, x⟩, k2, k3⟩ := h.vlt
  exact (vclose_any t x).mono fun e w' ⟨h1, h2⟩ => ⟨h1, h.went k2 k3 h2 (h.good.close t) (h.few.close t)⟩
theorem vp_prune (t : Int) (h : Vp W w g v m Y) : Calls Tryz.prog 23 #[ptr g, .int .i64 t] w fun e w' => e = .returned (.int .i64 (oursE (pruneSE v.s t))) ∧ Vp W w' g (pruneV v t) m Y ∧ Keep Y w w' := by
  obtain ⟨F, ⟨sg, hb, fb, Fs, x⟩, k2, k3⟩ := h.vlt
  exact (vprune_any t x).mono fun e w' ⟨h1, h2⟩ => ⟨h1, h.went k2 k3 h2 (h.good.prune t) (h.few.prune t)⟩
theorem vp_snap (t : Int) (h : Vp W w g v m Y) : Calls Tryz.prog 9 #[ptr g, .int .i64 t] w fun e w' => ∃ A cap, e = .returned (.tuple #[.slice A (snapS v.s t).length cap, .int .i64 (oursE (tellsE v.s t))]) ∧ Below w.heap.size w w' ∧ w'.ownsRow w.heap.size 62 2 (.slice A (snapS v.s t).length cap) (snapS v.s t).length (flat encE (snapS v.s t)) := by
  obtain ⟨F, ⟨sg, hb, fb, Fs, x⟩, k2, k3⟩ := h.vlt
  exact vsnap_any t x
theorem vp_held (h : Vp W w g v m Y) : Calls Tryz.prog 15 #[ptr g] w fun e w' => ∃ A cap, e = .returned (.slice A (supp (byId v)).length cap) ∧ Below w.heap.size w w' ∧ w'.ownsRow w.heap.size 54 6 (.slice A (supp (byId v)).length cap) (supp (byId v)).length (flat (encI v) (supp (byId v))) := by
  obtain ⟨F, ⟨sg, hb, fb, Fs, x⟩, k2, k3⟩ := h.vlt
  exact vheld_any h.good h.num.2 x
theorem vp_fate (id : Int) (hi : W64 id) (h : Vp W w g v m Y) : Calls Tryz.prog 12 #[ptr g, .int .i64 id] w fun e w' => e = .returned (.tuple #[.int .i64 (fateOf v id).is, .int .i64 (fateOf v id).t]) ∧ Below w.heap.size w w' := by
  obtain ⟨F, ⟨sg, hb, fb, Fs, x⟩, k2, k3⟩ := h.vlt
  exact vfate_any id hi x
theorem vp_has (a t : Int) (h : Vp W w g v m Y) : Calls Tryz.prog 22 #[ptr g, .int .i64 a, .int .i64 t] w fun e w' => e = .returned (.tuple #[.int .i64 (hasN v a t), .int .i64 (hasE v a t)]) ∧ Below w.heap.size w w' := by
  obtain ⟨F, ⟨sg, hb, fb, Fs, x⟩, k2, k3⟩ := h.vlt
  exact vhas_any a t x
theorem vp_top (h : Vp W w g v m Y) : Calls Tryz.prog 16 #[ptr g] w fun e w' => e = .returned (.int .i64 v.top) ∧ w' = w := by
  obtain ⟨F, ⟨sg, hb, fb, Fs, x⟩, k2, k3⟩ := h.vlt
  exact vtop_any x
/-- What stands at the face: a pointer to the store, by which Closed and Mark are told. -/
theorem Vp.face (h : Vp W w g v m Y) : g < w.heap.size ∧ ∃ sg, w.cell? ⟨g, 0, none⟩ = some (.iface 30 (ptr sg)) ∧ (∀ w', Below w.heap.size w w' → Calls Tryz.prog 133 #[ptr sg] w' fun e w2 => e = .returned (.int .i64 v.s.closed) ∧ w2 = w') ∧ (∀ w', Below w.heap.size w w' → Calls Tryz.prog 134 #[ptr sg] w' fun e w2 => e = .returned (.int .i64 v.s.mark) ∧ w2 = w') := by
  obtain ⟨F, ⟨sg, hb, fb, Fs, x⟩, k2, k3⟩ := h.vlt
  obtain ⟨c0, c1, c2, c3, c4, c5, cf, cz⟩ := x.cells
  refine ⟨cz, sg, c0, fun w' hb2 => ?_, fun w' hb2 => ?_⟩
  · obtain ⟨mb, rb, K, y⟩ := (x.call hb2).sto
    exact sclosed_any w' y
  · obtain ⟨mb, rb, K, y⟩ := (x.call hb2).sto
    exact smark_any w' y
end

/-! ### Arguments opened -/
def encO (o : Op15) : List Value := [.int .i64 o.k, .int .i64 o.id, .int .i64 o.acc, .int .i64 o.t, .int .i64 o.n, .bool o.pays]
abbrev aggO (o : Op15) : Value := .agg #[.int .i64 o.k, .int .i64 o.id, .int .i64 o.acc, .int .i64 o.t, .int .i64 o.n, .bool o.pays]
theorem encO_len (o : Op15) : (encO o).length = 6 := rfl
/-- What a call that came in is like. -/
structure GO (o : Op15) : Prop where
  k : W64 o.k
  id : W64 o.id
  acc : W64 o.acc
  t : W64 o.t
  n : W64 o.n
theorem list6 {α : Type} {l : List α} (h : l.length = 6) : ∃ a b c d e f, l = [a, b, c, d, e, f] := by
  match l, h with
  | [a, b, c, d, e, f], _ => exact ⟨a, b, c, d, e, f, rfl⟩
section
variable {H : Type} {enc : TypeId × Value → H} {W : World} {held : Bool}
theorem w64_of {a : Int} (h : -9223372036854775808 ≤ a ∧ a ≤ 9223372036854775807) : W64 a := h
theorem op_cells {m : Nat} {cs : List Value} {x : DataW H × List MemPlace} (hm : DataW.trod enc Tryz.prog W 0 (fun _ => true) held m 41 cs = some x) : ∃ v, cs = encO v ∧ GO v := by
  obtain ⟨xs, n, -, -, hl, hxl, hf⟩ := DataW.trod_struct Tryz.underlying41 hm
  rw [show Tryz.prog.cellsOf 41 = 6 by kernel_rfl] at hl
  obtain ⟨c0, c1, c2, c3, c4, c5, rfl⟩ := list6 hl
  obtain ⟨y0, y1, y2, y3, y4, y5, rfl⟩ := list6 (l := xs) (by simpa using hxl)
  have h0 : DataW.trod enc Tryz.prog W 0 (fun _ => true) held n 3 (([c0, c1, c2, c3, c4, c5].drop 0).take (Tryz.prog.cellsOf 3)) = some y0 := hf 0 _ rfl
  have h1 : DataW.trod enc Tryz.prog W 0 (fun _ => true) held n 3 (([c0, c1, c2, c3, c4, c5].drop 1).take (Tryz.prog.cellsOf 3)) = some y1 := hf 1 _ rfl
  have h2 : DataW.trod enc Tryz.prog W 0 (fun _ => true) held n 3 (([c0, c1, c2, c3, c4, c5].drop 2).take (Tryz.prog.cellsOf 3)) = some y2 := hf 2 _ rfl
  have h3 : DataW.trod enc Tryz.prog W 0 (fun _ => true) held n 2 (([c0, c1, c2, c3, c4, c5].drop 3).take (Tryz.prog.cellsOf 2)) = some y3 := hf 3 _ rfl
  have h4 : DataW.trod enc Tryz.prog W 0 (fun _ => true) held n 2 (([c0, c1, c2, c3, c4, c5].drop 4).take (Tryz.prog.cellsOf 2)) = some y4 := hf 4 _ rfl
  have h5 : DataW.trod enc Tryz.prog W 0 (fun _ => true) held n 4 (([c0, c1, c2, c3, c4, c5].drop 5).take (Tryz.prog.cellsOf 4)) = some y5 := hf 5 _ rfl
  rw [show Tryz.prog.cellsOf 3 = 1 by kernel_rfl] at h0 h1 h2
  rw [show Tryz.prog.cellsOf 2 = 1 by kernel_rfl] at h3 h4
  rw [show Tryz.prog.cellsOf 4 = 1 by kernel_rfl] at h5
  obtain ⟨a, e0, -, w0⟩ := DataW.trod_int Tryz.underlying3 h0
  obtain ⟨b, e1, -, w1⟩ := DataW.trod_int Tryz.underlying3 h1
  obtain ⟨c, e2, -, w2⟩ := DataW.trod_int Tryz.underlying3 h2
  obtain ⟨d, e3, -, w3⟩ := DataW.trod_int Tryz.underlying2 h3
  obtain ⟨f, e4, -, w4⟩ := DataW.trod_int Tryz.underlying2 h4
  obtain ⟨p, e5, -⟩ := DataW.trod_bool Tryz.underlying4 h5
  simp only [List.drop_succ_cons, List.drop_zero, List.take_succ_cons, List.take_zero, List.cons.injEq, and_true] at e0 e1 e2 e3 e4 e5
  subst e0 e1 e2 e3 e4 e5
  exact ⟨⟨a, b, c, d, f, p⟩, rfl, w64_of (bounds_i64 w0), w64_of (bounds_i64 w1), w64_of (bounds_i64 w2), w64_of (bounds_i64 w3), w64_of (bounds_i64 w4)⟩
theorem open_ops {A : Option Addr} {len cap : Nat} {d : DataW H} {p : List MemPlace} (h : DataW.Trod enc Tryz.prog W 0 (fun _ => true) held 23 (.slice A len cap) d p) : ∃ l, IsR W A len cap 6 encO GO l :=
  open_row Tryz.underlying23 (by kernel_rfl) (by omega) encO_len (fun m cs x hm => op_cells hm) h
theorem open_op {r : Reach} {b0 : Nat} {v : Value} {d : DataW H} {p : List MemPlace} (hv : Value.okWide Tryz.prog W r b0 41 v) (h : DataW.Trod enc Tryz.prog W 0 (fun _ => true) held 41 v d p) : ∃ o : Op15, v = aggO o ∧ GO o := by
  obtain ⟨cs, rfl, hsz⟩ := okWide_struct Tryz.underlying41 hv
  obtain ⟨m, hm⟩ := h
  obtain ⟨o, ho, hg⟩ := op_cells hm
  refine ⟨o, ?_, hg⟩
  have : cs.toList = encO o := by simpa [Value.cells] using ho
  cases cs
  simp only at this
  rw [this]
  rfl
end
/-! ### A call of a law -/
theorem part_any (o : Op15) (w : World) : Calls Tryz.prog 18 #[aggO o] w fun e w' => e = .returned (ptE (partOf o)) ∧ Below w.heap.size w w' := by
  obtain ⟨k, id, acc, t, n, p⟩ := o
  have HB := Lib.hid (((Below.refl w.heap.size w).alloc (Nat.le_refl _) (.cells #[.int .i64 k, .int .i64 id, .int .i64 acc, .int .i64 t, .int .i64 n, .bool p] 41)).alloc (by simp) (.cells #[.int .i64 id, .int .i64 acc, .int .i64 n, .bool p] 52))
  have hw : Whole ((w.alloc (.cells #[.int .i64 k, .int .i64 id, .int .i64 acc, .int .i64 t, .int .i64 n, .bool p] 41)).alloc (.cells #[.int .i64 id, .int .i64 acc, .int .i64 n, .bool p] 52)) (w.heap.size + 1) 52 #[.int .i64 id, .int .i64 acc, .int .i64 n, .bool p] := by
    have := Whole.fresh (w.alloc (.cells #[.int .i64 k, .int .i64 id, .int .i64 acc, .int .i64 t, .int .i64 n, .bool p] 41)) 52 #[.int .i64 id, .int .i64 acc, .int .i64 n, .bool p]
    simpa using this
  have HW := Lib.hid hw
  clear hw
  go_enter Tryz.func18, Tryz.ntmps18
  go_wp2_with fail
  generalize (w.alloc (.cells #[.int .i64 k, .int .i64 id, .int .i64 acc, .int .i64 t, .int .i64 n, .bool p] 41)).alloc (.cells #[.int .i64 id, .int .i64 acc, .int .i64 n, .bool p] 52) = w2 at *
  have m0 := HW.out.cell 0
  have m1 := HW.out.cell 1
  have m2 := HW.out.cell 2
  have m3 := HW.out.cell 3
  have f0 := HW.out.free 0
  have f1 := HW.out.free 1
  have f2 := HW.out.free 2
  have f3 := HW.out.free 3
  have mz := HW.out.lt
  simp only [List.getElem?_toArray, List.getElem?_cons_zero, List.getElem?_cons_succ] at m0 m1 m2 m3
  refine bodyPost_ret (by simp [results, Tryz.results18, go_sem, m0, m1, m2, m3, f0, f1, f2, f3, mz]; try rfl) rfl ?_
  exact ⟨rfl, HB.out⟩
end Go.Proofs.YtckhddndeojobaaGreat
