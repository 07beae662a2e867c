/- Layer 12: where a law stands; arguments opened: calls, entries, what is put at a stamp; few, one, made; awake. (Written by gstoo.py.) -/
import Derived.Test.YtcpcepbjdohdmaaStoQ
namespace Go.Proofs.Ytcpcepbjdohdmaa
open Go.ChangeShapes Go.WideShapes Go.ChangeAt Go.RowKit Go.Cn Go.So
set_option linter.unusedVariables false
set_option linter.unusedSimpArgs false
set_option maxRecDepth 100000

theorem st_few {W w : World} {L L' : List Row} (h : St W w L) (hl : ∀ r ∈ L', r ∈ L) : St W w L' := ⟨h.below, fun r hr => h.knows r (hl r hr)⟩
/-- These blocks are as they were. -/
def Keep (Y : Nat → Prop) (w w' : World) : Prop := w.heap.size ≤ w'.heap.size ∧ ∀ b, Y b → w'.heap[b]? = w.heap[b]?
theorem Keep.refl (Y : Nat → Prop) (w : World) : Keep Y w w := ⟨Nat.le_refl _, fun _ _ => rfl⟩
theorem Keep.trans {Y : Nat → Prop} {a b c : World} (h : Keep Y a b) (k : Keep Y b c) : Keep Y a c := ⟨Nat.le_trans h.1 k.1, fun i hi => (k.2 i hi).trans (h.2 i hi)⟩
theorem Keep.below {Y : Nat → Prop} {a b : World} (h : Below a.heap.size a b) (hY : ∀ i, Y i → i < a.heap.size) : Keep Y a b := ⟨h.size, fun i hi => h.block i (hY i hi)⟩
theorem Keep.less {Y Y' : Nat → Prop} {a b : World} (h : Keep Y a b) (hY : ∀ i, Y' i → Y i) : Keep Y' a b := ⟨h.1, fun i hi => h.2 i (hY i hi)⟩
theorem sees_keep {Y : Nat → Prop} {w w' : World} {size n : Nat} {A : Option Addr} {xs : List Value} (h : Sees w w.heap.size size A n xs) (hk : Keep Y w w') (hf : 0 < n → ∀ a, A = some a → Y a.block) : Sees w' w'.heap.size size A n xs := by
  refine ⟨h.1, fun hn => ?_⟩
  obtain ⟨b, off, e, hb, hc⟩ := h.2 hn
  refine ⟨b, off, e, Nat.lt_of_lt_of_le hb hk.1, fun j z hz => ?_⟩
  have e2 : w'.heap[b]? = w.heap[b]? := hk.2 b (hf hn _ e)
  rw [← hc j z hz]
  simp only [World.cell?, e2]
/-- Where a law stands: nothing of W has changed, these blocks are known, block g is the store s, none of whose blocks is one of W, of these or of Y. -/
structure Ps (W w : World) (L : List Row) (g : Nat) (s : Sto) (Y : Nat → Prop) : Prop where
  st : St W w L
  sto : ∃ F, Stx w g s F ∧ (∀ b, F b → W.heap.size ≤ b) ∧ (∀ r ∈ L, ¬ F r.1) ∧ ∀ b, Y b → ¬ F b
  low : ∀ b, Y b → b < w.heap.size
section
variable {W w w' : World} {L L' : List Row} {g : Nat} {s s' : Sto} {Y Y' : Nat → Prop}
theorem Ps.call (h : Ps W w L g s Y) (hb : Below w.heap.size w w') : Ps W w' L g s Y := by
  obtain ⟨F, k1, k2, k3, k4⟩ := h.sto
  exact ⟨h.st.call hb, ⟨F, k1.call hb, k2, k3, k4⟩, fun b hY => Nat.lt_of_lt_of_le (h.low b hY) hb.size⟩
theorem Ps.drewN (h : Ps W w L g s Y) (n : Nat) : Ps W (w.drewN n) L g s Y := h.call (drew_below w n)
theorem Ps.few (h : Ps W w L g s Y) (hl : ∀ r ∈ L', r ∈ L) : Ps W w L' g s Y := by
  obtain ⟨F, k1, k2, k3, k4⟩ := h.sto
  exact ⟨st_few h.st hl, ⟨F, k1, k2, fun r hr => k3 r (hl r hr), k4⟩, h.low⟩
theorem Ps.alloc (h : Ps W w L g s Y) (x : Nat) (hx : x = w.heap.size) (t : TypeId) (cs : Array Value) : Ps W (w.alloc (.cells cs t)) ((x, t, cs) :: L) g s Y := by
  obtain ⟨F, k1, k2, k3, k4⟩ := h.sto
  have hb : Below w.heap.size w (w.alloc (.cells cs t)) := (Below.refl _ _).alloc (Nat.le_refl _) _
  exact ⟨h.st.alloc x hx t cs, ⟨F, k1.call hb, k2, fun r hr => by
    rcases List.mem_cons.1 hr with rfl | hr
    · intro hf
      have := k1.low hf
      simp only at this
      omega
    · exact k3 r hr, k4⟩, fun b hY => Nat.lt_of_lt_of_le (h.low b hY) hb.size⟩
theorem Ps.other (h : Ps W w L g s Y) (o : Obj) : Ps W (w.alloc o) L g s Y := h.call ((Below.refl _ _).alloc (Nat.le_refl _) _)
theorem Ps.fine (h : Ps W w L g s Y) : Fine s := by obtain ⟨F, k1, -⟩ := h.sto; exact k1.fine
theorem Ps.lt (h : Ps W w L g s Y) : g < w.heap.size := by obtain ⟨F, k1, -⟩ := h.sto; exact k1.lt
theorem Ps.new (h : Ps W w L g s Y) : W.heap.size ≤ g := by obtain ⟨F, k1, k2, -⟩ := h.sto; exact k2 g k1.mine
theorem Ps.less (h : Ps W w L g s Y) (hY : ∀ b, Y' b → Y b) : Ps W w L g s Y' := by
  obtain ⟨F, k1, k2, k3, k4⟩ := h.sto
  exact ⟨h.st, ⟨F, k1, k2, k3, fun b hb => k4 b (hY b hb)⟩, fun b hb => h.low b (hY b hb)⟩
/-- More blocks are kept, that are new. -/
theorem Ps.more (h : Ps W w L g s Y) (hb : Below w.heap.size w w') (hY : ∀ b, Y' b → Y b ∨ w.heap.size ≤ b ∧ b < w'.heap.size) : Ps W w' L g s Y' := by
  obtain ⟨F, k1, k2, k3, k4⟩ := h.sto
  refine ⟨h.st.call hb, ⟨F, k1.call hb, k2, k3, fun b hb2 hf => ?_⟩, fun b hb2 => ?_⟩
  · rcases hY b hb2 with h1 | h1
    · exact k4 b h1 hf
    · have := k1.low hf; omega
  · rcases hY b hb2 with h1 | h1
    · exact Nat.lt_of_lt_of_le (h.low b h1) hb.size
    · exact h1.2
/-- A known block is told something. -/
theorem Ps.set0 {x : Nat} {t : TypeId} {cs : Array Value} (h : Ps W w ((x, t, cs) :: L) g s Y) (hx : W.heap.size ≤ x) (hd : ∀ r ∈ L, r.1 ≠ x) (k : Nat) (u : Value) :
    Ps W (w.setCell ⟨x, k, none⟩ u) ((x, t, cs.setIfInBounds k u) :: L) g s Y := by
  obtain ⟨F, k1, k2, k3, k4⟩ := h.sto
  have hxf := k3 _ (List.mem_cons_self ..)
  have ho : Off (fun b => b = x) w (w.setCell ⟨x, k, none⟩ u) := (Off.refl (fun b => b = x) w).set (p := ⟨x, k, none⟩) (.inl rfl) u
  refine ⟨⟨h.st.below.setCell (p := ⟨x, k, none⟩) hx u, h.st.knows.set0 hd k u⟩, ⟨F, k1.off ho fun b hb e => hxf (e ▸ hb), k2, fun r hr => ?_, k4⟩, fun b hb => by simpa using h.low b hb⟩
  rcases List.mem_cons.1 hr with rfl | hr
  · exact hxf
  · exact k3 r (List.mem_cons_of_mem _ hr)
/-- Blocks that are none of the store's change. -/
theorem Ps.off {G : Nat → Prop} (h : Ps W w L g s Y) (ho : Off G w w') (hW : ∀ b, G b → W.heap.size ≤ b) (hL : ∀ r ∈ L, ¬ G r.1) (hG : ∀ b, G b → Y b) : Ps W w' L g s Y := by
  obtain ⟨F, k1, k2, k3, k4⟩ := h.sto
  exact ⟨⟨h.st.below.trans (ho.below h.st.below.size hW), fun r hr => ho.whole (h.st.knows r hr) (hL r hr)⟩, ⟨F, k1.off ho fun b hb hg => k4 b (hG b hg) hb, k2, k3, k4⟩, fun b hb => Nat.lt_of_lt_of_le (h.low b hb) ho.size⟩
/-- The store was told something. -/
theorem Ps.went {F : Nat → Prop} (h : Ps W w L g s Y) (hF : (∀ b, F b → W.heap.size ≤ b) ∧ (∀ r ∈ L, ¬ F r.1) ∧ ∀ b, Y b → ¬ F b) (hm : WentS F w w' g s') : Ps W w' L g s' Y ∧ Keep Y w w' := by
  obtain ⟨k2, k3, k4⟩ := hF
  obtain ⟨ho, F', hF', hd⟩ := hm
  have hWw := h.st.below.size
  refine ⟨⟨⟨h.st.below.trans (ho.below hWw k2), fun r hr => ho.whole (h.st.knows r hr) (k3 r hr)⟩, ⟨F', hd, fun b hb => ?_, fun r hr hf => ?_, fun b hb hf => ?_⟩, fun b hb => Nat.lt_of_lt_of_le (h.low b hb) ho.size⟩, ho.size, fun b hb => ho.block b (h.low b hb) (k4 b hb)⟩
  · rcases hF' b hb with h1 | h1
    · exact k2 b h1
    · omega
  · rcases hF' _ hf with h1 | h1
    · exact k3 r hr h1
    · have := (h.st.knows r hr).lt; omega
  · rcases hF' _ hf with h1 | h1
    · exact k4 b hb h1
    · have := h.low b hb; omega
theorem Ps.start (hb : Below W.heap.size W w) (x : Stx w g newS fun b => b = W.heap.size ∨ b = W.heap.size + 1) : Ps W w [] g newS fun _ => False :=
  ⟨(St.start W).call hb, ⟨_, x, fun b hb => by rcases hb with h | h <;> omega, (fun r hr => by cases hr), fun b hb => hb.elim⟩, fun b hb => hb.elim⟩
/-- The worlds in which the same is known, as a class of which nothing else is told. -/
theorem Ps.class (h : Ps W w L g s Y) : ∃ C : World → Prop, C w.drew ∧ Hid (∀ a b, C a → Below a.heap.size a b → C b) ∧ Hid (∀ a, C a → Ps W a L g s Y ∧ Below w.heap.size w a) :=
  ⟨fun a => Ps W a L g s Y ∧ Below w.heap.size w a, ⟨h.drewN 1, drew_below w 1⟩, Lib.hid fun a b ha hb => ⟨ha.1.call hb, ha.2.trans (hb.mono ha.2.size)⟩, Lib.hid fun a ha => ha⟩
/-- A row that may be put. -/
structure Er (w : World) (A : Option Addr) (cap : Nat) (l : List En) : Prop where
  sees : Sees w w.heap.size 2 A l.length (flat encE l)
  room : l.length ≤ cap
  top : cap ≤ 9223372036854775807
  good : ∀ e ∈ l, W64 e.1 ∧ W64 e.2
theorem Er.call {A : Option Addr} {cap : Nat} {l : List En} (h : Er w A cap l) (hb : Below w.heap.size w w') : Er w' A cap l := ⟨(h.sees.below hb).more hb.size, h.room, h.top, h.good⟩
theorem Er.keep {A : Option Addr} {cap : Nat} {l : List En} (h : Er w A cap l) (hk : Keep Y w w') (hf : 0 < l.length → ∀ a, A = some a → Y a.block) : Er w' A cap l := ⟨sees_keep h.sees hk hf, h.room, h.top, h.good⟩
theorem Er.old {A : Option Addr} {cap : Nat} {l : List En} (h : Er W A cap l) (p : Ps W w L g s Y) : Er w A cap l := ⟨(h.sees.below p.st.below).more p.st.below.size, h.room, h.top, h.good⟩
theorem pput {A : Option Addr} {cap : Nat} {l : List En} (t : Int) (h : Ps W w L g s Y) (hr : Er w A cap l) (hfar : 0 < l.length → ∀ a, A = some a → a.block < W.heap.size ∨ Y a.block ∨ ∃ r ∈ L, r.1 = a.block) :
    Calls Try.prog 23 #[ptr g, .int .i64 t, .slice A l.length cap] w fun e w' => e = .returned (.int .i64 (putSE s t l)) ∧ Ps W w' L g (putS s t l) Y ∧ Keep Y w w' := by
  obtain ⟨F, k1, k2⟩ := h.sto
  exact (sput_any t A cap l w k1 hr.sees hr.room hr.top (fun e he => (hr.good e he).1) fun hn a ha hf => by
    rcases hfar hn a ha with h1 | h1 | ⟨r, h1, h2⟩
    · have := k2.1 _ hf; omega
    · exact k2.2.2 _ h1 hf
    · exact k2.2.1 r h1 (h2 ▸ hf)).mono fun e w' ⟨h1, h2⟩ => ⟨h1, h.went k2 h2⟩
theorem pclose (t : Int) (h : Ps W w L g s Y) : Calls Try.prog 24 #[ptr g, .int .i64 t] w fun e w' => e = .returned (.int .i64 (closeSE t)) ∧ Ps W w' L g (closeS s t) Y ∧ Keep Y w w' := by
  obtain ⟨F, k1, k2⟩ := h.sto
  exact (sclose_any t w k1).mono fun e w' ⟨h1, h2⟩ => ⟨h1, h.went k2 h2⟩
theorem pprune (t : Int) (h : Ps W w L g s Y) : Calls Try.prog 26 #[ptr g, .int .i64 t] w fun e w' => e = .returned (.int .i64 (pruneSE s t)) ∧ Ps W w' L g (pruneS s t) Y ∧ Keep Y w w' := by
  obtain ⟨F, k1, k2⟩ := h.sto
  exact (sprune_any t w k1).mono fun e w' ⟨h1, h2⟩ => ⟨h1, h.went k2 h2⟩
theorem psnap (t : Int) (h : Ps W w L g s Y) : Calls Try.prog 18 #[ptr g, .int .i64 t] w fun e w' => ∃ A cap, e = .returned (.tuple #[.slice A (snapS s t).length cap, .int .i64 (tellsE s t)]) ∧ Below w.heap.size w w' ∧ w'.ownsRow w.heap.size 58 2 (.slice A (snapS s t).length cap) (snapS s t).length (flat encE (snapS s t)) := by
  obtain ⟨F, ⟨mb, rb, K, x⟩, -⟩ := h.sto
  exact ssnap_any t w x
theorem pget (k t : Int) (h : Ps W w L g s Y) : Calls Try.prog 25 #[ptr g, .int .i64 k, .int .i64 t] w fun e w' => e = .returned (.tuple #[aggV (getSV s k t), .int .i64 (getSE s k t)]) ∧ Below w.heap.size w w' := by
  obtain ⟨F, ⟨mb, rb, K, x⟩, -⟩ := h.sto
  exact sget_any k t w x
theorem plast (k : Int) (hk : W64 k) (h : Ps W w L g s Y) : Calls Try.prog 13 #[ptr g, .int .i64 k] w fun e w' => e = .returned (.tuple #[aggV (lastS s k), .bool (s.ch k).isSome]) ∧ Below w.heap.size w w' := by
  obtain ⟨F, ⟨mb, rb, K, x⟩, -⟩ := h.sto
  exact slast_any k hk w x
theorem psize (h : Ps W w L g s Y) : Calls Try.prog 17 #[ptr g] w fun e w' => e = .returned (.int .i64 (sizeS s : Nat)) ∧ Below w.heap.size w w' := by
  obtain ⟨F, ⟨mb, rb, K, x⟩, -⟩ := h.sto
  exact ssize_any w x
theorem pclosed (h : Ps W w L g s Y) : Calls Try.prog 15 #[ptr g] w fun e w' => e = .returned (.int .i64 s.closed) ∧ w' = w := by
  obtain ⟨F, ⟨mb, rb, K, x⟩, -⟩ := h.sto
  exact sclosed_any w x
theorem pmark (h : Ps W w L g s Y) : Calls Try.prog 16 #[ptr g] w fun e w' => e = .returned (.int .i64 s.mark) ∧ w' = w := by
  obtain ⟨F, ⟨mb, rb, K, x⟩, -⟩ := h.sto
  exact smark_any w x
end
theorem snew_at (w : World) (g : Nat) (hg : g = w.heap.size + 1) : Calls Try.prog 9 #[] w fun e w' => e = .returned (ptr g) ∧ Ps w w' [] g newS fun _ => False := by
  subst hg
  exact (snew_any w).mono fun e w' ⟨h1, h2, h3⟩ => ⟨h1, .start h2 h3⟩

/-! ### Arguments opened -/
/-- A call of a law. -/
structure Op12 where
  k : Int
  key : Int
  t : Int
  A : Option Addr
  cap : Nat
  l : List En
instance : Inhabited Op12 := ⟨⟨0, 0, 0, none, 0, []⟩⟩
def encO (o : Op12) : List Value := [.int .i64 o.k, .int .i64 o.key, .int .i64 o.t, .slice o.A o.l.length o.cap]
abbrev aggO (o : Op12) : Value := .agg #[.int .i64 o.k, .int .i64 o.key, .int .i64 o.t, .slice o.A o.l.length o.cap]
theorem encO_len (o : Op12) : (encO o).length = 4 := rfl
/-- What a call that came in is like. -/
structure GO (W : World) (o : Op12) : Prop where
  k : W64 o.k
  key : W64 o.key
  t : W64 o.t
  row : Er W o.A o.cap o.l
  nil : o.A = none → o.cap = 0
def GE (e : En) : Prop := W64 e.1 ∧ W64 e.2
/-- What is put at a stamp. -/
structure Sp12 where
  t : Int
  A : Option Addr
  cap : Nat
  l : List En
section
variable {H : Type} {enc : TypeId × Value → H} {W : World} {held : Bool}
theorem w64_of {a : Int} (h : -9223372036854775808 ≤ a ∧ a ≤ 9223372036854775807) : W64 a := h
theorem ent_cells {m : Nat} {cs : List Value} {x : DataW H × List MemPlace} (hm : DataW.trod enc Try.prog W 0 (fun _ => true) held m 58 cs = some x) : ∃ v : En, cs = encE v ∧ GE v := by
  obtain ⟨xs, n, -, -, hl, hxl, hf⟩ := DataW.trod_struct Try.underlying58 hm
  rw [show Try.prog.cellsOf 58 = 2 by kernel_rfl] at hl
  obtain ⟨c0, c1, rfl⟩ := list2 hl
  obtain ⟨y0, y1, rfl⟩ := list2 (l := xs) (by simpa using hxl)
  have h0 : DataW.trod enc Try.prog W 0 (fun _ => true) held n 3 (([c0, c1].drop 0).take (Try.prog.cellsOf 3)) = some y0 := hf 0 _ rfl
  have h1 : DataW.trod enc Try.prog W 0 (fun _ => true) held n 2 (([c0, c1].drop 1).take (Try.prog.cellsOf 2)) = some y1 := hf 1 _ rfl
  rw [show Try.prog.cellsOf 3 = 1 by kernel_rfl] at h0
  rw [show Try.prog.cellsOf 2 = 1 by kernel_rfl] at h1
  obtain ⟨a, e0, -, w0⟩ := DataW.trod_int Try.underlying3 h0
  obtain ⟨b, e1, -, w1⟩ := DataW.trod_int Try.underlying2 h1
  simp only [List.drop_succ_cons, List.drop_zero, List.take_succ_cons, List.take_zero, List.cons.injEq, and_true] at e0 e1
  subst e0 e1
  exact ⟨(a, b), rfl, w64_of (bounds_i64 w0), w64_of (bounds_i64 w1)⟩
theorem open_ents {A : Option Addr} {len cap : Nat} {d : DataW H} {p : List MemPlace} (h : DataW.Trod enc Try.prog W 0 (fun _ => true) held 31 (.slice A len cap) d p) : ∃ l : List En, IsR W A len cap 2 encE GE l :=
  open_row Try.underlying31 (by kernel_rfl) (by omega) encE_len (fun m cs x hm => ent_cells hm) h
theorem IsR.er {A : Option Addr} {len cap : Nat} {l : List En} (h : IsR W A len cap 2 encE GE l) : Er W A cap l := by
  obtain ⟨h1, h2, h3, h4, -, h6⟩ := h
  subst h1
  exact ⟨h2, h3, h4, h6⟩
theorem op_cells {m : Nat} {cs : List Value} {x : DataW H × List MemPlace} (hm : DataW.trod enc Try.prog W 0 (fun _ => true) held m 33 cs = some x) : ∃ v, cs = encO v ∧ GO W v := by
  obtain ⟨xs, n, -, -, hl, hxl, hf⟩ := DataW.trod_struct Try.underlying33 hm
  rw [show Try.prog.cellsOf 33 = 4 by kernel_rfl] at hl
  obtain ⟨c0, c1, c2, c3, rfl⟩ := list4 hl
  obtain ⟨y0, y1, y2, y3, rfl⟩ := list4 (l := xs) (by simpa using hxl)
  have h0 : DataW.trod enc Try.prog W 0 (fun _ => true) held n 3 (([c0, c1, c2, c3].drop 0).take (Try.prog.cellsOf 3)) = some y0 := hf 0 _ rfl
  have h1 : DataW.trod enc Try.prog W 0 (fun _ => true) held n 3 (([c0, c1, c2, c3].drop 1).take (Try.prog.cellsOf 3)) = some y1 := hf 1 _ rfl
  have h2 : DataW.trod enc Try.prog W 0 (fun _ => true) held n 2 (([c0, c1, c2, c3].drop 2).take (Try.prog.cellsOf 2)) = some y2 := hf 2 _ rfl
  have h3 : DataW.trod enc Try.prog W 0 (fun _ => true) held n 31 (([c0, c1, c2, c3].drop 3).take (Try.prog.cellsOf 31)) = some y3 := hf 3 _ rfl
  rw [show Try.prog.cellsOf 3 = 1 by kernel_rfl] at h0 h1
  rw [show Try.prog.cellsOf 2 = 1 by kernel_rfl] at h2
  rw [show Try.prog.cellsOf 31 = 1 by kernel_rfl] at h3
  obtain ⟨a, e0, -, w0⟩ := DataW.trod_int Try.underlying3 h0
  obtain ⟨b, e1, -, w1⟩ := DataW.trod_int Try.underlying3 h1
  obtain ⟨c, e2, -, w2⟩ := DataW.trod_int Try.underlying2 h2
  have hsl : ∃ A len cap, c3 = .slice A len cap := by
    rcases Deep.open_slice Try.underlying31 h3 with ⟨h4, -⟩ | ⟨a, l, c, k, n, D, Pl, h4, -⟩
    · simp at h4; exact ⟨_, _, _, h4⟩
    · simp at h4; exact ⟨_, _, _, h4⟩
  obtain ⟨A, len, cap, rfl⟩ := hsl
  obtain ⟨l, hl2⟩ := open_ents (A := A) (len := len) (cap := cap) (d := y3.1) (p := y3.2) ⟨n, by simpa [Value.cells] using h3⟩
  have hcount := hl2.count
  subst hcount
  simp only [List.drop_succ_cons, List.drop_zero, List.take_succ_cons, List.take_zero, List.cons.injEq, and_true] at e0 e1 e2
  subst e0 e1 e2
  exact ⟨⟨a, b, c, A, cap, l⟩, rfl, w64_of (bounds_i64 w0), w64_of (bounds_i64 w1), w64_of (bounds_i64 w2), hl2.er, hl2.nil⟩
theorem open_ops {A : Option Addr} {len cap : Nat} {d : DataW H} {p : List MemPlace} (h : DataW.Trod enc Try.prog W 0 (fun _ => true) held 22 (.slice A len cap) d p) : ∃ l, IsR W A len cap 4 encO (GO W) l :=
  open_row Try.underlying22 (by kernel_rfl) (by omega) encO_len (fun m cs x hm => op_cells hm) h
end

/-! ### Few, one, made -/
def few12 (o : Op12) : Op12 := { o with l := o.l.take 120 }
theorem GO.few {W : World} {o : Op12} (h : GO W o) : GO W (few12 o) := by
  refine ⟨h.k, h.key, h.t, ⟨?_, ?_, h.row.top, fun e he => h.row.good e (List.mem_of_mem_take he)⟩, h.nil⟩
  · have := h.row.sees.first (k := (o.l.take 120).length) (by rw [List.length_take]; omega)
    rw [flat_take encE_len] at this
    have e : o.l.take (o.l.take 120).length = o.l.take 120 := by
      rw [List.length_take]
      rcases Nat.le_total 120 o.l.length with h | h
      · rw [Nat.min_eq_left h]
      · rw [Nat.min_eq_right h, List.take_length, List.take_of_length_le h]
    rw [e] at this
    exact this
  · have := h.row.room
    show (o.l.take 120).length ≤ o.cap
    rw [List.length_take]; omega
theorem few12_len (o : Op12) : (few12 o).l.length = min 120 o.l.length := List.length_take ..
set_option maxHeartbeats 1000000 in
theorem few_any (o : Op12) (w : World) (hroom : o.l.length ≤ o.cap) (hcap : o.cap ≤ 9223372036854775807) :
    Calls Try.prog 12 #[aggO o] w fun e w' => e = .returned (aggO (few12 o)) ∧ Below w.heap.size w w' := by
  obtain ⟨k, key, t, A, cap, l⟩ := o
  simp only at hroom hcap
  have H := Lib.hid (((St.start w).alloc w.heap.size rfl 33 #[.int .i64 k, .int .i64 key, .int .i64 t, .slice A l.length cap]).alloc (w.heap.size + 1) (by simp) 33 #[.int .i64 0, .int .i64 0, .int .i64 0, .slice none 0 0])
  have hk1 := H.out.knows.at 0 rfl
  have d0 := hk1.cell 0
  have d1 := hk1.cell 1
  have d2 := hk1.cell 2
  have d3 := hk1.cell 3
  have f0 := hk1.free 0
  have f1 := hk1.free 1
  have f2 := hk1.free 2
  have f3 := hk1.free 3
  have z0 := hk1.lt
  by_cases hlt : 120 < l.length
  · have i1 : (120 : Int) < (l.length : Int) := by omega
    have i2 : (120 : Int) ≤ (cap : Int) := by omega
    have hl : (few12 ⟨k, key, t, A, cap, l⟩).l.length = 120 := by rw [few12_len]; simp; omega
    rw [show aggO (few12 ⟨k, key, t, A, cap, l⟩) = .agg #[.int .i64 k, .int .i64 key, .int .i64 t, .slice A 120 cap] from by show Value.agg #[_, _, _, .slice A (few12 ⟨k, key, t, A, cap, l⟩).l.length cap] = _; rw [hl]; rfl]
    go_enter Try.func12, Try.ntmps12
    go_wp2_with fail
    refine bodyPost_ret (by simp [results, Try.results12, go_sem, d0, d1, d2, d3, f0, f1, f2, f3, z0]; try rfl) rfl ?_
    refine ⟨rfl, ?_⟩
    have hb := H.out.below
    go_grown
  · have i1 : ¬ (120 : Int) < (l.length : Int) := by omega
    have hl : few12 ⟨k, key, t, A, cap, l⟩ = ⟨k, key, t, A, cap, l⟩ := by unfold few12; simp only [List.take_of_length_le (show l.length ≤ 120 by omega)]
    rw [hl]
    go_enter Try.func12, Try.ntmps12
    go_wp2_with fail
    refine bodyPost_ret (by simp [results, Try.results12, go_sem, d0, d1, d2, d3, f0, f1, f2, f3, z0]; try rfl) rfl ?_
    refine ⟨rfl, ?_⟩
    have hb := H.out.below
    go_grown

def run1 (s : Sto) (o : Op12) : Sto := if o.k = 0 then putS s o.t (few12 o).l else if o.k = 3 then pruneS s o.t else if o.k = 4 then closeS s o.t else s
theorem er_far {W : World} {A : Option Addr} {cap : Nat} {l : List En} (h : Er W A cap l) (hn : 0 < l.length) (a : Addr) (ha : A = some a) : a.block < W.heap.size := by
  obtain ⟨b, off, h1, h2, -⟩ := h.sees.2 hn
  rw [h1] at ha
  injection ha with ha
  subst ha
  exact h2
theorem run_field_op (a b c v : Value) (x : World) : (Instr.field 33 (.agg #[a, b, c, v]) 3).run Try.prog x = .ok v x := by kernel_rfl
set_option maxHeartbeats 4000000 in
theorem one_any {W w : World} {L : List Row} {g : Nat} {s : Sto} {Y : Nat → Prop} (o : Op12) (ho : GO W o) (h : Ps W w L g s Y) :
    Calls Try.prog 22 #[ptr g, aggO o] w fun e w' => e = .returned (.tuple #[]) ∧ Ps W w' L g (run1 s o) Y ∧ Keep Y w w' := by
  have hy := h.low
  have HK0 := Lib.hid (Keep.below ((Below.refl w.heap.size w).alloc (Nat.le_refl _) (.cells #[.int .i64 o.k, .int .i64 o.key, .int .i64 o.t, .slice o.A o.l.length o.cap] 33)) hy)
  have HP := Lib.hid (h.alloc w.heap.size rfl 33 #[.int .i64 o.k, .int .i64 o.key, .int .i64 o.t, .slice o.A o.l.length o.cap])
  have HG := Lib.hid ho.few
  have hroom := ho.row.room
  have hcap := ho.row.top
  have HFEW := Lib.hid (fun w0 => few_any o w0 hroom hcap)
  have HD : Hid (∀ r ∈ (L : List Row), r ∈ ((w.heap.size, 33, #[.int .i64 o.k, .int .i64 o.key, .int .i64 o.t, .slice o.A o.l.length o.cap]) :: L : List Row)) := Lib.hid fun r hr => List.mem_cons_of_mem _ hr
  have HF2 : Hid (aggO (few12 o) = .agg #[.int .i64 o.k, .int .i64 o.key, .int .i64 o.t, .slice o.A (few12 o).l.length o.cap]) := Lib.hid rfl
  rw [HF2.out] at HFEW
  have HR : Hid (run1 s o = if o.k = 0 then putS s o.t (few12 o).l else if o.k = 3 then pruneS s o.t else if o.k = 4 then closeS s o.t else s) := Lib.hid rfl
  have HER : Hid (Er W o.A o.cap (few12 o).l) := Lib.hid ho.few.row
  clear h ho hy HG HF2
  generalize (few12 o).l = fl at *
  obtain ⟨k, key, t, A, cap, l⟩ := o
  simp only at *
  have hk := HP.out.st.knows.at 0 rfl
  have d0 := hk.cell 0
  have d1 := hk.cell 1
  have d2 := hk.cell 2
  have d3 := hk.cell 3
  have dz := hk.lt
  clear hk
  rw [HR.out]
  by_cases h0 : k = 0
  · subst h0
    rw [if_pos rfl]
    clear HR
    go_enter Try.func22, Try.ntmps22
    obtain ⟨C, hC, HCc, HCf⟩ := below_class (w.alloc (.cells #[.int .i64 0, .int .i64 key, .int .i64 t, .slice A l.length cap] 33))
    go_wp2_with fail
    refine region_inT 6 C hC (by kernel_rfl) (by kernel_rfl) ?_
    simp only [List.take_succ_cons, List.take_zero, List.drop_succ_cons, List.drop_zero]
    iterate 6
      (refine WQ.step (fun K hK => ?_)
       go_simp
       first
         | (refine hK _ ?_; clear hK K)
         | (apply Exists.intro
            refine ⟨fun x hx => ?_, hK _ ?_⟩
            · first
                | rfl
                | (have hk := (HP.out.call (HCf.out _ hx)).st.knows.at 0 rfl; have d0 := hk.cell 0; have d1 := hk.cell 1; have d2 := hk.cell 2; have d3 := hk.cell 3; go_simp; rfl)
                | (go_at_call 12; refine (HFEW.out _).mono ?_; rintro e x1 ⟨rfl, hb⟩; exact ⟨rfl, HCc.out _ _ hx hb⟩)
                | (rw [run_field_op]; exact ⟨rfl, rfl⟩)
            clear hK K))
    refine WQ.nil ?_
    intro w5 hw
    have HBW := Lib.hid (HCf.out _ hw)
    clear hw hC HCc HCf C
    have HP5 := Lib.hid (HP.out.call HBW.out)
    have HK5 := Lib.hid (HK0.out.trans (Keep.below HBW.out fun b hb => HP.out.low b hb))
    have HPUT := Lib.hid (pput t HP5.out (HER.out.old HP5.out) fun hn a ha => .inl (er_far HER.out hn a ha))
    clear HBW d0 d1 d2 d3 dz
    go_wp2_with fail
    refine HPUT.out.mono ?_
    rintro e w6 ⟨rfl, hp, hk⟩
    have HP6 := Lib.hid (hp.few HD.out)
    have HK6 := Lib.hid (HK5.out.trans hk)
    clear hp hk
    go_wp2_with fail
    go_end0
    exact ⟨rfl, HP6.out, HK6.out⟩
  · rw [if_neg h0]
    by_cases h3 : k = 3
    · subst h3
      rw [if_pos rfl]
      clear HR h0
      have HPR := Lib.hid (pprune t HP.out)
      go_enter Try.func22, Try.ntmps22
      go_wp2_with fail
      refine HPR.out.mono ?_
      rintro e w6 ⟨rfl, hp, hk⟩
      have HP6 := Lib.hid (hp.few HD.out)
      have HK6 := Lib.hid (HK0.out.trans hk)
      clear hp hk
      go_wp2_with fail
      go_end0
      exact ⟨rfl, HP6.out, HK6.out⟩
    · rw [if_neg h3]
      by_cases h4 : k = 4
      · subst h4
        rw [if_pos rfl]
        clear HR h0 h3
        have HPR := Lib.hid (pclose t HP.out)
        go_enter Try.func22, Try.ntmps22
        go_wp2_with fail
        refine HPR.out.mono ?_
        rintro e w6 ⟨rfl, hp, hk⟩
        have HP6 := Lib.hid (hp.few HD.out)
        have HK6 := Lib.hid (HK0.out.trans hk)
        clear hp hk
        go_wp2_with fail
        go_end0
        exact ⟨rfl, HP6.out, HK6.out⟩
      · rw [if_neg h4]
        clear HR
        have HP6 := Lib.hid (HP.out.few HD.out)
        go_enter Try.func22, Try.ntmps22
        go_wp2_with fail
        go_end0
        exact ⟨rfl, HP6.out, HK0.out⟩
def mk (l : List Op12) (n : Nat) : Sto := (l.take n).foldl run1 newS
theorem mk_zero (l : List Op12) : mk l 0 = newS := by simp [mk]
theorem mk_succ (l : List Op12) (n : Nat) (o : Op12) (h : l[n]? = some o) : mk l (n + 1) = run1 (mk l n) o := by
  unfold mk
  rw [List.take_add_one, h]
  simp only [Option.toList]
  rw [List.foldl_append]
  rfl
set_option maxHeartbeats 4000000 in
theorem made_any (A : Option Addr) (len cap : Nat) (l : List Op12) (w : World) (hL : IsR w A len cap 4 encO (GO w) l) (g : Nat) (hgw : g = w.heap.size + 1) :
    Calls Try.prog 21 #[.slice A len cap] w fun e w' => e = .returned (ptr g) ∧ Ps w w' [] g (mk l (min l.length 30)) fun _ => False := by
  subst hgw
  obtain ⟨hlen, hs, hc1, hc2, hnil, hg⟩ := hL
  subst hlen
  have HS := Lib.hid hs
  have HGO := Lib.hid hg
  clear hs hg hnil
  go_enter Try.func21, Try.ntmps21
  go_wp2_with fail
  refine (snew_at w _ rfl).mono ?_
  rintro e w1 ⟨rfl, hp⟩
  have H := Lib.hid hp
  clear hp
  go_wp2_with fail
  go_loopw [4] (fun i wr => ∃ n : Nat, n ≤ l.length ∧ n ≤ 30 ∧ i = .int .i64 (n : Int) ∧ Ps w wr [] (w.heap.size + 1) (mk l n) fun _ => False) (fun i _ => l.length - (intOf i).toNat)
  case atStart => exact ⟨0, by omega, by omega, rfl, by rw [mk_zero]; exact H.out⟩
  case round =>
    obtain ⟨n, hn1, hn2, rfl, hp⟩ := hrel
    have HP := Lib.hid hp
    clear hp H
    by_cases hlt : n < l.length ∧ n < 30
    · obtain ⟨h1, h2⟩ := hlt
      obtain ⟨o, ho⟩ : ∃ o, l[n]? = some o := ⟨_, List.getElem?_eq_getElem h1⟩
      obtain ⟨b0, off, rfl, hb, hcc⟩ := (HS.out.below HP.out.st.below).item encO_len (by omega) n o ho
      have HM := Lib.hid (mk_succ l n o ho)
      have HONE := Lib.hid (fun w0 s0 (p : Ps w w0 [] (w.heap.size + 1) s0 fun _ => False) => one_any o (HGO.out o (List.mem_of_getElem? ho)) p)
      have q0 := hcc 0 _ rfl
      have q1 := hcc 1 _ rfl
      have q2 := hcc 2 _ rfl
      have q3 := hcc 3 _ rfl
      rw [Nat.add_zero] at q0
      have i1 : (n : Int) < (l.length : Int) := by omega
      have i2 : (n : Int) < 30 := by omega
      have i3 : ((n : Int) == 30) = false := by simp; omega
      clear hcc ho
      go_wp2_with fail
      refine (HONE.out _ _ HP.out).mono ?_
      rintro e w3 ⟨rfl, hp, -⟩
      have HP3 := Lib.hid hp
      clear hp
      go_wp2_with fail
      go_roundw
      case rel => exact ⟨n + 1, by omega, by omega, by go_num, by rw [HM.out]; exact HP3.out⟩
      case measure => simp [intOf]; omega
    · have hmin : n = min l.length 30 := by omega
      subst hmin
      have hend : ((min l.length 30 : Nat) : Int) < (l.length : Int) ∧ min l.length 30 = 30 ∨ ¬ ((min l.length 30 : Nat) : Int) < (l.length : Int) := by omega
      generalize hq : min l.length 30 = q at *
      have HQ := Lib.hid hq
      clear hq
      rcases hend with ⟨i1, i2⟩ | i1
      · subst i2
        go_wp2_with fail
        go_ret
        exact ⟨rfl, by rw [HQ.out]; exact HP.out⟩
      · go_wp2_with fail
        go_ret
        exact ⟨rfl, by rw [HQ.out]; exact HP.out⟩
end Go.Proofs.Ytcpcepbjdohdmaa
