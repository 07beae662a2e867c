/- Where DiskPlays stands: the program's disk and the document's, each on its own. -/
import Derived.Test.YtlfigbgcackimaaDiskJ
namespace Go.Proofs.Ytlfigbgcackimaa
open Go.ChangeShapes Go.WideShapes Go.ChangeAt Go.RowKit Go.Dk
set_option linter.unusedVariables false
set_option linter.unusedSimpArgs false
set_option maxRecDepth 100000

/-- Nothing of W has changed, these blocks are known, block g is the disk d, and beside it lies the document's disk r; the blocks of X are neither one's. -/
structure Bw (W w : World) (X : Nat → Prop) (L : List Row) (g : Nat) (d : D) (AL : Option Addr) (cL : Nat) (AK : Option Addr) (cK : Nat) (r : Rf) : Prop where
  st : St W w L
  dsk : ∃ F, Dsk w g d F ∧ (∀ b, F b → W.heap.size ≤ b) ∧ (∀ b, X b → ¬ F b) ∧ IsM (fun b => ¬ F b ∧ ¬ X b) w AL cL AK cK r
  mine : ∀ r ∈ L, X r.1
  low : ∀ b, X b → b < w.heap.size
section
variable {g : Nat} {W w w' : World} {X : Nat → Prop} {L : List Row} {d d' : D} {AL AL' : Option Addr} {cL cL' : Nat} {AK AK' : Option Addr} {cK cK' : Nat} {r r' : Rf}
theorem Bw.lw (h : Bw W w X L g d AL cL AK cK r) : Lw W w L g d := by
  obtain ⟨F, x, h1, h2, -⟩ := h.dsk
  exact ⟨h.st, F, x, h1, fun r hr => h2 _ (h.mine r hr)⟩
theorem Bw.ok (h : Bw W w X L g d AL cL AK cK r) : Ok d := h.lw.ok
theorem Bw.call (h : Bw W w X L g d AL cL AK cK r) (hb : Below w.heap.size w w') : Bw W w' X L g d AL cL AK cK r := by
  obtain ⟨F, x, h1, h2, h3⟩ := h.dsk
  exact ⟨h.st.call hb, ⟨F, x.call hb, h1, h2, h3.call hb⟩, h.mine, fun b hx => Nat.lt_of_lt_of_le (h.low b hx) hb.size⟩
theorem Bw.drewN (h : Bw W w X L g d AL cL AK cK r) (n : Nat) : Bw W (w.drewN n) X L g d AL cL AK cK r := h.call (below_drewN (Below.refl _ _) n)
theorem Bw.other (h : Bw W w X L g d AL cL AK cK r) (o : Obj) : Bw W (w.alloc o) X L g d AL cL AK cK r := h.call ((Below.refl _ _).alloc (Nat.le_refl _) o)
/-- Blocks that have come are ours. -/
theorem Bw.more (h : Bw W w X L g d AL cL AK cK r) (hb : Below w.heap.size w w') (Y : Nat → Prop) (hY : ∀ b, Y b → w.heap.size ≤ b ∧ b < w'.heap.size) : Bw W w' (fun b => X b ∨ Y b) L g d AL cL AK cK r := by
  obtain ⟨F, x, h1, h2, h3⟩ := h.dsk
  have h4 : IsM (fun b => ¬ F b ∧ ¬ (X b ∨ Y b)) w AL cL AK cK r := h3.mono fun b hlt hb => ⟨hb.1, fun hx => by
    rcases hx with hx | hx
    · exact hb.2 hx
    · have := (hY b hx).1
      omega⟩
  refine ⟨h.st.call hb, ⟨F, x.call hb, h1, fun b hx hf => ?_, h4.call hb⟩, fun r hr => .inl (h.mine r hr), fun b hx => ?_⟩
  · rcases hx with hx | hx
    · exact h2 b hx hf
    · have := x.low hf
      have := (hY b hx).1
      omega
  · rcases hx with hx | hx
    · exact Nat.lt_of_lt_of_le (h.low b hx) hb.size
    · exact (hY b hx).2
theorem Bw.less (h : Bw W w X L g d AL cL AK cK r) {Y : Nat → Prop} (hY : ∀ b, Y b → X b) (hL : ∀ r ∈ L, Y r.1) : Bw W w Y L g d AL cL AK cK r := by
  obtain ⟨F, x, h1, h2, h3⟩ := h.dsk
  exact ⟨h.st, ⟨F, x, h1, fun b hb => h2 b (hY b hb), h3.mono fun b _ hb => ⟨hb.1, fun hy => hb.2 (hY b hy)⟩⟩, hL, fun b hb => h.low b (hY b hb)⟩
/-- A block of ours is known, too. -/
theorem Bw.knew (h : Bw W w X L g d AL cL AK cK r) {x : Nat} {t : TypeId} {cs : Array Value} (hx : X x) (k : Whole w x t cs) : Bw W w X ((x, t, cs) :: L) g d AL cL AK cK r :=
  ⟨⟨h.st.below, fun r hr => by
    rcases List.mem_cons.1 hr with rfl | hr
    · exact k
    · exact h.st.knows r hr⟩, h.dsk, fun r hr => by
    rcases List.mem_cons.1 hr with rfl | hr
    · exact hx
    · exact h.mine r hr, h.low⟩
theorem Bw.alloc (h : Bw W w X L g d AL cL AK cK r) (x : Nat) (hx : x = w.heap.size) (t : TypeId) (cs : Array Value) : Bw W (w.alloc (.cells cs t)) (fun b => X b ∨ b = x) ((x, t, cs) :: L) g d AL cL AK cK r := by
  subst hx
  exact (h.more ((Below.refl w.heap.size w).alloc (Nat.le_refl _) (.cells cs t)) (fun b => b = w.heap.size) (fun b e => by subst e; simp)).knew (.inr rfl) (Whole.fresh w t cs)
theorem Bw.few {L' : List Row} (h : Bw W w X L g d AL cL AK cK r) (hl : ∀ r ∈ L', r ∈ L) : Bw W w X L' g d AL cL AK cK r := ⟨h.st.few hl, h.dsk, fun r hr => h.mine r (hl r hr), h.low⟩
/-- The program's disk becomes another one. -/
theorem Bw.turn (h : Bw W w X L g d AL cL AK cK r) {F : Nat → Prop} (h1 : ∀ b, F b → W.heap.size ≤ b) (h2 : ∀ b, X b → ¬ F b) (h3 : IsM (fun b => ¬ F b ∧ ¬ X b) w AL cL AK cK r) (hm : Moved F w w' g d') : Bw W w' X L g d' AL cL AK cK r := by
  obtain ⟨ho, F', hF, hd⟩ := hm
  have sk : ∀ {size n cap : Nat} {A : Option Addr} {xs : List Value}, Seen (fun b => ¬ F b ∧ ¬ X b) w size A n cap xs → Seen (fun b => ¬ F' b ∧ ¬ X b) w' size A n cap xs := fun {size n cap A xs} s => by
    refine ⟨⟨s.sees.1, fun hn => ?_⟩, fun h0 a ha => ?_, s.room, s.top, s.nil⟩
    · obtain ⟨b, off, rfl, hb, hc⟩ := s.sees.2 hn
      refine ⟨b, off, rfl, Nat.lt_of_lt_of_le hb ho.size, fun j u hu => ?_⟩
      have := ho.block b hb (s.far hn _ rfl).1
      rw [← hc j u hu]
      unfold World.cell?
      simp only [this]
    · obtain ⟨b, off, e, hb, hc⟩ := s.sees.2 h0
      obtain ⟨hnf, hr⟩ := s.far h0 a ha
      refine ⟨fun hf => ?_, hr⟩
      rw [e] at ha
      injection ha with ha
      subst ha
      rcases hF _ hf with hb2 | hb2
      · exact hnf hb2
      · simp only at hb2; omega
  refine ⟨⟨h.st.below.trans (ho.below h.st.below.size h1), fun r hr => ho.whole (h.st.knows r hr) (h2 _ (h.mine r hr))⟩, ⟨F', hd, fun b hb => ?_, fun b hx hf => ?_, ⟨sk h3.logs, sk h3.keep⟩⟩, h.mine, fun b hx => Nat.lt_of_lt_of_le (h.low b hx) ho.size⟩
  · rcases hF b hb with hb | hb
    · exact h1 b hb
    · exact Nat.le_trans h.st.below.size hb
  · rcases hF b hf with hb | hb
    · exact h2 b hx hb
    · have := h.low b hx
      omega
/-- Blocks of ours are as they were. -/
def Same (X : Nat → Prop) (w w' : World) : Prop := ∀ b, X b → w'.heap[b]? = w.heap[b]?
theorem Bw.kept (h : Bw W w X L g d AL cL AK cK r) {F : Nat → Prop} (h2 : ∀ b, X b → ¬ F b) (hm : Moved F w w' g d') : Same X w w' := fun b hx => hm.off.block b (h.low b hx) (h2 b hx)
/-- The document's disk becomes another one, out of the old one's blocks and new ones. -/
theorem Bw.next (h : Bw W w X L g d AL cL AK cK r) (hb : Below w.heap.size w w') (hm : ∀ G, IsM G w AL cL AK cK r → IsM (fun b => G b ∨ w.heap.size ≤ b) w' AL' cL' AK' cK' r') : Bw W w' X L g d AL' cL' AK' cK' r' := by
  obtain ⟨F, x, h1, h2, h3⟩ := h.dsk
  refine ⟨h.st.call hb, ⟨F, x.call hb, h1, h2, (hm _ h3).mono fun b _ hb2 => ?_⟩, h.mine, fun b hx => Nat.lt_of_lt_of_le (h.low b hx) hb.size⟩
  rcases hb2 with hb2 | hb2
  · exact hb2
  · refine ⟨fun hf => ?_, fun hx => ?_⟩
    · have := x.low hf; omega
    · have := h.low b hx; omega
/-- A cell of a block of ours that isn't known is set. -/
theorem Bw.setX (h : Bw W w X L g d AL cL AK cK r) {x : Nat} (hx : X x) (hW : W.heap.size ≤ x) (hd : ∀ r ∈ L, r.1 ≠ x) (k : Nat) (u : Value) : Bw W (w.setCell ⟨x, k, none⟩ u) X L g d AL cL AK cK r := by
  obtain ⟨F, ⟨h0, k0, vs, y⟩, h1, h2, h3⟩ := h.dsk
  have hp : ∀ b, (¬ F b ∧ ¬ X b) → b ≠ x := fun b hb e => hb.2 (e ▸ hx)
  refine ⟨⟨h.st.below.setCell (p := ⟨x, k, none⟩) hW u, fun r hr => (h.st.knows r hr).away (p := ⟨x, k, none⟩) (hd r hr) u⟩, ⟨F, ⟨h0, k0, vs, y.away (by simp) fun b hb => Below.heap_setCell w ⟨x, k, none⟩ u b fun e => ?_⟩, h1, h2, ⟨seen_set h3.logs ⟨x, k, none⟩ u hp, seen_set h3.keep ⟨x, k, none⟩ u hp⟩⟩, h.mine, fun b hb => by simpa using h.low b hb⟩
  subst e
  exact h2 _ hx hb
/-- A cell of the first block that is known is set. -/
theorem Bw.set0 {x : Nat} {t : TypeId} {cs : Array Value} (h : Bw W w X ((x, t, cs) :: L) g d AL cL AK cK r) (hx : W.heap.size ≤ x) (hd : ∀ r ∈ L, r.1 ≠ x) (k : Nat) (u : Value) : Bw W (w.setCell ⟨x, k, none⟩ u) X ((x, t, cs.setIfInBounds k u) :: L) g d AL cL AK cK r :=
  ((h.few (L' := L) fun r hr => List.mem_cons_of_mem _ hr).setX (h.mine _ (List.mem_cons_self ..)) hx hd k u).knew (h.mine _ (List.mem_cons_self ..)) ((h.st.knows.at 0 rfl).set k u)
theorem Bw.five {x : Nat} {t : TypeId} {a0 a1 a2 a3 a4 : Value} (h : Bw W w X ((x, t, #[a0, a1, a2, a3, a4]) :: L) g d AL cL AK cK r) (hx : W.heap.size ≤ x) (hd : ∀ r ∈ L, r.1 ≠ x) (b0 b1 b2 b3 b4 : Value) :
    Bw W (((((w.setCell ⟨x, 0, none⟩ b0).setCell ⟨x, 1, none⟩ b1).setCell ⟨x, 2, none⟩ b2).setCell ⟨x, 3, none⟩ b3).setCell ⟨x, 4, none⟩ b4) X ((x, t, #[b0, b1, b2, b3, b4]) :: L) g d AL cL AK cK r :=
  ((((h.set0 hx hd 0 b0).set0 hx hd 1 b1).set0 hx hd 2 b2).set0 hx hd 3 b3).set0 hx hd 4 b4
theorem Bw.class (h : Bw W w X L g d AL cL AK cK r) : ∃ C : World → Prop, C w.drew ∧ Hid (∀ a b, C a → Below a.heap.size a b → C b) ∧ Hid (∀ a, C a → Bw W a X L g d AL cL AK cK r) :=
  ⟨fun a => Bw W a X L g d AL cL AK cK r, h.drewN 1, Lib.hid fun a b ha hb => ha.call hb, Lib.hid fun a ha => ha⟩
/-! ### What the program does -/
theorem Bw.append (h : Bw W w X L g d AL cL AK cK r) {log : Int} (hlog : W64 log) {A : Option Addr} {cap : Nat} {bs : List UInt8} (hbs : bs.length ≤ 140737488355328) (ha : d.acts + 1 ≤ 9223372036854775807) (hin : InB w A cap bs) :
    Calls Try.prog 23 #[ptr g, .int .i64 log, .slice A bs.length cap] w fun e w' => e = .returned (.int .i64 (d.append log bs).2) ∧ Bw W w' X L g (d.append log bs).1 AL cL AK cK r ∧ Same X w w' := by
  obtain ⟨F, x, h1, h2, h3⟩ := h.dsk
  exact (append_any g d F log hlog A cap bs hbs ha w x hin).mono fun e w' ⟨he, hm⟩ => ⟨he, h.turn h1 h2 h3 hm, h.kept h2 hm⟩
theorem Bw.sync (h : Bw W w X L g d AL cL AK cK r) {log : Int} (hlog : W64 log) (ha : d.acts + 1 ≤ 9223372036854775807) :
    Calls Try.prog 52 #[ptr g, .int .i64 log] w fun e w' => e = .returned (.int .i64 (d.sync log).2) ∧ Bw W w' X L g (d.sync log).1 AL cL AK cK r ∧ Same X w w' := by
  obtain ⟨F, x, h1, h2, h3⟩ := h.dsk
  exact (sync_any g d F log hlog ha w x).mono fun e w' ⟨he, hm⟩ => ⟨he, h.turn h1 h2 h3 hm, h.kept h2 hm⟩
theorem Bw.swap (h : Bw W w X L g d AL cL AK cK r) {log : Int} (hlog : W64 log) {A : Option Addr} {cap : Nat} {bs : List UInt8} (ha : d.acts + 1 ≤ 9223372036854775807) (hin : InB w A cap bs) :
    Calls Try.prog 56 #[ptr g, .int .i64 log, .slice A bs.length cap] w fun e w' => e = .returned (.int .i64 (d.swap log bs).2) ∧ Bw W w' X L g (d.swap log bs).1 AL cL AK cK r ∧ Same X w w' := by
  obtain ⟨F, x, h1, h2, h3⟩ := h.dsk
  exact (swap_any g d F log hlog A cap bs ha w x hin).mono fun e w' ⟨he, hm⟩ => ⟨he, h.turn h1 h2 h3 hm, h.kept h2 hm⟩
theorem Bw.up (h : Bw W w X L g d AL cL AK cK r) : Calls Try.prog 13 #[ptr g] w fun e w' => e = .returned (.tuple #[]) ∧ Bw W w' X L g d.up AL cL AK cK r ∧ Same X w w' := by
  obtain ⟨F, x, h1, h2, h3⟩ := h.dsk
  exact (up_any g d F w x).mono fun e w' ⟨he, hm⟩ => ⟨he, h.turn h1 h2 h3 hm, h.kept h2 hm⟩
theorem Bw.crash (h : Bw W w X L g d AL cL AK cK r) {A : Option Addr} {cap : Nat} {keep : List Int} (hin : InI W w L A cap keep) :
    Calls Try.prog 32 #[ptr g, .slice A keep.length cap] w fun e w' => e = .returned (.tuple #[]) ∧ Bw W w' X L g (d.crash keep) AL cL AK cK r ∧ Same X w w' := by
  obtain ⟨F, x, h1, h2, h3⟩ := h.dsk
  obtain ⟨B, hB, hs⟩ := hin.sees
  exact (crash_any g d F B A cap keep w x hs hB (hin.away h1 (fun r hr => h2 _ (h.mine r hr))) hin.range hin.top).mono fun e w' ⟨he, hm⟩ => ⟨he, h.turn h1 h2 h3 hm, h.kept h2 hm⟩
theorem Bw.arm (h : Bw W w X L g d AL cL AK cK r) {n : Int} (hn : W64 n) {A : Option Addr} {cap : Nat} {keep : List Int} (hin : InI W w L A cap keep) :
    Calls Try.prog 31 #[ptr g, .int .i64 n, .slice A keep.length cap] w fun e w' => e = .returned (.tuple #[]) ∧ Bw W w' X L g (d.arm n keep) AL cL AK cK r ∧ Same X w w' := by
  obtain ⟨F, x, h1, h2, h3⟩ := h.dsk
  obtain ⟨B, hB, hs⟩ := hin.sees
  exact (arm_any g d F B A cap n hn keep w x hs hB (hin.away h1 (fun r hr => h2 _ (h.mine r hr))) hin.range).mono fun e w' ⟨he, hm⟩ => ⟨he, h.turn h1 h2 h3 hm, h.kept h2 hm⟩
/-! ### What the document does -/
theorem Bw.ract (h : Bw W w X L g d AL cL AK cK r) (o : Rok r) {kind log : Int} (hk : W64 kind) (hlog : W64 log) {b : List UInt8} (hb : b.length ≤ 4194304) :
    Calls Try.prog 40 #[vM AL cL AK cK r, .int .i64 kind, .int .i64 log, .string (txt b)] w fun e w' => ∃ A1 c1 A2 c2, e = .returned (.tuple #[vM A1 c1 A2 c2 (r.act kind log b).1, .int .i64 (r.act kind log b).2]) ∧ Bw W w' X L g d A1 c1 A2 c2 (r.act kind log b).1 ∧ Below w.heap.size w w' := by
  obtain ⟨F, x, h1, h2, h3⟩ := h.dsk
  exact (ract_any r o _ AL cL AK cK kind hk log hlog b hb w h3).mono fun e w' ⟨A1, c1, A2, c2, he, hb, hm⟩ => ⟨A1, c1, A2, c2, he, h.next hb hm, hb⟩
theorem Bw.rcrash (h : Bw W w X L g d AL cL AK cK r) (o : Rok r) {A : Option Addr} {cap : Nat} {keep : List Int} (hin : InI W w L A cap keep) :
    Calls Try.prog 39 #[vM AL cL AK cK r, .slice A keep.length cap] w fun e w' => ∃ A1 c1 A2 c2, e = .returned (vM A1 c1 A2 c2 (r.crash keep)) ∧ Bw W w' X L g d A1 c1 A2 c2 (r.crash keep) ∧ Below w.heap.size w w' := by
  obtain ⟨F, x, h1, h2, h3⟩ := h.dsk
  obtain ⟨B, hB, hs⟩ := hin.sees
  exact (rcrash_any r o _ AL cL AK cK A cap keep hin.range hin.top w h3 B hB hs).mono fun e w' ⟨A1, c1, A2, c2, he, hb, hm⟩ => ⟨A1, c1, A2, c2, he, h.next hb fun G _ => hm.mono fun _ _ h => .inr h, hb⟩
theorem Bw.rarm (h : Bw W w X L g d AL cL AK cK r) (o : Rok r) {n : Int} (hn : W64 n) {A : Option Addr} {cap : Nat} {keep : List Int} (hkl : keep.length ≤ 1000) (hnil : A = none → cap = 0) (hin : InI W w L A cap keep) :
    Calls Try.prog 38 #[vM AL cL AK cK r, .int .i64 n, .slice A keep.length cap] w fun e w' => ∃ A1 c1 A2 c2, e = .returned (vM A1 c1 A2 c2 (r.arm n keep)) ∧ Bw W w' X L g d A1 c1 A2 c2 (r.arm n keep) ∧ Below w.heap.size w w' := by
  obtain ⟨F, x, h1, h2, h3⟩ := h.dsk
  obtain ⟨B, hB, hs⟩ := hin.sees
  exact (rarm_any r o _ AL cL AK cK n hn keep hkl A cap hnil w h3 B hB hs).mono fun e w' ⟨A1, c1, A2, c2, he, hb, hm⟩ => ⟨A1, c1, A2, c2, he, h.next hb fun G _ => hm.mono fun _ _ h => .inr h, hb⟩
theorem Bw.rup (h : Bw W w X L g d AL cL AK cK r) : Calls Try.prog 14 #[vM AL cL AK cK r] w fun e w' => e = .returned (vM AL cL AK cK r.up) ∧ Bw W w' X L g d AL cL AK cK r.up ∧ Below w.heap.size w w' :=
  (rup_any r AL cL AK cK w).mono fun e w' ⟨he, hb⟩ => ⟨he, h.next hb fun G hm => ⟨(hm.logs.call hb).mono fun _ _ h => .inl h, (hm.keep.call hb).mono fun _ _ h => .inl h⟩, hb⟩
theorem Bw.rbytes (h : Bw W w X L g d AL cL AK cK r) (o : Rok r) {log : Int} (hlog : W64 log) :
    Calls Try.prog 19 #[vM AL cL AK cK r, .int .i64 log] w fun e w' => e = .returned (.tuple #[.string (txt (r.bytes log)), .bool (decide (0 ≤ log ∧ log < r.logs.length))]) ∧ Below w.heap.size w w' := by
  obtain ⟨F, x, h1, h2, h3⟩ := h.dsk
  exact rbytes_any r o _ AL cL AK cK log hlog w h3
end
end Go.Proofs.Ytlfigbgcackimaa
