/- Both wals in a play: where they stand, with the program's wal ahead of the document's. -/
import Derived.Test.YtlfigbgcackimaaWalH
namespace Go.Proofs.Ytlfigbgcackimaa
open Go.RowKit Go.Fm Go.Dk Go.Wl Go.Iv
set_option linter.unusedVariables false
set_option linter.unusedSimpArgs false
set_option maxRecDepth 100000

/-- What is neither the disk's, nor the pair's, nor the wal's, nor one of X. -/
def Ox (F : Nat → Prop) (y : Nat) (q : Option Nat) (X : Nat → Prop) (b : Nat) : Prop := Out F y q b ∧ ¬ X b
/-- Yx, with the program's wal told by itself, and blocks L that are nobody's, known; the blocks of X are nobody's, too, and the document's words lie beside them. -/
structure Yv (W w : World) (L : List Row) (X : Nat → Prop) (y g : Nat) (q : Option Nat) (F : Nat → Prop) (v : Wv) (d : D) (AL : Option Addr) (cL : Nat) (AK : Option Addr) (cK : Nat) (r : Rf) (AV : Option Addr) (cV : Nat) (u : Rw) : Prop where
  below : Below W.heap.size W w
  face : Whole w y 39 (ycells g q AL cL AK cK r AV cV u)
  dsk : Dsk w g d F
  wal : ∀ p, q = some p → Whole w p 89 (wcells g v) ∧ ¬ F p ∧ p ≠ y ∧ W.heap.size ≤ p
  new : W.heap.size ≤ y ∧ ¬ F y ∧ ∀ b, F b → W.heap.size ≤ b
  disk : IsM (Ox F y q X) w AL cL AK cK r
  list : IsW (Ox F y q X) w AV cV u
  knows : Knows w L
  far : ∀ r ∈ L, Out F y q r.1
  mine : ∀ b, X b → b < w.heap.size ∧ Out F y q b ∧ W.heap.size ≤ b
section
variable {W w w' : World} {L : List Row} {X : Nat → Prop} {y g : Nat} {q : Option Nat} {F : Nat → Prop} {v v' : Wv} {d d' : D} {AL : Option Addr} {cL : Nat} {AK : Option Addr} {cK : Nat} {r : Rf} {AV : Option Addr} {cV : Nat} {u : Rw}
theorem Yx.yv (h : Yx W w y g q F d AL cL AK cK r AV cV u) : Yv W w [] (fun _ => False) y g q F u.wv d AL cL AK cK r AV cV u := ⟨h.below, h.face, h.dsk, h.wal, h.new, h.disk.mono fun b _ hb => ⟨hb, fun h => h⟩, Seen.mono h.list fun b _ hb => ⟨hb, fun h => h⟩, Knows.nil _, (fun r hr => by cases hr), fun b hb => hb.elim⟩
theorem Yv.yx (h : Yv W w L X y g q F u.wv d AL cL AK cK r AV cV u) : Yx W w y g q F d AL cL AK cK r AV cV u := ⟨h.below, h.face, h.dsk, h.wal, h.new, h.disk.mono fun b _ hb => hb.1, Seen.mono h.list fun b _ hb => hb.1⟩
theorem Yv.call (h : Yv W w L X y g q F v d AL cL AK cK r AV cV u) (hb : Below w.heap.size w w') : Yv W w' L X y g q F v d AL cL AK cK r AV cV u :=
  ⟨h.below.trans (hb.mono h.below.size), h.face.below hb h.face.lt, h.dsk.call hb, fun p hp => by
    obtain ⟨h1, h2⟩ := h.wal p hp
    exact ⟨h1.below hb h1.lt, h2⟩, h.new, h.disk.call hb, Seen.call h.list hb, h.knows.keep hb, h.far, fun b hb2 => ⟨Nat.lt_of_lt_of_le (h.mine b hb2).1 hb.size, (h.mine b hb2).2⟩⟩
/-- A block that is new. -/
theorem Yv.out_new (h : Yv W w L X y g q F v d AL cL AK cK r AV cV u) {b : Nat} (hb : w.heap.size ≤ b) : Out F y q b := by
  refine ⟨fun hf => ?_, fun e => ?_, fun e => ?_⟩
  · have := h.dsk.low hf; omega
  · have := h.face.lt; omega
  · have := (h.wal b e).1.lt; omega
theorem Yv.alloc (h : Yv W w L X y g q F v d AL cL AK cK r AV cV u) (x : Nat) (hx : x = w.heap.size) (t : TypeId) (cs : Array Value) : Yv W (w.alloc (.cells cs t)) ((x, t, cs) :: L) X y g q F v d AL cL AK cK r AV cV u := by
  have h1 := h.call ((Below.refl _ _).alloc (Nat.le_refl _) (.cells cs t))
  refine ⟨h1.below, h1.face, h1.dsk, h1.wal, h1.new, h1.disk, h1.list, h.knows.alloc x hx t cs, fun r hr => ?_, h1.mine⟩
  rcases List.mem_cons.1 hr with rfl | hr
  · exact h.out_new (by rw [hx]; exact Nat.le_refl _)
  · exact h.far r hr
theorem Yv.few {L' : List Row} (h : Yv W w L X y g q F v d AL cL AK cK r AV cV u) (hl : ∀ r ∈ L', r ∈ L) : Yv W w L' X y g q F v d AL cL AK cK r AV cV u :=
  ⟨h.below, h.face, h.dsk, h.wal, h.new, h.disk, h.list, fun r hr => h.knows r (hl r hr), (fun r hr => h.far r (hl r hr)), h.mine⟩
theorem out_turn {F F' : Nat → Prop} {w : World} {y : Nat} {q : Option Nat} (hF : ∀ b, F' b → F b ∨ w.heap.size ≤ b) {b : Nat} (hb : b < w.heap.size) (ho : Out F y q b) : Out F' y q b :=
  ⟨fun hf => by
    rcases hF b hf with h | h
    · exact ho.1 h
    · omega, ho.2⟩
theorem Yv.ox_new (h : Yv W w L X y g q F v d AL cL AK cK r AV cV u) {b : Nat} (hb : w.heap.size ≤ b) : Ox F y q X b := ⟨h.out_new hb, fun hx => by have := (h.mine b hx).1; omega⟩
/-- The program's disk has moved. -/
theorem Yv.moved (h : Yv W w L X y g q F v d AL cL AK cK r AV cV u) (hm : Moved F w w' g d') : ∃ F', Yv W w' L X y g q F' v d' AL cL AK cK r AV cV u := by
  obtain ⟨ho, F', hF, hd⟩ := hm
  refine ⟨F', h.below.trans (ho.below h.below.size h.new.2.2), ho.whole h.face h.new.2.1, hd, fun p hp => ?_, ⟨h.new.1, fun hf => ?_, fun b hb => ?_⟩, ?_, ?_, fun r hr => ho.whole (h.knows r hr) (h.far r hr).1, fun r hr => out_turn hF (h.knows r hr).lt (h.far r hr), fun b hb => ⟨Nat.lt_of_lt_of_le (h.mine b hb).1 ho.size, out_turn hF (h.mine b hb).1 (h.mine b hb).2.1, (h.mine b hb).2.2⟩⟩
  · obtain ⟨h1, h2, h3, h4⟩ := h.wal p hp
    refine ⟨ho.whole h1 h2, fun hf => ?_, h3, h4⟩
    rcases hF p hf with hf | hf
    · exact h2 hf
    · have := h1.lt; omega
  · rcases hF y hf with hf | hf
    · exact h.new.2.1 hf
    · have := h.face.lt; omega
  · rcases hF b hb with hb | hb
    · exact h.new.2.2 b hb
    · exact Nat.le_trans h.below.size hb
  · exact ((h.disk.mono (H := fun b => Ox F y q X b ∧ b < w.heap.size) fun b hb hg => ⟨hg, hb⟩).off ho fun b hb => hb.1.1.1).mono fun b _ hb => ⟨out_turn hF hb.2 hb.1.1, hb.1.2⟩
  · exact (seen_off (h.list.mono (H := fun b => Ox F y q X b ∧ b < w.heap.size) fun b hb hg => ⟨hg, hb⟩) ho fun b hb => hb.1.1.1).mono fun b _ hb => ⟨out_turn hF hb.2 hb.1.1, hb.1.2⟩
/-- The program's wal has gone on. -/
theorem Yv.went {p : Nat} (h : Yv W w L X y g (some p) F v d AL cL AK cK r AV cV u) (hm : Went F w w' p g v' d') : ∃ F', Yv W w' L X y g (some p) F' v' d' AL cL AK cK r AV cV u := by
  obtain ⟨ho, F', hF, hx⟩ := hm
  obtain ⟨h1, h2, h3, h4⟩ := h.wal p rfl
  have hno : ∀ b, Out F y (some p) b → ¬ (F b ∨ b = p) := fun b hb hf => by
    rcases hf with hf | hf
    · exact hb.1 hf
    · exact hb.2.2 (by rw [hf])
  refine ⟨F', h.below.trans (ho.below h.below.size fun b hb => ?_), ho.whole h.face (fun hf => ?_), hx.dsk, fun p' hp => ?_, ⟨h.new.1, fun hf => ?_, fun b hb => ?_⟩, ?_, ?_, fun r hr => ho.whole (h.knows r hr) (hno _ (h.far r hr)), fun r hr => out_turn hF (h.knows r hr).lt (h.far r hr), fun b hb => ⟨Nat.lt_of_lt_of_le (h.mine b hb).1 ho.size, out_turn hF (h.mine b hb).1 (h.mine b hb).2.1, (h.mine b hb).2.2⟩⟩
  · rcases hb with hb | hb
    · exact h.new.2.2 b hb
    · rw [hb]; exact h4
  · rcases hf with hf | hf
    · exact h.new.2.1 hf
    · exact h3 hf.symm
  · injection hp with hp
    subst hp
    exact ⟨hx.face, hx.out, h3, h4⟩
  · rcases hF y hf with hf | hf
    · exact h.new.2.1 hf
    · have := h.face.lt; omega
  · rcases hF b hb with hb | hb
    · exact h.new.2.2 b hb
    · exact Nat.le_trans h.below.size hb
  · exact ((h.disk.mono (H := fun b => Ox F y (some p) X b ∧ b < w.heap.size) fun b hb hg => ⟨hg, hb⟩).off ho fun b hb => hno b hb.1.1).mono fun b _ hb => ⟨out_turn hF hb.2 hb.1.1, hb.1.2⟩
  · exact (seen_off (h.list.mono (H := fun b => Ox F y (some p) X b ∧ b < w.heap.size) fun b hb hg => ⟨hg, hb⟩) ho fun b hb => hno b hb.1.1).mono fun b _ hb => ⟨out_turn hF hb.2 hb.1.1, hb.1.2⟩
/-- What is nobody's is as it was. -/
theorem Yv.went_same {p : Nat} (h : Yv W w L X y g (some p) F v d AL cL AK cK r AV cV u) (hm : Went F w w' p g v' d') {b : Nat} (hb : Out F y (some p) b) (hlt : b < w.heap.size) : w'.heap[b]? = w.heap[b]? :=
  hm.off.block b hlt fun hf => by
    rcases hf with hf | hf
    · exact hb.1 hf
    · exact hb.2.2 (by rw [hf])
theorem Yv.wx {p : Nat} (h : Yv W w L X y g (some p) F v d AL cL AK cK r AV cV u) : Wx w p g v d F := ⟨(h.wal p rfl).1, h.dsk, (h.wal p rfl).2.1⟩
/-- What the document has made of its disk lies beside all. -/
theorem Yv.beside (h : Yv W w L X y g q F v d AL cL AK cK r AV cV u) (hb : Below w.heap.size w w') {A1 : Option Addr} {c1 : Nat} {A2 : Option Addr} {c2 : Nat} {r' : Rf} (hm : ∀ G, IsM G w AL cL AK cK r → IsM (fun b => G b ∨ w.heap.size ≤ b) w' A1 c1 A2 c2 r') : IsM (Ox F y q X) w' A1 c1 A2 c2 r' :=
  (hm _ h.disk).mono fun b _ hb => by
    rcases hb with hb | hb
    · exact hb
    · exact h.ox_new hb
theorem Yv.besideW (h : Yv W w L X y g q F v d AL cL AK cK r AV cV u) (hb : Below w.heap.size w w') {A3 : Option Addr} {c3 : Nat} {u' : Rw} (hm : ∀ G, IsW G w AV cV u → IsW (fun b => G b ∨ w.heap.size ≤ b) w' A3 c3 u') : IsW (Ox F y q X) w' A3 c3 u' :=
  Seen.mono (hm _ h.list) fun b _ hb => by
    rcases hb with hb | hb
    · exact hb
    · exact h.ox_new hb
theorem off_y (w : World) (y k : Nat) (x : Value) {w1 : World} (h : Off (fun b => b = y) w w1) : Off (fun b => b = y) w (w1.setCell ⟨y, k, none⟩ x) := h.set (p := ⟨y, k, none⟩) (.inl rfl) x
/-- The pair's cells have been set. -/
theorem Yv.turn (h : Yv W w L X y g q F v d AL cL AK cK r AV cV u) (ho : Off (fun b => b = y) w w') {A1 : Option Addr} {c1 : Nat} {A2 : Option Addr} {c2 : Nat} {r' : Rf} {A3 : Option Addr} {c3 : Nat} {u' : Rw}
    (hf : Whole w' y 39 (ycells g q A1 c1 A2 c2 r' A3 c3 u')) (hm : IsM (Ox F y q X) w A1 c1 A2 c2 r') (hw : IsW (Ox F y q X) w A3 c3 u') : Yv W w' L X y g q F v d A1 c1 A2 c2 r' A3 c3 u' := by
  refine ⟨h.below.trans (ho.below h.below.size fun b e => by rw [e]; exact h.new.1), hf, ?_, fun p hp => ?_, h.new, hm.off ho fun b hb => hb.1.2.1, seen_off hw ho fun b hb => hb.1.2.1, fun r hr => ho.whole (h.knows r hr) (h.far r hr).2.1, h.far, fun b hb => ⟨Nat.lt_of_lt_of_le (h.mine b hb).1 ho.size, (h.mine b hb).2⟩⟩
  · obtain ⟨a, b, c, x⟩ := h.dsk
    exact ⟨a, b, c, x.off ho fun b hb e => h.new.2.1 (e ▸ hb)⟩
  · obtain ⟨h1, h2, h3, h4⟩ := h.wal p hp
    exact ⟨ho.whole h1 h3, h2, h3, h4⟩
theorem Yv.setM (h : Yv W w L X y g q F v d AL cL AK cK r AV cV u) {A1 : Option Addr} {c1 : Nat} {A2 : Option Addr} {c2 : Nat} {r' : Rf} (hm : IsM (Ox F y q X) w A1 c1 A2 c2 r') :
    Yv W (((((w.setCell ⟨y, 2, none⟩ (.slice A1 r'.logs.length c1)).setCell ⟨y, 3, none⟩ (.int .i64 r'.acts)).setCell ⟨y, 4, none⟩ (.bool r'.off)).setCell ⟨y, 5, none⟩ (.int .i64 r'.armed)).setCell ⟨y, 6, none⟩ (.slice A2 r'.keep.length c2)) L X y g q F v d A1 c1 A2 c2 r' AV cV u := by
  refine h.turn (off_y _ _ _ _ (off_y _ _ _ _ (off_y _ _ _ _ (off_y _ _ _ _ (off_y _ _ _ _ (Off.refl _ _)))))) ?_ hm h.list
  have := ((((h.face.set 2 (.slice A1 r'.logs.length c1)).set 3 (.int .i64 r'.acts)).set 4 (.bool r'.off)).set 5 (.int .i64 r'.armed)).set 6 (.slice A2 r'.keep.length c2)
  simpa [ycells] using this
theorem Yv.setV (h : Yv W w L X y g q F v d AL cL AK cK r AV cV u) {A3 : Option Addr} {c3 : Nat} {u' : Rw} (hw : IsW (Ox F y q X) w A3 c3 u') :
    Yv W ((((w.setCell ⟨y, 7, none⟩ (.int .i64 u'.log)).setCell ⟨y, 8, none⟩ (.slice A3 u'.ls.length c3)).setCell ⟨y, 9, none⟩ (.int .i64 u'.sure)).setCell ⟨y, 10, none⟩ (.bool u'.dead)) L X y g q F v d AL cL AK cK r A3 c3 u' := by
  refine h.turn (off_y _ _ _ _ (off_y _ _ _ _ (off_y _ _ _ _ (off_y _ _ _ _ (Off.refl _ _))))) ?_ h.disk hw
  have := (((h.face.set 7 (.int .i64 u'.log)).set 8 (.slice A3 u'.ls.length c3)).set 9 (.int .i64 u'.sure)).set 10 (.bool u'.dead)
  simpa [ycells] using this
/-- A cell of a block of X is set. -/
theorem Yv.setX (h : Yv W w L X y g q F v d AL cL AK cK r AV cV u) {b : Nat} (hx : X b) (hd : ∀ r ∈ L, r.1 ≠ b) (k : Nat) (x : Value) : Yv W (w.setCell ⟨b, k, none⟩ x) L X y g q F v d AL cL AK cK r AV cV u := by
  obtain ⟨m1, ⟨m2, m3, m4⟩, m5⟩ := h.mine b hx
  have ho : Off (fun c => c = b) w (w.setCell ⟨b, k, none⟩ x) := (Off.refl (fun c => c = b) w).set (p := ⟨b, k, none⟩) (.inl rfl) x
  refine ⟨h.below.trans (ho.below h.below.size fun c e => by rw [e]; exact m5), ho.whole h.face (fun e => m3 e.symm), ?_, fun p hp => ?_, h.new, h.disk.off ho (fun c hc e => hc.2 (by rw [e]; exact hx)), seen_off h.list ho (fun c hc e => hc.2 (by rw [e]; exact hx)), fun r hr => ho.whole (h.knows r hr) (hd r hr), h.far, fun c hc => ⟨Nat.lt_of_lt_of_le (h.mine c hc).1 ho.size, (h.mine c hc).2⟩⟩
  · obtain ⟨a, c, e, z⟩ := h.dsk
    exact ⟨a, c, e, z.off ho fun c hc e => m2 (e ▸ hc)⟩
  · obtain ⟨h1, h2, h3, h4⟩ := h.wal p hp
    exact ⟨ho.whole h1 (fun e => m4 (by rw [hp, e])), h2, h3, h4⟩
/-- More blocks of X: new ones. -/
theorem Yv.withX (h : Yv W w L X y g q F v d AL cL AK cK r AV cV u) (hb : Below w.heap.size w w') (b : Nat) (h1 : w.heap.size ≤ b) (h2 : b < w'.heap.size) : Yv W w' L (fun c => X c ∨ c = b) y g q F v d AL cL AK cK r AV cV u := by
  have hc := h.call hb
  refine ⟨hc.below, hc.face, hc.dsk, hc.wal, hc.new, ?_, ?_, hc.knows, hc.far, fun c hx => ?_⟩
  · exact ((h.disk.mono (H := fun c => Ox F y q X c ∧ c < w.heap.size) fun c hc hg => ⟨hg, hc⟩).call hb).mono fun c _ hc => ⟨hc.1.1, fun hx => by
      rcases hx with hx | hx
      · exact hc.1.2 hx
      · have := hc.2; omega⟩
  · exact (Seen.call (h.list.mono (H := fun c => Ox F y q X c ∧ c < w.heap.size) fun c hc hg => ⟨hg, hc⟩) hb).mono fun c _ hc => ⟨hc.1.1, fun hx => by
      rcases hx with hx | hx
      · exact hc.1.2 hx
      · have := hc.2; omega⟩
  · rcases hx with hx | hx
    · exact hc.mine c hx
    · subst hx
      exact ⟨h2, h.out_new h1, Nat.le_trans h.below.size h1⟩
/-- Fewer blocks of X. -/
theorem Yv.lessX {Y : Nat → Prop} (h : Yv W w L X y g q F v d AL cL AK cK r AV cV u) (hY : ∀ b, Y b → X b) : Yv W w L Y y g q F v d AL cL AK cK r AV cV u :=
  ⟨h.below, h.face, h.dsk, h.wal, h.new, h.disk.mono fun b _ hb => ⟨hb.1, fun hy => hb.2 (hY b hy)⟩, Seen.mono h.list fun b _ hb => ⟨hb.1, fun hy => hb.2 (hY b hy)⟩, h.knows, h.far, fun b hb => h.mine b (hY b hb)⟩
theorem Yv.cells (h : Yv W w L X y g q F v d AL cL AK cK r AV cV u) :
    (w.cell? ⟨y, 0, none⟩ = some (ptr g) ∧ w.cell? ⟨y, 1, none⟩ = some (wptr q)) ∧
    (w.cell? ⟨y, 2, none⟩ = some (.slice AL r.logs.length cL) ∧ w.cell? ⟨y, 3, none⟩ = some (.int .i64 r.acts) ∧ w.cell? ⟨y, 4, none⟩ = some (.bool r.off) ∧ w.cell? ⟨y, 5, none⟩ = some (.int .i64 r.armed) ∧ w.cell? ⟨y, 6, none⟩ = some (.slice AK r.keep.length cK)) ∧
    (w.cell? ⟨y, 7, none⟩ = some (.int .i64 u.log) ∧ w.cell? ⟨y, 8, none⟩ = some (.slice AV u.ls.length cV) ∧ w.cell? ⟨y, 9, none⟩ = some (.int .i64 u.sure) ∧ w.cell? ⟨y, 10, none⟩ = some (.bool u.dead)) ∧
    (w.frozen? ⟨y, 2, none⟩ = false ∧ w.frozen? ⟨y, 3, none⟩ = false ∧ w.frozen? ⟨y, 4, none⟩ = false ∧ w.frozen? ⟨y, 5, none⟩ = false ∧ w.frozen? ⟨y, 6, none⟩ = false) ∧
    (w.frozen? ⟨y, 7, none⟩ = false ∧ w.frozen? ⟨y, 8, none⟩ = false ∧ w.frozen? ⟨y, 9, none⟩ = false ∧ w.frozen? ⟨y, 10, none⟩ = false) :=
  ⟨⟨h.face.cell 0, h.face.cell 1⟩, ⟨h.face.cell 2, h.face.cell 3, h.face.cell 4, h.face.cell 5, h.face.cell 6⟩, ⟨h.face.cell 7, h.face.cell 8, h.face.cell 9, h.face.cell 10⟩, ⟨h.face.free 2, h.face.free 3, h.face.free 4, h.face.free 5, h.face.free 6⟩, ⟨h.face.free 7, h.face.free 8, h.face.free 9, h.face.free 10⟩⟩
end
/-- A slot that holds v once its operation has come, and z ahead of that: so (XWalJ). Where an Act of the document's stands, a: it has come, b: its disk has been put into the pair, c: its wal has. -/
structure Sg (W w1 : World) (L : List Row) (X : Nat → Prop) (y g p : Nat) (F : Nat → Prop) (v : Wv) (d : D) (AL : Option Addr) (cL : Nat) (AK : Option Addr) (cK : Nat) (r : Rf) (AV : Option Addr) (cV : Nat) (u : Rw) (r' : Rf) (u' : Rw) (A1 : Option Addr) (c1 : Nat) (A2 : Option Addr) (c2 : Nat) (A3 : Option Addr) (c3 : Nat) (a b c : Bool) (z : World) : Prop where
  zero : a = false → b = false ∧ c = false ∧ Yv W z L X y g (some p) F v d AL cL AK cK r AV cV u
  one : a = true → b = false → c = false ∧ Yv W z L X y g (some p) F v d AL cL AK cK r AV cV u ∧ IsM (Ox F y (some p) X) z A1 c1 A2 c2 r' ∧ IsW (Ox F y (some p) X) z A3 c3 u'
  two : b = true → c = false → Yv W z L X y g (some p) F v d A1 c1 A2 c2 r' AV cV u ∧ IsW (Ox F y (some p) X) z A3 c3 u'
  three : c = true → b = true ∧ Yv W z L X y g (some p) F v d A1 c1 A2 c2 r' A3 c3 u'
  ord : b = true → a = true
  same : ∀ b, X b → z.heap[b]? = w1.heap[b]?
section
variable {W w z w1 : World} {L : List Row} {X : Nat → Prop} {y g p : Nat} {F : Nat → Prop} {v : Wv} {d : D} {AL : Option Addr} {cL : Nat} {AK : Option Addr} {cK : Nat} {r : Rf} {AV : Option Addr} {cV : Nat} {u : Rw} {r' : Rf} {u' : Rw} {A1 : Option Addr} {c1 : Nat} {A2 : Option Addr} {c2 : Nat} {A3 : Option Addr} {c3 : Nat}
theorem Sg.start (h : Yv W w L X y g (some p) F v d AL cL AK cK r AV cV u) (hs : ∀ b, X b → w.heap[b]? = w1.heap[b]?) : Sg W w1 L X y g p F v d AL cL AK cK r AV cV u r' u' A1 c1 A2 c2 A3 c3 false false false w :=
  ⟨fun _ => ⟨rfl, rfl, h⟩, (fun h => by cases h), (fun h => by cases h), (fun h => by cases h), (fun h => by cases h), hs⟩
theorem Sg.made (h : Yv W w L X y g (some p) F v d AL cL AK cK r AV cV u) (hs : ∀ b, X b → w.heap[b]? = w1.heap[b]?) (hb : Below w.heap.size w z) (hm : ∀ G, IsM G w AL cL AK cK r → IsM (fun b => G b ∨ w.heap.size ≤ b) z A1 c1 A2 c2 r') (hw : ∀ G, IsW G w AV cV u → IsW (fun b => G b ∨ w.heap.size ≤ b) z A3 c3 u') :
    Sg W w1 L X y g p F v d AL cL AK cK r AV cV u r' u' A1 c1 A2 c2 A3 c3 true false false z :=
  ⟨(fun h => by cases h), (fun _ _ => ⟨rfl, h.call hb, h.beside hb hm, h.besideW hb hw⟩), (fun h => by cases h), (fun h => by cases h), (fun h => by cases h), fun b hx => (hb.block b (h.mine b hx).1).trans (hs b hx)⟩
theorem Sg.setM (h : Sg W w1 L X y g p F v d AL cL AK cK r AV cV u r' u' A1 c1 A2 c2 A3 c3 true false false z) :
    Sg W w1 L X y g p F v d AL cL AK cK r AV cV u r' u' A1 c1 A2 c2 A3 c3 true true false (((((z.setCell ⟨y, 2, none⟩ (.slice A1 r'.logs.length c1)).setCell ⟨y, 3, none⟩ (.int .i64 r'.acts)).setCell ⟨y, 4, none⟩ (.bool r'.off)).setCell ⟨y, 5, none⟩ (.int .i64 r'.armed)).setCell ⟨y, 6, none⟩ (.slice A2 r'.keep.length c2)) := by
  obtain ⟨-, h1, h2, h3⟩ := h.one rfl rfl
  have ho : Off (fun b => b = y) z _ := off_y z y 6 (.slice A2 r'.keep.length c2) (off_y z y 5 (.int .i64 r'.armed) (off_y z y 4 (.bool r'.off) (off_y z y 3 (.int .i64 r'.acts) (off_y z y 2 (.slice A1 r'.logs.length c1) (Off.refl _ z)))))
  exact ⟨(fun h => by cases h), (fun _ h => by cases h), (fun _ _ => ⟨h1.setM h2, seen_off h3 ho fun b hb => hb.1.2.1⟩), (fun h => by cases h), (fun _ => rfl), fun b hx => (ho.block b (h1.mine b hx).1 (h1.mine b hx).2.1.2.1).trans (h.same b hx)⟩
theorem Sg.setV (h : Sg W w1 L X y g p F v d AL cL AK cK r AV cV u r' u' A1 c1 A2 c2 A3 c3 true true false z) :
    Sg W w1 L X y g p F v d AL cL AK cK r AV cV u r' u' A1 c1 A2 c2 A3 c3 true true true ((((z.setCell ⟨y, 7, none⟩ (.int .i64 u'.log)).setCell ⟨y, 8, none⟩ (.slice A3 u'.ls.length c3)).setCell ⟨y, 9, none⟩ (.int .i64 u'.sure)).setCell ⟨y, 10, none⟩ (.bool u'.dead)) := by
  obtain ⟨h1, h2⟩ := h.two rfl rfl
  exact ⟨(fun h => by cases h), (fun _ h => by cases h), (fun _ h => by cases h), (fun _ => ⟨rfl, h1.setV h2⟩), (fun _ => rfl), fun b hx => ((show Off (fun b => b = y) z _ from off_y z y 10 (.bool u'.dead) (off_y z y 9 (.int .i64 u'.sure) (off_y z y 8 (.slice A3 u'.ls.length c3) (off_y z y 7 (.int .i64 u'.log) (Off.refl _ z))))).block b (h1.mine b hx).1 (h1.mine b hx).2.1.2.1).trans (h.same b hx)⟩
end
end Go.Proofs.Ytlfigbgcackimaa
