/- Disks in memory: a disk's blocks; what an act leaves as it was. -/
import Derived.Test.YtlfigbgcackimaaDiskM
import Derived.Test.YtlfigbgcackimaaInv
namespace Go.Proofs.Ytlfigbgcackimaa
open Go.RowKit Go.Dk
set_option linter.unusedVariables false
set_option linter.unusedSimpArgs false
set_option maxRecDepth 100000

/-- Nothing old has changed, but for the blocks of F. -/
structure Off (F : Nat → Prop) (w w' : World) : Prop where
  os : w'.os = w.os
  tape : w'.tape = w.tape
  output : w'.output = w.output
  size : w.heap.size ≤ w'.heap.size
  block : ∀ k, k < w.heap.size → ¬ F k → w'.heap[k]? = w.heap[k]?
section
variable {F F' : Nat → Prop} {a b c w w' : World}
theorem Off.of (h : Below w.heap.size w w') (F : Nat → Prop) : Off F w w' := ⟨h.os, h.tape, h.output, h.size, fun k hk _ => h.block k hk⟩
theorem Off.refl (F : Nat → Prop) (w : World) : Off F w w := .of (Below.refl _ _) F
theorem Off.trans (h : Off F a b) (k : Off F b c) : Off F a c :=
  ⟨k.os.trans h.os, k.tape.trans h.tape, k.output.trans h.output, Nat.le_trans h.size k.size, fun i hi hg => (k.block i (Nat.lt_of_lt_of_le hi h.size) hg).trans (h.block i hi hg)⟩
/-- Behind a step that may have taken new blocks in. -/
theorem Off.then (h : Off F a b) (hF : ∀ k, F' k → F k ∨ a.heap.size ≤ k) (k : Off F' b c) : Off F a c :=
  ⟨k.os.trans h.os, k.tape.trans h.tape, k.output.trans h.output, Nat.le_trans h.size k.size, fun i hi hg => (k.block i (Nat.lt_of_lt_of_le hi h.size) (fun hf => by
    rcases hF i hf with h | h
    · exact hg h
    · omega)).trans (h.block i hi hg)⟩
theorem Off.call (h : Off F a w) (k : Below w.heap.size w w') : Off F a w' := h.trans (.of k F)
theorem Off.drewN (h : Off F a w) (n : Nat) : Off F a (w.drewN n) := ⟨h.os, h.tape, h.output, h.size, h.block⟩
theorem Off.alloc (h : Off F a w) (o : Obj) : Off F a (w.alloc o) := h.call ((Below.refl _ _).alloc (Nat.le_refl _) o)
theorem Off.set (h : Off F a w) {p : Addr} (hp : F p.block ∨ a.heap.size ≤ p.block) (u : Value) : Off F a (w.setCell p u) := by
  have hb := (Below.refl 0 w).setCell (p := p) (Nat.zero_le _) u
  refine ⟨hb.os.trans h.os, hb.tape.trans h.tape, hb.output.trans h.output, Nat.le_trans h.size hb.size, fun i hi hg => ?_⟩
  rw [Below.heap_setCell w p u i (fun e => by
    rcases hp with hp | hp
    · exact hg (e ▸ hp)
    · omega)]
  exact h.block i hi hg
theorem Off.setRow (h : Off F a w) {g : Nat} (hp : F g ∨ a.heap.size ≤ g) (cs : Array Value) : Off F a (w.setRow g cs) :=
  ⟨h.os, h.tape, h.output, by simpa using h.size, fun i hi hg => by
    rw [setRow_other w g i cs (fun e => by
      rcases hp with hp | hp
      · exact hg (e ▸ hp)
      · omega)]
    exact h.block i hi hg⟩
theorem Off.grown (h : Off F a w) {row : Option Nat} (k : w.grownBy w' row) (hr : ∀ g, row = some g → F g ∨ a.heap.size ≤ g) : Off F a w' :=
  ⟨k.os.trans h.os, k.tape.trans h.tape, k.output.trans h.output, Nat.le_trans h.size k.size, fun i hi hg => by
    rw [k.block i (Nat.lt_of_lt_of_le hi h.size) (fun e => by
      rcases hr i e.symm with hp | hp
      · exact hg hp
      · omega)]
    exact h.block i hi hg⟩
theorem Off.below (h : Off F w w') {B : Nat} (hB : B ≤ w.heap.size) (hF : ∀ k, F k → B ≤ k) : Below B w w' :=
  ⟨h.os, h.tape, h.output, h.size, fun k hk => h.block k (by omega) (fun hf => by have := hF k hf; omega)⟩
theorem Off.whole (h : Off F w w') {x : Nat} {t : TypeId} {cs : Array Value} (k : Whole w x t cs) (hx : ¬ F x) : Whole w' x t cs := (h.block x k.lt hx).trans k
end
theorem whole_unlike {w : World} {x y : Nat} {s t : TypeId} {cs ds : Array Value} (h : Whole w x s cs) (k : Whole w y t ds) (hst : s ≠ t) : x ≠ y := by
  intro e
  subst e
  have := (show w.heap[x]? = _ from h).symm.trans k
  injection this with this
  injection this with h1 h2
  exact hst h2
theorem Whole.setRow {w : World} {g : Nat} {t : TypeId} {cs : Array Value} (h : Whole w g t cs) (ds : Array Value) : Whole (w.setRow g ds) g t ds := setRow_heap w g cs ds t (0, 0) h
theorem Whole.rowAway {w : World} {x g : Nat} {t : TypeId} {cs : Array Value} (h : Whole w x t cs) (hx : x ≠ g) (ds : Array Value) : Whole (w.setRow g ds) x t cs := (setRow_other w g x ds hx).trans h
theorem OwnB.at {w w' : World} {B : Nat} {v : Value} {bs : List UInt8} (h : OwnB w B v bs) (hk : ∀ b, v.ownBlock = some b → w'.heap[b]? = w.heap[b]?) : OwnB w' B v bs := by
  refine ⟨h.1, ?_⟩
  rcases h.2 with hn | ⟨g, cap, cur, rfl, hb, hg, r⟩
  · exact .inl hn
  · exact .inr ⟨g, cap, cur, rfl, hb, (hk g rfl).trans hg, r⟩
theorem OwnB.block {w : World} {B : Nat} {v : Value} {bs : List UInt8} (h : OwnB w B v bs) {b : Nat} (hv : v.ownBlock = some b) : ∃ cs, Whole w b 5 cs := by
  rcases h.2 with ⟨rfl, _⟩ | ⟨g, cap, cur, rfl, hb, hg, r⟩
  · simp [Value.ownBlock] at hv
  · have : g = b := by simpa [Value.ownBlock] using hv
    subst this
    exact ⟨cur, hg⟩
/-- Fewer of them: the slice is cut. -/
theorem OwnB.cutTo {w : World} {B : Nat} {A : Option Addr} {n c : Nat} {bs : List UInt8} (h : OwnB w B (.slice A n c) bs) (k : Nat) (hk : k ≤ bs.length) : OwnB w B (.slice A k c) (bs.take k) := by
  unfold OwnB at *
  rw [List.length_take, Nat.min_eq_left hk, ← take_cells]
  have h1 := h.1
  refine ⟨by rw [List.length_take, h1]; omega, ?_⟩
  rcases h.2 with ⟨hn, h0⟩ | ⟨g, cap, cur, hv, hb, hg, h2, h3, h4, h5⟩
  · simp only [Value.slice.injEq] at hn
    obtain ⟨rfl, -, rfl⟩ := hn
    obtain rfl : k = 0 := by omega
    exact .inl ⟨rfl, rfl⟩
  · simp only [Value.slice.injEq] at hv
    obtain ⟨rfl, -, rfl⟩ := hv
    refine .inr ⟨g, c, cur, rfl, hb, hg, by omega, h3, h4, ?_⟩
    rw [← h5, List.take_take, Nat.mul_one, Nat.mul_one, Nat.min_eq_left hk]

abbrev ptr (g : Nat) : Value := .pointer (some ⟨g, 0, none⟩)
def ints (l : List Int) : List Value := l.map fun n => .int .i64 n
def upd (vs : Nat → Value) (i : Nat) (v : Value) : Nat → Value := fun j => if j = i then v else vs j
theorem upd_same (vs : Nat → Value) (i : Nat) (v : Value) : upd vs i v i = v := by simp [upd]
theorem upd_other (vs : Nat → Value) {i j : Nat} (v : Value) (h : j ≠ i) : upd vs i v j = vs j := by simp [upd, h]

/-- Block g is the disk d: its logs lie in block h, what was armed in block k, and vs are the logs' bytes; all of it is in F. -/
structure Dx (w : World) (g h k : Nat) (vs : Nat → Value) (d : D) (F : Nat → Prop) : Prop where
  ok : Ok d
  face : Whole w g 77 #[.slice (some ⟨h, 0, none⟩) d.logs.length d.logs.length, .int .i64 d.acts, .bool d.down, .int .i64 d.ahead, .slice (some ⟨k, 0, none⟩) d.logs.length d.logs.length]
  row : ∃ cs, Whole w h 94 cs ∧ ∀ i c, d.logs[i]? = some c → cs[i * 2]? = some (vs i) ∧ cs[i * 2 + 1]? = some (.int .i64 c.sure)
  kept : Whole w k 3 (ints d.keep).toArray
  own : ∀ i c, d.logs[i]? = some c → OwnB w 0 (vs i) c.all
  apart : ∀ i j b, i < d.logs.length → j < d.logs.length → (vs i).ownBlock = some b → (vs j).ownBlock = some b → i = j
  mine : F g ∧ F h ∧ F k ∧ ∀ i b, i < d.logs.length → (vs i).ownBlock = some b → F b
  low : ∀ b, F b → b < w.heap.size
section
variable {w w' : World} {g h k : Nat} {vs : Nat → Value} {d : D} {F : Nat → Prop}
theorem at_lt {i : Nat} {c : Lg} {l : List Lg} (h : l[i]? = some c) : i < l.length := (List.getElem?_eq_some_iff.1 h).1
theorem Dx.away (x : Dx w g h k vs d F) (hs : w.heap.size ≤ w'.heap.size) (hk : ∀ b, F b → w'.heap[b]? = w.heap[b]?) : Dx w' g h k vs d F := by
  obtain ⟨m1, m2, m3, m4⟩ := x.mine
  obtain ⟨cs, c1, c2⟩ := x.row
  refine ⟨x.ok, (hk g m1).trans x.face, ⟨cs, (hk h m2).trans c1, c2⟩, (hk k m3).trans x.kept, fun i c hc => (x.own i c hc).at fun b hb => hk b (m4 i b (at_lt hc) hb), x.apart, x.mine, fun b hb => ?_⟩
  have := x.low b hb
  omega
theorem Dx.call (x : Dx w g h k vs d F) (hb : Below w.heap.size w w') : Dx w' g h k vs d F := x.away hb.size fun b hf => hb.block b (x.low b hf)
theorem Dx.alloc (x : Dx w g h k vs d F) (o : Obj) : Dx (w.alloc o) g h k vs d F := x.call ((Below.refl _ _).alloc (Nat.le_refl _) o)
theorem Dx.drewN (x : Dx w g h k vs d F) (n : Nat) : Dx (w.drewN n) g h k vs d F := x.away (Nat.le_refl _) fun _ _ => rfl
/-- Something else is changed. -/
theorem Dx.off {G : Nat → Prop} (x : Dx w g h k vs d F) (ho : Off G w w') (hG : ∀ b, F b → ¬ G b) : Dx w' g h k vs d F := x.away ho.size fun b hf => ho.block b (x.low b hf) (hG b hf)
theorem Dx.more {F' : Nat → Prop} (x : Dx w g h k vs d F) (h1 : ∀ b, F b → F' b) (h2 : ∀ b, F' b → b < w.heap.size) : Dx w g h k vs d F' :=
  ⟨x.ok, x.face, x.row, x.kept, x.own, x.apart, ⟨h1 _ x.mine.1, h1 _ x.mine.2.1, h1 _ x.mine.2.2.1, fun i b hi hb => h1 _ (x.mine.2.2.2 i b hi hb)⟩, h2⟩
theorem Dx.gh (x : Dx w g h k vs d F) : g ≠ h := by obtain ⟨cs, c1, c2⟩ := x.row; exact whole_unlike x.face c1 (by decide)
theorem Dx.gk (x : Dx w g h k vs d F) : g ≠ k := whole_unlike x.face x.kept (by decide)
theorem Dx.hk (x : Dx w g h k vs d F) : h ≠ k := by obtain ⟨cs, c1, c2⟩ := x.row; exact whole_unlike c1 x.kept (by decide)
theorem Dx.bytes (x : Dx w g h k vs d F) {i b : Nat} {c : Lg} (hi : d.logs[i]? = some c) (hb : (vs i).ownBlock = some b) : b ≠ g ∧ b ≠ h ∧ b ≠ k := by
  obtain ⟨cs, hw⟩ := (x.own i c hi).block hb
  obtain ⟨ds, c1, -⟩ := x.row
  exact ⟨whole_unlike hw x.face (by decide), whole_unlike hw c1 (by decide), whole_unlike hw x.kept (by decide)⟩
/-- The disk's own cells. -/
theorem Dx.cells (x : Dx w g h k vs d F) :
    w.cell? ⟨g, 0, none⟩ = some (.slice (some ⟨h, 0, none⟩) d.logs.length d.logs.length) ∧ w.cell? ⟨g, 1, none⟩ = some (.int .i64 d.acts) ∧ w.cell? ⟨g, 2, none⟩ = some (.bool d.down) ∧ w.cell? ⟨g, 3, none⟩ = some (.int .i64 d.ahead) ∧ w.cell? ⟨g, 4, none⟩ = some (.slice (some ⟨k, 0, none⟩) d.logs.length d.logs.length) :=
  ⟨x.face.cell 0, x.face.cell 1, x.face.cell 2, x.face.cell 3, x.face.cell 4⟩
theorem Dx.free (x : Dx w g h k vs d F) : w.frozen? ⟨g, 1, none⟩ = false ∧ w.frozen? ⟨g, 2, none⟩ = false ∧ w.frozen? ⟨g, 3, none⟩ = false := ⟨x.face.free 1, x.face.free 2, x.face.free 3⟩
theorem Dx.log (x : Dx w g h k vs d F) {i : Nat} {c : Lg} (hi : d.logs[i]? = some c) :
    w.cell? ⟨h, i * 2, none⟩ = some (vs i) ∧ w.cell? ⟨h, i * 2 + 1, none⟩ = some (.int .i64 c.sure) ∧ w.frozen? ⟨h, i * 2, none⟩ = false ∧ w.frozen? ⟨h, i * 2 + 1, none⟩ = false := by
  obtain ⟨cs, c1, c2⟩ := x.row
  exact ⟨(c1.cell _).trans (c2 i c hi).1, (c1.cell _).trans (c2 i c hi).2, c1.free _, c1.free _⟩
theorem Dx.slice (x : Dx w g h k vs d F) {i : Nat} {c : Lg} (hi : d.logs[i]? = some c) : ∃ A cap, vs i = .slice A c.all.length cap ∧ c.all.length ≤ cap ∧ cap ≤ 9223372036854775807 ∧ (A = none → cap = 0) := own_slice0 (x.own i c hi)

/-- A cell of the face is set: what the disk is then. -/
theorem Dx.setFace (x : Dx w g h k vs d F) (n : Nat) (u : Value) {d' : D} (hl : d'.logs = d.logs) (hkp : d'.keep = d.keep) (ok : Ok d')
    (hf : (#[.slice (some ⟨h, 0, none⟩) d.logs.length d.logs.length, .int .i64 d.acts, .bool d.down, .int .i64 d.ahead, .slice (some ⟨k, 0, none⟩) d.logs.length d.logs.length] : Array Value).setIfInBounds n u =
      #[.slice (some ⟨h, 0, none⟩) d.logs.length d.logs.length, .int .i64 d'.acts, .bool d'.down, .int .i64 d'.ahead, .slice (some ⟨k, 0, none⟩) d.logs.length d.logs.length]) :
    Dx (w.setCell ⟨g, n, none⟩ u) g h k vs d' F := by
  obtain ⟨cs, c1, c2⟩ := x.row
  refine ⟨ok, ?_, ?_, ?_, ?_, ?_, ?_, ?_⟩
  · have := x.face.set n u
    rw [hf] at this
    rw [hl]; exact this
  · rw [hl]; exact ⟨cs, c1.away (p := ⟨g, n, none⟩) (Ne.symm x.gh) u, c2⟩
  · rw [hkp]; exact x.kept.away (p := ⟨g, n, none⟩) (Ne.symm x.gk) u
  · rw [hl]; exact fun i c hi => (x.own i c hi).at fun b hb => Below.heap_setCell w _ u b (x.bytes hi hb).1
  · rw [hl]; exact x.apart
  · rw [hl]; exact x.mine
  · intro b hb
    have := x.low b hb
    simpa using this
/-- A log's row is set: its bytes' slice, and how many are sure, to what they are in d'. -/
theorem Dx.setLog (x : Dx w g h k vs d F) {i : Nat} {c : Lg} (hi : d.logs[i]? = some c) (v : Value) (c' : Lg) (hc : c'.okay) {F' : Nat → Prop} {w' : World}
    (hs : w.heap.size ≤ w'.heap.size) (h1 : ∀ b, F b → F' b) (h2 : ∀ b, F' b → b < w'.heap.size)
    (hrow : ∀ cs, Whole w h 94 cs → Whole w' h 94 ((cs.setIfInBounds (i * 2) v).setIfInBounds (i * 2 + 1) (.int .i64 c'.sure)))
    (hrest : ∀ b, F b → b ≠ h → (vs i).ownBlock ≠ some b → w'.heap[b]? = w.heap[b]?)
    (hown : OwnB w' 0 v c'.all) (hnew : ∀ b, v.ownBlock = some b → F' b ∧ ((vs i).ownBlock = some b ∨ w.heap.size ≤ b)) :
    Dx w' g h k (upd vs i v) (d.put i c') F' := by
  obtain ⟨m1, m2, m3, m4⟩ := x.mine
  obtain ⟨cs, c1, c2⟩ := x.row
  have hlt := at_lt hi
  have hlen : (d.put i c').logs.length = d.logs.length := by simp [D.put]
  have other : ∀ j c0, j ≠ i → (d.put i c').logs[j]? = some c0 → d.logs[j]? = some c0 := fun j c0 hj h0 => by
    simp only [D.put] at h0
    rwa [List.getElem?_set_ne (Ne.symm hj)] at h0
  have same : ∀ c0, (d.put i c').logs[i]? = some c0 → c0 = c' := fun c0 h0 => by
    simp only [D.put] at h0
    rw [List.getElem?_set_self hlt] at h0
    injection h0 with h0; exact h0.symm
  refine ⟨x.ok.put hc, ?_, ⟨_, hrow cs c1, ?_⟩, ?_, ?_, ?_, ⟨h1 _ m1, h1 _ m2, h1 _ m3, ?_⟩, h2⟩
  · rw [hlen]
    exact (hrest g m1 x.gh (fun e => (x.bytes hi e).1 rfl)).trans x.face
  · intro j c0 hj
    by_cases e : j = i
    · subst e
      obtain rfl := same c0 hj
      have hcs := c2 j c hi
      have s0 := (Array.getElem?_eq_some_iff.1 hcs.1).1
      have s1 := (Array.getElem?_eq_some_iff.1 hcs.2).1
      rw [upd_same]
      refine ⟨?_, ?_⟩
      · rw [Array.getElem?_setIfInBounds_ne (by omega), Array.getElem?_setIfInBounds_self_of_lt s0]
      · rw [Array.getElem?_setIfInBounds_self_of_lt (by simpa using s1)]
    · rw [upd_other _ _ e]
      have hcs := c2 j c0 (other j c0 e hj)
      refine ⟨?_, ?_⟩
      · rw [Array.getElem?_setIfInBounds_ne (by omega), Array.getElem?_setIfInBounds_ne (by omega)]; exact hcs.1
      · rw [Array.getElem?_setIfInBounds_ne (by omega), Array.getElem?_setIfInBounds_ne (by omega)]; exact hcs.2
  · exact (hrest k m3 (Ne.symm x.hk) (fun e => (x.bytes hi e).2.2 rfl)).trans x.kept
  · intro j c0 hj
    by_cases e : j = i
    · subst e
      obtain rfl := same c0 hj
      rw [upd_same]; exact hown
    · rw [upd_other _ _ e]
      have hj' := other j c0 e hj
      refine (x.own j c0 hj').at fun b hb => hrest b (m4 j b (at_lt hj') hb) (x.bytes hj' hb).2.1 fun e2 => e ?_
      exact x.apart j i b (at_lt hj') hlt hb e2
  · intro j l b hj hl hb1 hb2
    rw [hlen] at hj hl
    have key : ∀ j, j < d.logs.length → j ≠ i → (vs j).ownBlock = some b → ¬ ((vs i).ownBlock = some b ∨ w.heap.size ≤ b) := fun j hj hne hb hor => by
      rcases hor with h | h
      · exact hne (x.apart j i b hj hlt hb h)
      · have := x.low b (m4 j b hj hb); omega
    by_cases e1 : j = i
    · by_cases e2 : l = i
      · rw [e1, e2]
      · subst e1
        rw [upd_same] at hb1
        rw [upd_other _ _ e2] at hb2
        exact absurd (hnew b hb1).2 (key l hl e2 hb2)
    · by_cases e2 : l = i
      · subst e2
        rw [upd_same] at hb2
        rw [upd_other _ _ e1] at hb1
        exact absurd (hnew b hb2).2 (key j hj e1 hb1)
      · rw [upd_other _ _ e1] at hb1
        rw [upd_other _ _ e2] at hb2
        exact x.apart j l b hj hl hb1 hb2
  · intro j b hj hb
    rw [hlen] at hj
    by_cases e : j = i
    · subst e
      rw [upd_same] at hb
      exact (hnew b hb).1
    · rw [upd_other _ _ e] at hb
      exact h1 b (m4 j b hj hb)
end
/-- Block g is the disk d, all of it in F. -/
def Dsk (w : World) (g : Nat) (d : D) (F : Nat → Prop) : Prop := ∃ h k vs, Dx w g h k vs d F
/-- The disk g has become d', and nothing else that is old has changed. -/
structure Moved (F : Nat → Prop) (w w' : World) (g : Nat) (d' : D) : Prop where
  off : Off F w w'
  dsk : ∃ F', (∀ b, F' b → F b ∨ w.heap.size ≤ b) ∧ Dsk w' g d' F'
theorem Dsk.call {w w' : World} {g : Nat} {d : D} {F : Nat → Prop} (x : Dsk w g d F) (hb : Below w.heap.size w w') : Dsk w' g d F := by
  obtain ⟨h, k, vs, x⟩ := x
  exact ⟨h, k, vs, x.call hb⟩
end Go.Proofs.Ytlfigbgcackimaa
