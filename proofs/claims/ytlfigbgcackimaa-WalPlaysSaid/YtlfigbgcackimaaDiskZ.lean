/- Where a law of layer 7 stands; its arguments opened; few, made, awake. -/
import Derived.Test.YtlfigbgcackimaaDiskF
import Derived.Test.YtlfigbgcackimaaOpen
namespace Go.Dk
/-- A disk of three logs with power, for which nothing is armed, behind at most n acts. -/
structure Fit (d : D) (n : Nat) : Prop where
  acts : d.acts ≤ n
  ahead : d.ahead = 0
  down : d.down = false
  len : d.logs.length = 3
theorem act_acts (d : D) (log : Int) (size : Nat) (c : Lg) : (d.act log size c).1.acts ≤ d.acts + 1 := by
  unfold D.act; split
  · exact Nat.le_succ _
  · split
    · exact Nat.le_succ _
    · split
      · exact Nat.le_succ _
      · exact Nat.le_refl _
theorem act_len (d : D) (log : Int) (size : Nat) (c : Lg) : (d.act log size c).1.logs.length = d.logs.length := by
  unfold D.act; split
  · rfl
  · split
    · rfl
    · split
      · simp [D.lose]
      · simp [D.done]
theorem act_ahead (d : D) (log : Int) (size : Nat) (c : Lg) (h : d.ahead = 0) : (d.act log size c).1.ahead = 0 ∧ (d.act log size c).1.down = d.down := by
  unfold D.act; split
  · exact ⟨h, rfl⟩
  · split
    · exact ⟨h, rfl⟩
    · rw [if_neg (by omega)]
      exact ⟨by show d.ahead - 1 = 0; omega, rfl⟩
theorem Fit.act {d : D} {n : Nat} (f : Fit d n) (log : Int) (size : Nat) (c : Lg) : Fit (d.act log size c).1 (n + 1) := by
  have h1 := act_acts d log size c
  have h2 := act_ahead d log size c f.ahead
  have := f.acts
  exact ⟨by omega, h2.1, h2.2.trans f.down, (act_len d log size c).trans f.len⟩
theorem Fit.append {d : D} {n : Nat} (f : Fit d n) (log : Int) (b : List UInt8) : Fit (d.append log b).1 (n + 1) := f.act _ _ _
theorem Fit.sync {d : D} {n : Nat} (f : Fit d n) (log : Int) : Fit (d.sync log).1 (n + 1) := f.act _ _ _
theorem Fit.swap {d : D} {n : Nat} (f : Fit d n) (log : Int) (b : List UInt8) : Fit (d.swap log b).1 (n + 1) := f.act _ _ _
theorem Fit.lost {d : D} {n : Nat} (f : Fit d n) (keep : List Int) : Fit (d.crash keep).up n := by
  unfold D.crash
  rw [if_neg (by simp [f.down])]
  exact ⟨f.acts, rfl, rfl, by simp [D.up, D.lose]; exact f.len⟩
theorem Fit.more {d : D} {n m : Nat} (f : Fit d n) (h : n ≤ m) : Fit d m := ⟨Nat.le_trans f.acts h, f.ahead, f.down, f.len⟩
theorem Fit.new : Fit (D.new 3) 0 := ⟨Nat.le_refl _, rfl, rfl, rfl⟩
end Go.Dk
namespace Go.Proofs.Ytlfigbgcackimaa
open Go.ChangeShapes Go.WideShapes Go.ChangeAt Go.RowKit Go.Dk
set_option linter.unusedVariables false
set_option linter.unusedSimpArgs false
set_option maxRecDepth 100000

/-- Where a law stands: nothing of W has changed, these blocks are known, and block g, which is none of W, is this disk. -/
structure Lw (W w : World) (L : List Row) (g : Nat) (d : D) : Prop where
  st : St W w L
  dsk : ∃ F, Dsk w g d F ∧ (∀ b, F b → W.heap.size ≤ b) ∧ ∀ r ∈ L, ¬ F r.1
section
variable {g : Nat} {W w w' : World} {L : List Row} {d d' : D}
theorem Dsk.low {F : Nat → Prop} (x : Dsk w g d F) {b : Nat} (hb : F b) : b < w.heap.size := by obtain ⟨h, k, vs, x⟩ := x; exact x.low b hb
theorem Dsk.ok {F : Nat → Prop} (x : Dsk w g d F) : Ok d := by obtain ⟨h, k, vs, x⟩ := x; exact x.ok
theorem Lw.ok (h : Lw W w L g d) : Ok d := by obtain ⟨F, x, -⟩ := h.dsk; exact x.ok
theorem Lw.call (h : Lw W w L g d) (hb : Below w.heap.size w w') : Lw W w' L g d := by
  obtain ⟨F, x, h1, h2⟩ := h.dsk
  exact ⟨h.st.call hb, F, x.call hb, h1, h2⟩
theorem Lw.drewN (h : Lw W w L g d) (n : Nat) : Lw W (w.drewN n) L g d := h.call (below_drewN (Below.refl _ _) n)
theorem Lw.alloc (h : Lw W w L g d) (x : Nat) (hx : x = w.heap.size) (t : TypeId) (cs : Array Value) : Lw W (w.alloc (.cells cs t)) ((x, t, cs) :: L) g d := by
  obtain ⟨F, y, h1, h2⟩ := h.dsk
  refine ⟨h.st.alloc x hx t cs, F, y.call ((Below.refl _ _).alloc (Nat.le_refl _) _), h1, fun r hr => ?_⟩
  rcases List.mem_cons.1 hr with rfl | hr
  · intro hf
    have := y.low hf
    show False
    simp only at this
    omega
  · exact h2 r hr
theorem Lw.few {L' : List Row} (h : Lw W w L g d) (hl : ∀ r ∈ L', r ∈ L) : Lw W w L' g d := by
  obtain ⟨F, y, h1, h2⟩ := h.dsk
  exact ⟨h.st.few hl, F, y, h1, fun r hr => h2 r (hl r hr)⟩
/-- A cell of the first block that is known is set. -/
theorem Lw.set0 {x : Nat} {t : TypeId} {cs : Array Value} (h : Lw W w ((x, t, cs) :: L) g d) (hx : W.heap.size ≤ x) (hd : ∀ r ∈ L, r.1 ≠ x) (k : Nat) (u : Value) : Lw W (w.setCell ⟨x, k, none⟩ u) ((x, t, cs.setIfInBounds k u) :: L) g d := by
  obtain ⟨F, ⟨h0, k0, vs, y⟩, h1, h2⟩ := h.dsk
  refine ⟨h.st.set0 hx hd k u, F, ⟨h0, k0, vs, y.away (by simp) fun b hb => Below.heap_setCell w ⟨x, k, none⟩ u b fun e => ?_⟩, h1, fun r hr => ?_⟩
  · subst e
    exact h2 _ (List.mem_cons_self ..) hb
  · rcases List.mem_cons.1 hr with rfl | hr
    · exact h2 (x, t, cs) (List.mem_cons_self ..)
    · exact h2 r (List.mem_cons_of_mem _ hr)
theorem Lw.turn (h : Lw W w L g d) {F : Nat → Prop} (h1 : ∀ b, F b → W.heap.size ≤ b) (h2 : ∀ r ∈ L, ¬ F r.1) (hm : Moved F w w' g d') : Lw W w' L g d' := by
  obtain ⟨ho, F', hF, hd⟩ := hm
  refine ⟨⟨h.st.below.trans (ho.below h.st.below.size h1), fun r hr => ho.whole (h.st.knows r hr) (h2 r hr)⟩, F', hd, fun b hb => ?_, fun r hr hf => ?_⟩
  · rcases hF b hb with hb | hb
    · exact h1 b hb
    · exact Nat.le_trans h.st.below.size hb
  · rcases hF r.1 hf with hb | hb
    · exact h2 r hr hb
    · have := (h.st.knows r hr).lt
      omega
theorem Lw.append (h : Lw W w L g d) {log : Int} (hlog : W64 log) {A : Option Addr} {cap : Nat} {bs : List UInt8} (hbs : bs.length ≤ 140737488355328) (ha : d.acts + 1 ≤ 9223372036854775807) (hin : InB w A cap bs) :
    Calls Try.prog 23 #[ptr g, .int .i64 log, .slice A bs.length cap] w fun e w' => e = .returned (.int .i64 (d.append log bs).2) ∧ Lw W w' L g (d.append log bs).1 := by
  obtain ⟨F, x, h1, h2⟩ := h.dsk
  exact (append_any g d F log hlog A cap bs hbs ha w x hin).mono fun e w' ⟨he, hm⟩ => ⟨he, h.turn h1 h2 hm⟩
theorem Lw.sync (h : Lw W w L g d) {log : Int} (hlog : W64 log) (ha : d.acts + 1 ≤ 9223372036854775807) :
    Calls Try.prog 52 #[ptr g, .int .i64 log] w fun e w' => e = .returned (.int .i64 (d.sync log).2) ∧ Lw W w' L g (d.sync log).1 := by
  obtain ⟨F, x, h1, h2⟩ := h.dsk
  exact (sync_any g d F log hlog ha w x).mono fun e w' ⟨he, hm⟩ => ⟨he, h.turn h1 h2 hm⟩
theorem Lw.swap (h : Lw W w L g d) {log : Int} (hlog : W64 log) {A : Option Addr} {cap : Nat} {bs : List UInt8} (ha : d.acts + 1 ≤ 9223372036854775807) (hin : InB w A cap bs) :
    Calls Try.prog 56 #[ptr g, .int .i64 log, .slice A bs.length cap] w fun e w' => e = .returned (.int .i64 (d.swap log bs).2) ∧ Lw W w' L g (d.swap log bs).1 := by
  obtain ⟨F, x, h1, h2⟩ := h.dsk
  exact (swap_any g d F log hlog A cap bs ha w x hin).mono fun e w' ⟨he, hm⟩ => ⟨he, h.turn h1 h2 hm⟩
theorem Lw.up (h : Lw W w L g d) : Calls Try.prog 13 #[ptr g] w fun e w' => e = .returned (.tuple #[]) ∧ Lw W w' L g d.up := by
  obtain ⟨F, x, h1, h2⟩ := h.dsk
  exact (up_any g d F w x).mono fun e w' ⟨he, hm⟩ => ⟨he, h.turn h1 h2 hm⟩
theorem Lw.down (h : Lw W w L g d) : Calls Try.prog 20 #[ptr g] w fun e w' => e = .returned (.bool d.down) ∧ w' = w := by
  obtain ⟨F, x, h1, h2⟩ := h.dsk
  exact down_any g d F w x
theorem Lw.acts (h : Lw W w L g d) : Calls Try.prog 21 #[ptr g] w fun e w' => e = .returned (.int .i64 d.acts) ∧ w' = w := by
  obtain ⟨F, x, h1, h2⟩ := h.dsk
  exact acts_any g d F w x
theorem Lw.sure (h : Lw W w L g d) {log : Int} (hlog : W64 log) : Calls Try.prog 28 #[ptr g, .int .i64 log] w fun e w' => e = .returned (.int .i64 (d.of log).sure) ∧ Below w.heap.size w w' := by
  obtain ⟨F, x, h1, h2⟩ := h.dsk
  exact sure_any g d F log hlog w x
theorem Lw.read (h : Lw W w L g d) {log : Int} (hlog : W64 log) : Calls Try.prog 26 #[ptr g, .int .i64 log] w fun e w' => ∃ v, e = .returned (.tuple #[v, .int .i64 (d.check log)]) ∧ OwnB w' w.heap.size v (d.read log) ∧ Below w.heap.size w w' := by
  obtain ⟨F, x, h1, h2⟩ := h.dsk
  exact read_any g d F log hlog w x
/-- A list of numbers that is none of the disk's. -/
structure InI (W w : World) (L : List Row) (A : Option Addr) (cap : Nat) (l : List Int) : Prop where
  sees : ∃ B, B ≤ w.heap.size ∧ Sees w B 1 A l.length (ints l)
  far : 0 < l.length → ∀ a, A = some a → a.block < W.heap.size ∨ ∃ r ∈ L, r.1 = a.block
  range : ∀ n ∈ l, W64 n
  top : l.length ≤ 9223372036854775807
theorem InI.away {A : Option Addr} {cap : Nat} {l : List Int} (h : InI W w L A cap l) {F : Nat → Prop} (h1 : ∀ b, F b → W.heap.size ≤ b) (h2 : ∀ r ∈ L, ¬ F r.1) : 0 < l.length → ∀ a, A = some a → ¬ F a.block := fun h0 a ha hf => by
  rcases h.far h0 a ha with h | ⟨r, hr, e⟩
  · have := h1 _ hf; omega
  · exact h2 r hr (e ▸ hf)
theorem Lw.crash (h : Lw W w L g d) {A : Option Addr} {cap : Nat} {keep : List Int} (hin : InI W w L A cap keep) :
    Calls Try.prog 32 #[ptr g, .slice A keep.length cap] w fun e w' => e = .returned (.tuple #[]) ∧ Lw W w' L g (d.crash keep) := by
  obtain ⟨F, x, h1, h2⟩ := h.dsk
  obtain ⟨B, hB, hs⟩ := hin.sees
  exact (crash_any g d F B A cap keep w x hs hB (hin.away h1 h2) hin.range hin.top).mono fun e w' ⟨he, hm⟩ => ⟨he, h.turn h1 h2 hm⟩
theorem Lw.arm (h : Lw W w L g d) {n : Int} (hn : W64 n) {A : Option Addr} {cap : Nat} {keep : List Int} (hin : InI W w L A cap keep) :
    Calls Try.prog 31 #[ptr g, .int .i64 n, .slice A keep.length cap] w fun e w' => e = .returned (.tuple #[]) ∧ Lw W w' L g (d.arm n keep) := by
  obtain ⟨F, x, h1, h2⟩ := h.dsk
  obtain ⟨B, hB, hs⟩ := hin.sees
  exact (arm_any g d F B A cap n hn keep w x hs hB (hin.away h1 h2) hin.range).mono fun e w' ⟨he, hm⟩ => ⟨he, h.turn h1 h2 hm⟩
end
/-- A new disk. -/
theorem new_lw {W w : World} {L : List Row} (h : St W w L) (n : Nat) (h1 : 1 ≤ n) (h2 : n ≤ 16) :
    Calls Try.prog 9 #[.int .i64 n] w fun e w' => ∃ g, e = .returned (.tuple #[ptr g, .int .i64 0]) ∧ Lw W w' L g (D.new n) :=
  (new_any n h1 h2 w).mono fun e w' ⟨g, F, he, hb, hF, hd⟩ => ⟨g, he, h.call hb, F, hd, fun b hb2 => Nat.le_trans h.below.size (hF b hb2), fun r hr hf => by
    have := hF _ hf
    have := (h.knows r hr).lt
    omega⟩
theorem w64 (n : Int) (h : -9223372036854775808 ≤ n ∧ n ≤ 9223372036854775807) : W64 n := h
/-- Bytes just built. -/
theorem inB_built {w : World} {L : List Row} (h : Knows w L) (i : Nat) {b : Nat} {bs : List UInt8} (hr : L[i]? = some (b, 5, (Lib.byteCells bs).toArray)) (hb : bs.length ≤ 9223372036854775807) : InB w (some ⟨b, 0, none⟩) bs.length bs :=
  ⟨⟨b + 1, (h.at i hr).lt, seesB_whole (h.at i hr)⟩, Nat.le_refl _, hb, fun h => by cases h⟩
end Go.Proofs.Ytlfigbgcackimaa
