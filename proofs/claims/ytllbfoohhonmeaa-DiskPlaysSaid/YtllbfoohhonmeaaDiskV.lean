/- The law's does: an act on both disks. (Written by gdoes.py.) -/
import Derived.Test.YtllbfoohhonmeaaDiskU
import Derived.Deep.CutRange
import Derived.Deep.CutBlock
import Derived.Deep.DeepCutAuto
namespace Go.Proofs.Ytllbfoohhonmeaa
open Go.RowKit Go.Dk Go.Iv
set_option linter.unusedVariables false
set_option linter.unusedSimpArgs false
set_option maxRecDepth 100000

/-- A row of bytes of our own: these, none frozen. -/
def Ours (y : World) (q : Nat) (s : List UInt8) : Prop := ∃ (cs : Array Value) (lo hi : Nat), y.heap[q]? = some (.cells cs 5 (lo, hi)) ∧ s.length ≤ lo ∧ ∀ (j : Nat) (u : Value), (Lib.byteCells s)[j]? = some u → cs[j]? = some u
theorem Ours.at {y y' : World} {q : Nat} {s : List UInt8} (h : Ours y q s) (hk : y'.heap[q]? = y.heap[q]?) : Ours y' q s := by
  obtain ⟨cs, lo, hi, h1, h2⟩ := h
  exact ⟨cs, lo, hi, hk.trans h1, h2⟩
theorem Ours.lt {y : World} {q : Nat} {s : List UInt8} (h : Ours y q s) : q < y.heap.size := by
  obtain ⟨cs, lo, hi, h1, h2⟩ := h
  exact (Array.getElem?_eq_some_iff.1 h1).1
theorem Ours.call {y y' : World} {q : Nat} {s : List UInt8} (h : Ours y q s) (hb : Below y.heap.size y y') : Ours y' q s := h.at (hb.block q h.lt)
theorem Ours.inB {y : World} {q : Nat} {s : List UInt8} (h : Ours y q s) {c : Nat} (h1 : s.length ≤ c) (h2 : c ≤ 9223372036854775807) : InB y (some ⟨q, 0, none⟩) c s := by
  have hlt := h.lt
  obtain ⟨cs, lo, hi, e, -, hc⟩ := h
  refine ⟨⟨y.heap.size, Nat.le_refl _, by simp [Lib.byteCells], fun _ => ⟨q, 0, rfl, hlt, fun j u hu => ?_⟩⟩, h1, h2, fun h => by cases h⟩
  rw [Nat.zero_add, cell_of_row y q j cs _ _ e]
  exact hc j u hu
/-- Where the copies of what is handed in stand: the text's bytes, the numbers. -/
structure Two (w1 y : World) (s : List UInt8) (keep : List Int) (q c : Nat) (v3 v6 : Value) (b2 b3 b6 : Bool) : Prop where
  below : Below w1.heap.size w1 y
  text : b2 = true → w1.heap.size ≤ q ∧ Ours y q s ∧ s.length ≤ c ∧ c ≤ 9223372036854775807
  made : b3 = true → b6 = false → y.ownsRow w1.heap.size 3 1 v3 0 []
  grew : b6 = true → y.ownsRow w1.heap.size 3 1 v6 keep.length (ints keep)
  ord : b6 = true → b3 = true
section
variable {w1 y : World} {s : List UInt8} {keep : List Int} {q c : Nat} {v3 v6 : Value} {b2 b3 b6 : Bool}
theorem Two.conv (h : Two w1 y s keep q c v3 v6 false b3 b6) (hs : s.length ≤ 2000) : ∃ c' y', (convert 9 41 (.string (txt s))).run Try.prog y = .ok (.slice (some ⟨y.heap.size, 0, none⟩) s.length c') y' ∧ Two w1 y' s keep y.heap.size c' v3 v6 true b3 b6 := by
  have hr := run_bytes_of_string y 9 41 5 (txt s) Try.underlying9 Try.underlying41 Try.underlying5
  obtain ⟨c', y', hrun, hin, hb⟩ := text_run s (by omega) y
  refine ⟨c', y', hrun, h.below.trans (hb.mono h.below.size), fun _ => ⟨h.below.size, ?_, hin.room, hin.top⟩, fun h1 h2 => own_keep (h.made h1 h2) hb (Nat.le_refl _), fun h1 => own_keep (h.grew h1) hb (Nat.le_refl _), h.ord⟩
  rw [hrun] at hr
  injection hr with e1 e2
  subst e2
  refine ⟨_, _, _, heap_alloc_new (w := y.drew) _, ?_, fun j u hu => ?_⟩
  · unfold bytesRow
    simp [txt]
  · have hj : j < s.length := by
      have := (List.getElem?_eq_some_iff.1 hu).1
      simpa [Lib.byteCells] using this
    rw [bytesRow_at (txt s) _ j (by simpa [txt] using hj)]
    unfold Lib.byteCells at hu
    rw [List.getElem?_map, List.getElem?_eq_getElem hj] at hu
    simpa [txt] using hu
theorem Two.build (h : Two w1 y s keep q c v3 v6 b2 false false) : Two w1 (y.alloc (.cells #[] 3)) s keep q c (.slice (some ⟨y.heap.size, 0, none⟩) 0 0) v6 b2 true false := by
  have hb := (Below.refl y.heap.size y).alloc (Nat.le_refl _) (.cells #[] 3)
  refine ⟨h.below.trans (hb.mono h.below.size), fun h1 => ?_, fun _ _ => own_less (own_empty y 3 1) h.below.size, (fun h => by cases h), fun h => by cases h⟩
  obtain ⟨e1, e2, e3⟩ := h.text h1
  exact ⟨e1, e2.call hb, e3⟩
theorem Two.append {y' : World} {v : Value} (h : Two w1 y s keep q c v3 v6 b2 true false) (ho : y'.ownsRow w1.heap.size 3 1 v keep.length (ints keep)) (hg : y.grownBy y' v3.ownBlock) : Two w1 y' s keep q c v3 v b2 true true := by
  have hm := h.made rfl rfl
  refine ⟨h.below.grown hg h.below.size fun g hr => (hm.lt g hr).1, fun h1 => ?_, (fun _ h => by cases h), (fun _ => ho), fun _ => rfl⟩
  obtain ⟨e1, e2, e3⟩ := h.text h1
  refine ⟨e1, e2.at (hg.block q e2.lt fun e => ?_), e3⟩
  obtain ⟨cs, hcs⟩ := own_block hm e.symm
  obtain ⟨ds, lo, hi, hd, -⟩ := e2
  have := (show y.heap[q]? = _ from hcs).symm.trans hd
  injection this with this
  injection this with _ h2
  exact absurd h2 (by decide)
end

/-- The numbers' copy: its row, if it has one. -/
def RowI (A : Option Addr) (m : Nat) (R : List Row) : Prop := (m = 0 ∧ R = []) ∨ ∃ b cur, A = some ⟨b, 0, none⟩ ∧ R = [(b, 3, cur)] ∧ ∀ i, i < m → ∃ k : Int, cur[i]? = some (.int .i64 k) ∧ W64 k
theorem Bw.ownI {g : Nat} {W w y : World} {X : Nat → Prop} {L : List Row} {d : D} {AL : Option Addr} {cL : Nat} {AK : Option Addr} {cK : Nat} {r : Rf} (h : Bw W w X L g d AL cL AK cK r) (hb : Below w.heap.size w y) {q : Nat} {s : List UInt8} (hq : w.heap.size ≤ q) (hq2 : Ours y q s)
    {v : Value} {keep : List Int} (ho : y.ownsRow w.heap.size 3 1 v keep.length (ints keep)) (hw : ∀ n ∈ keep, W64 n) (hk : keep.length ≤ 20) :
    ∃ A c R X', v = .slice A keep.length c ∧ Bw W y X' (R ++ L) g d AL cL AK cK r ∧ RowI A keep.length R ∧ InI W y (R ++ L) A c keep ∧ (∀ t ∈ R, t.1 ≠ q ∧ w.heap.size ≤ t.1) ∧ (∀ b, X b → X' b) ∧ X' q := by
  have hqs := hq2.lt
  have m0 := h.more hb (fun b => b = q) (fun b e => by subst e; exact ⟨hq, hqs⟩)
  rcases ho.2 with ⟨rfl, h0⟩ | ⟨b, cap, cur, rfl, hB, hh, h2, h3, h4, h5⟩
  · obtain rfl : keep = [] := List.eq_nil_of_length_eq_zero h0
    exact ⟨none, 0, [], _, rfl, m0, .inl ⟨rfl, rfl⟩, inI_nil _ _ _ _, (fun t ht => by cases ht), (fun b hx => .inl hx), .inr rfl⟩
  · have hlt : b < y.heap.size := (Array.getElem?_eq_some_iff.1 hh).1
    have hne : b ≠ q := fun e => by
      obtain ⟨ds, lo, hi, hd, -⟩ := hq2
      rw [← e] at hd
      have := hh.symm.trans hd
      injection this with this
      injection this with _ h2
      exact absurd h2 (by decide)
    have m1 := h.more hb (fun x => x = q ∨ x = b) (fun x e => by
      rcases e with e | e <;> subst e
      · exact ⟨hq, hqs⟩
      · exact ⟨hB, hlt⟩)
    have m2 := m1.knew (x := b) (.inr (.inr rfl)) (show Whole y b 3 cur from hh)
    have hsee := (Sees.own ho)
    refine ⟨some ⟨b, 0, none⟩, cap, [(b, 3, cur)], _, rfl, m2, .inr ⟨b, cur, rfl, rfl, fun i hi => ?_⟩, ⟨⟨y.heap.size, Nat.le_refl _, hsee⟩, fun _ a ha => .inr ⟨_, List.mem_cons_self .., by injection ha with ha; subst ha; rfl⟩, hw, by omega⟩, fun t ht => ?_, (fun b hx => .inl hx), .inr (.inl rfl)⟩
    · have hi2 : keep[i]? = some keep[i] := List.getElem?_eq_getElem hi
      obtain ⟨b', off, e, _, hc⟩ := hsee.int i keep[i] hi2
      injection e with e
      injection e with e1 e2
      subst e1 e2
      rw [Nat.zero_add, cell_of_row y b i cur _ _ hh] at hc
      exact ⟨keep[i], hc, hw _ (List.getElem_mem hi)⟩
    · rw [List.mem_singleton.1 ht]
      exact ⟨hne, hB⟩
theorem txt_nil : txt [] = ⟨#[]⟩ := rfl
/-- A row of our own, known whole, whose first m cells are like P. -/
def RowV (t : TypeId) (P : Value → Prop) (A : Option Addr) (m : Nat) (R : List Row) : Prop := (m = 0 ∧ R = []) ∨ ∃ b cur, A = some ⟨b, 0, none⟩ ∧ R = [(b, t, cur)] ∧ ∀ i, i < m → ∃ u, cur[i]? = some u ∧ P u
/-- Where a loop over such a row stands. -/
structure Lp (t : TypeId) (P : Value → Prop) (A : Option Addr) (m q : Nat) (o : Option Obj) (W w : World) (X : Nat → Prop) (R L : List Row) (g : Nat) (d : D) (AL : Option Addr) (cL : Nat) (AK : Option Addr) (cK : Nat) (r : Rf) : Prop where
  bw : Bw W w X (R ++ L) g d AL cL AK cK r
  row : RowV t P A m R
  same : w.heap[q]? = o
  far : ∀ z ∈ R, z.1 ≠ q ∧ W.heap.size ≤ z.1 ∧ ∀ y ∈ L, y.1 ≠ z.1
theorem Lp.step {t : TypeId} {P : Value → Prop} {A : Option Addr} {m q : Nat} {o : Option Obj} {W w : World} {X : Nat → Prop} {R L : List Row} {g : Nat} {d : D} {AL : Option Addr} {cL : Nat} {AK : Option Addr} {cK : Nat} {r : Rf}
    (h : Lp t P A m q o W w X R L g d AL cL AK cK r) {j : Nat} (hj : j < m) : ∃ b u, A = some ⟨b, 0, none⟩ ∧ w.cell? ⟨b, j, none⟩ = some u ∧ P u ∧ w.frozen? ⟨b, j, none⟩ = false ∧ b < w.heap.size ∧
      ∀ u', P u' → ∃ R', Lp t P A m q o W (w.setCell ⟨b, j, none⟩ u') X R' L g d AL cL AK cK r := by
  rcases h.row with ⟨h0, -⟩ | ⟨b, cur, rfl, rfl, hc⟩
  · omega
  · obtain ⟨u, hu, hP⟩ := hc j hj
    have hw : Whole w b t cur := h.bw.st.knows _ (List.mem_cons_self ..)
    obtain ⟨f1, f2, f3⟩ := h.far _ (List.mem_cons_self ..)
    refine ⟨b, u, rfl, (hw.cell j).trans hu, hP, hw.free j, hw.lt, fun u' hu' => ⟨[(b, t, cur.setIfInBounds j u')], h.bw.set0 f2 f3 j u', .inr ⟨b, _, rfl, rfl, fun i hi => ?_⟩, (Below.heap_setCell w ⟨b, j, none⟩ u' q (Ne.symm f1)).trans h.same, fun z hz => by rw [List.mem_singleton.1 hz]; exact ⟨f1, f2, f3⟩⟩⟩
    by_cases e : i = j
    · subst e
      exact ⟨u', Array.getElem?_setIfInBounds_self_of_lt (Array.getElem?_eq_some_iff.1 hu).1, hu'⟩
    · rw [Array.getElem?_setIfInBounds_ne (fun h => e h.symm)]
      exact hc i hi
/-- Bytes of our own, whatever they are. -/
def Any (y : World) (q m : Nat) : Prop := ∃ (cs : Array Value) (lo hi : Nat), y.heap[q]? = some (.cells cs 5 (lo, hi)) ∧ m ≤ lo ∧ ∀ i, i < m → ∃ k : Int, cs[i]? = some (.int .u8 k)
theorem Ours.any {y : World} {q : Nat} {s : List UInt8} (h : Ours y q s) : Any y q s.length := by
  obtain ⟨cs, lo, hi, h1, h2, h3⟩ := h
  refine ⟨cs, lo, hi, h1, h2, fun i hi => ⟨(s[i].toNat : Int), h3 i _ ?_⟩⟩
  unfold Lib.byteCells
  rw [List.getElem?_map, List.getElem?_eq_getElem hi]
  rfl
theorem Any.step {y : World} {q m : Nat} (h : Any y q m) {j : Nat} (hj : j < m) : ∃ k : Int, y.cell? ⟨q, j, none⟩ = some (.int .u8 k) ∧ y.frozen? ⟨q, j, none⟩ = false ∧ q < y.heap.size ∧ ∀ k' : Int, Any (y.setCell ⟨q, j, none⟩ (.int .u8 k')) q m := by
  obtain ⟨cs, lo, hi, h1, h2, h3⟩ := h
  obtain ⟨k, hk⟩ := h3 j hj
  refine ⟨k, (cell_of_row y q j cs _ _ h1).trans hk, ?_, (Array.getElem?_eq_some_iff.1 h1).1, fun k' => ⟨cs.setIfInBounds j (.int .u8 k'), lo, hi, ?_, h2, fun i hi => ?_⟩⟩
  · unfold World.frozen?
    simp only [h1]
    have : decide (lo ≤ j) = false := decide_eq_false (by omega)
    simp [this]
  · simp [World.setCell, Array.getElem?_modify, h1]
  · by_cases e : i = j
    · subst e
      exact ⟨k', Array.getElem?_setIfInBounds_self_of_lt (Array.getElem?_eq_some_iff.1 hk).1⟩
    · rw [Array.getElem?_setIfInBounds_ne (fun h => e h.symm)]
      exact h3 i hi
theorem RowI.row {A : Option Addr} {m : Nat} {R : List Row} (h : RowI A m R) : RowV 3 (fun u => ∃ k : Int, u = .int .i64 k) A m R := by
  rcases h with h | ⟨b, cur, h1, h2, h3⟩
  · exact .inl h
  · exact .inr ⟨b, cur, h1, h2, fun i hi => by
      obtain ⟨k, hk, -⟩ := h3 i hi
      exact ⟨_, hk, k, rfl⟩⟩
theorem Bw.ownV {g : Nat} {W w y : World} {X : Nat → Prop} {L : List Row} {d : D} {AL : Option Addr} {cL : Nat} {AK : Option Addr} {cK : Nat} {r : Rf} (h : Bw W w X L g d AL cL AK cK r) (hb : Below w.heap.size w y)
    {v : Value} {bs : List UInt8} (ho : OwnB y w.heap.size v bs) :
    ∃ A c R X', v = .slice A bs.length c ∧ Bw W y X' (R ++ L) g d AL cL AK cK r ∧ RowV 5 (fun u => ∃ k : Int, u = .int .u8 k) A bs.length R ∧ (∀ t ∈ R, w.heap.size ≤ t.1) ∧ (∀ b, X b → X' b) := by
  rcases ho.2 with ⟨rfl, h0⟩ | ⟨b, cap, cur, rfl, hB, hh, h2, h3, h4, h5⟩
  · exact ⟨none, 0, [], X, by rw [h0], h.call hb, .inl ⟨h0, rfl⟩, (fun t ht => by cases ht), fun b hx => hx⟩
  · have hlt : b < y.heap.size := (Array.getElem?_eq_some_iff.1 hh).1
    have m1 := h.more hb (fun x => x = b) (fun x e => by subst e; exact ⟨hB, hlt⟩)
    have m2 := m1.knew (x := b) (.inr rfl) (show Whole y b 5 cur from hh)
    refine ⟨some ⟨b, 0, none⟩, cap, [(b, 5, cur)], _, rfl, m2, .inr ⟨b, cur, rfl, rfl, fun i hi => ?_⟩, (fun t ht => by rw [List.mem_singleton.1 ht]; exact hB), fun b hx => .inl hx⟩
    obtain ⟨b', off, e, _, hc⟩ := (Sees.own ho).2 (by omega)
    injection e with e
    injection e with e1 e2
    subst e1 e2
    have := hc i (.int .u8 (bs[i].toNat : Int)) (by
      unfold Lib.byteCells
      rw [List.getElem?_map, List.getElem?_eq_getElem hi]
      rfl)
    rw [Nat.zero_add, cell_of_row y b i cur _ _ hh] at this
    exact ⟨_, this, _, rfl⟩
/-- A disk's box behind other blocks is set. -/
theorem Bw.box {g : Nat} {W w : World} {X : Nat → Prop} {R L : List Row} {y z : Row} {d : D} {AL : Option Addr} {cL : Nat} {AK : Option Addr} {cK : Nat} {r : Rf} {x : Nat} {t : TypeId} {a0 a1 a2 a3 a4 : Value}
    (h : Bw W w X (R ++ z :: y :: (x, t, #[a0, a1, a2, a3, a4]) :: L) g d AL cL AK cK r) (hx : W.heap.size ≤ x) (hd : ∀ s ∈ R ++ z :: y :: L, s.1 ≠ x) (b0 b1 b2 b3 b4 : Value) :
    Bw W (((((w.setCell ⟨x, 0, none⟩ b0).setCell ⟨x, 1, none⟩ b1).setCell ⟨x, 2, none⟩ b2).setCell ⟨x, 3, none⟩ b3).setCell ⟨x, 4, none⟩ b4) X (R ++ z :: y :: (x, t, #[b0, b1, b2, b3, b4]) :: L) g d AL cL AK cK r :=
  ((h.few (L' := (x, t, #[a0, a1, a2, a3, a4]) :: (R ++ z :: y :: L)) fun s hs => by
    simp only [List.mem_cons, List.mem_append] at hs ⊢
    rcases hs with h | h | h | h | h <;> simp [h]).five hx hd b0 b1 b2 b3 b4).few fun s hs => by
    simp only [List.mem_cons, List.mem_append] at hs ⊢
    rcases hs with h | h | h | h | h <;> simp [h]
theorem five_same {w : World} {x q : Nat} (hq : q ≠ x) (b0 b1 b2 b3 b4 : Value) : (((((w.setCell ⟨x, 0, none⟩ b0).setCell ⟨x, 1, none⟩ b1).setCell ⟨x, 2, none⟩ b2).setCell ⟨x, 3, none⟩ b3).setCell ⟨x, 4, none⟩ b4).heap[q]? = w.heap[q]? := by
  rw [Below.heap_setCell _ ⟨x, 4, none⟩ _ q hq, Below.heap_setCell _ ⟨x, 3, none⟩ _ q hq, Below.heap_setCell _ ⟨x, 2, none⟩ _ q hq, Below.heap_setCell _ ⟨x, 1, none⟩ _ q hq, Below.heap_setCell _ ⟨x, 0, none⟩ _ q hq]

set_option maxHeartbeats 20000000 in
theorem does_any (g : Nat) (W w : World) (X : Nat → Prop) (L : List Row) (d : D) (AL : Option Addr) (cL : Nat) (AK : Option Addr) (cK : Nat) (r : Rf) (n : Nat) (hn : n ≤ 1000) (h : Bw W w X L g d AL cL AK cK r) (p : Pl r d n) (kind lg nn : Int) (s : List UInt8) (A : Option Addr) (cap : Nat) (keep : List Int) (hv : GA W ⟨kind, lg, nn, s, A, cap, keep⟩) (hs : s.length ≤ 2000) (hk : keep.length ≤ 20) :
    Calls Try.prog 12 #[ptr g, vM AL cL AK cK r, .agg #[.int .i64 kind, .int .i64 lg, .int .i64 nn, .string (txt s), .slice A keep.length cap]] w fun e w' => ∃ A1 c1 A2 c2 r' d', e = .returned (.tuple #[vM A1 c1 A2 c2 r', .bool true]) ∧ Bw W w' X L g d' A1 c1 A2 c2 r' ∧ Pl r' d' (n + 1) := by
  unfold vM
  have H := Lib.hid (((h.alloc w.heap.size rfl 30 #[.slice AL r.logs.length cL, .int .i64 r.acts, .bool r.off, .int .i64 r.armed, .slice AK r.keep.length cK]).alloc (w.heap.size + 1) (by simp) 36 #[.int .i64 kind, .int .i64 lg, .int .i64 nn, .string (txt s), .slice A keep.length cap]).alloc (w.heap.size + 1 + 1) (by simp) 30 #[.slice none 0 0, .int .i64 0, .bool false, .int .i64 0, .slice none 0 0])
  go_enter Try.func12, Try.ntmps12
  go_upto_region 1 with fail
  have HSEE := Lib.hid fun y (hb : Below w.heap.size w y) => (show Sees y W.heap.size 1 A keep.length (ints keep) from hv.sees.below (h.st.below.trans (hb.mono h.st.below.size)))
  have HA0 := Lib.hid (H.out.st.knows.at 1 rfl)
  have HB1 := Lib.hid ((((Below.refl w.heap.size w).alloc (Nat.le_refl _) (.cells #[.slice AL r.logs.length cL, .int .i64 r.acts, .bool r.off, .int .i64 r.armed, .slice AK r.keep.length cK] 30)).alloc (by simp) (.cells #[.int .i64 kind, .int .i64 lg, .int .i64 nn, .string (txt s), .slice A keep.length cap] 36)).alloc (by simp; omega) (.cells #[.slice none 0 0, .int .i64 0, .bool false, .int .i64 0, .slice none 0 0] 30))
  have hsz1 : ((((w.alloc (.cells #[.slice AL r.logs.length cL, .int .i64 r.acts, .bool r.off, .int .i64 r.armed, .slice AK r.keep.length cK] 30)).alloc (.cells #[.int .i64 kind, .int .i64 lg, .int .i64 nn, .string (txt s), .slice A keep.length cap] 36)).alloc (.cells #[.slice none 0 0, .int .i64 0, .bool false, .int .i64 0, .slice none 0 0] 30))).heap.size = w.heap.size + 3 := by simp
  generalize (((w.alloc _).alloc _).alloc _) = w1 at H HA0 HB1 hsz1 ⊢
  have hnil := Lib.hid (show A = none → cap = 0 from hv.nil)
  have HSZ := Lib.hid hsz1
  have HGA := Lib.hid hv
  have HP := Lib.hid p
  have HH := Lib.hid h
  clear hsz1 hv p h
  refine Iv.region (fun f aa y => ∃ q c v3 v6, aa = ⟨#[ptr g, .agg #[.slice AL r.logs.length cL, .int .i64 r.acts, .bool r.off, .int .i64 r.armed, .slice AK r.keep.length cK], .agg #[.int .i64 kind, .int .i64 lg, .int .i64 nn, .string (txt s), .slice A keep.length cap], undef, .pointer (some ⟨w.heap.size, 0, none⟩), .pointer (some ⟨w.heap.size + 1, 0, none⟩), .pointer (some ⟨w.heap.size + 1 + 1, 0, none⟩), .bool false, sl (f 7) (.slice (some ⟨q, 0, none⟩) s.length c), sl (f 8) (v6), undef, undef, undef, undef, undef, undef, undef, undef, undef, sl (f 0) (.pointer (some ⟨w.heap.size + 1, 3, none⟩)), sl (f 1) (.string (txt s)), sl (f 2) (.slice (some ⟨q, 0, none⟩) s.length c), sl (f 3) (v3), sl (f 4) (.pointer (some ⟨w.heap.size + 1, 4, none⟩)), sl (f 5) (.slice A keep.length cap), sl (f 6) (v6), undef, undef, undef, undef, undef, undef, undef, undef, undef, undef, undef, undef, undef, undef, undef, undef, undef, undef, undef, undef, undef, undef, undef, undef, undef, undef, undef, undef, undef, undef, undef, undef, undef, undef, undef, undef, undef, undef, undef, undef, undef, undef, undef, undef, undef, undef, undef, undef, undef, undef, undef, undef, undef, undef, undef, undef, undef, undef, undef, undef, undef, undef, undef, undef, undef, undef, undef, undef, undef, undef, undef, undef, undef, undef, undef, undef, undef, undef, undef, undef, undef, undef, undef, undef, undef, undef, undef, undef, undef, undef, undef, undef, undef, undef, undef, undef, undef, undef, undef, undef, undef, undef, undef, undef, undef, undef, undef, undef, undef, undef, undef, undef, undef, undef, undef, undef, undef, undef, undef, undef, undef, undef, undef, undef, undef, undef, undef, undef, undef, undef, undef, undef, undef, undef, undef, undef, undef, undef, undef, undef, undef], []⟩ ∧ Two w1 y s keep q c v3 v6 (f 2) (f 3) (f 6) ∧ (f 7 = true → f 2 = true) ∧ (f 8 = true → f 6 = true)) (by kernel_rfl) (by kernel_rfl) ?_ ?_ ?_
  · exact ⟨0, 0, undef, undef, rfl, ⟨below_drewN (Below.refl _ _) 1, (fun h => by cases h), (fun h => by cases h), (fun h => by cases h), fun h => by cases h⟩, (fun h => by cases h), fun h => by cases h⟩
  · refine ⟨?_, ?_, ?_, ?_, ?_, ?_, ?_, ?_, ?_, trivial⟩
    · rintro f a0 y Q' ⟨q, c, v3, v6, rfl, hw⟩ hi hd hQ
      replace hQ := Lib.hid hQ
      simp [Iv.depsB, Region.binds] at hd
      try simp only [hi, hd, sl_true, sl_false]
      try simp only [hi, sl_true, sl_false]
      go_wp2_with fail
      refine hQ.out _ _ ⟨q, c, v3, v6, ?_, ?_⟩
      · simp [Iv.upd, hi, hd, sl_true, sl_false]
      · simpa [Iv.upd, hi, hd] using hw
    · rintro f a0 y Q' ⟨q, c, v3, v6, rfl, hw⟩ hi hd hQ
      replace hQ := Lib.hid hQ
      simp [Iv.depsB, Region.binds] at hd
      try simp only [hi, hd, sl_true, sl_false]
      try simp only [hi, sl_true, sl_false]
      have hk := HA0.out.below hw.1.below HA0.out.lt
      have t3 := hk.cell 3
      have t4 := hk.cell 4
      clear hk
      simp only [List.getElem?_toArray, List.getElem?_cons_succ, List.getElem?_cons_zero] at t3 t4
      go_wp2_with fail
      refine hQ.out _ _ ⟨q, c, v3, v6, ?_, ?_⟩
      · simp [Iv.upd, hi, hd, sl_true, sl_false]
      · simpa [Iv.upd, hi, hd] using hw
    · rintro f a0 y Q' ⟨q, c, v3, v6, rfl, hw⟩ hi hd hQ
      replace hQ := Lib.hid hQ
      simp [Iv.depsB, Region.binds] at hd
      try simp only [hi, hd, sl_true, sl_false]
      try simp only [hi, sl_true, sl_false]
      have h7 : f 7 = false := by
        cases e : f 7 with
        | false => rfl
        | true => have := hw.2.1 e; simp [hi] at this
      have d1 : f 1 = true := by simp [hd]
      obtain ⟨c2, y2, hcv, ht⟩ := Two.conv (by simpa [hi] using hw.1) hs
      have HT := Lib.hid ht
      clear ht
      try simp only [d1, sl_true]
      go_wp2_with fail
      refine hQ.out _ _ ⟨y.heap.size, c2, v3, v6, ?_, ?_⟩
      · simp [Iv.upd, hi, hd, h7, d1, sl_true, sl_false]
      · exact ⟨by simpa [Iv.upd, hi] using HT.out, (fun _ => by simp [Iv.upd]), fun e => by have := hw.2.2 (by simpa [Iv.upd] using e); simpa [Iv.upd] using this⟩
    · rintro f a0 y Q' ⟨q, c, v3, v6, rfl, hw⟩ hi hd hQ
      replace hQ := Lib.hid hQ
      simp [Iv.depsB, Region.binds] at hd
      try simp only [hi, hd, sl_true, sl_false]
      try simp only [hi, sl_true, sl_false]
      have h6 : f 6 = false := by
        cases e : f 6 with
        | false => rfl
        | true => have := hw.1.ord e; simp [hi] at this
      have HT := Lib.hid (Two.build (by simpa [hi, h6] using hw.1))
      go_wp2_with fail
      refine hQ.out _ _ ⟨q, c, .slice (some ⟨y.heap.size, 0, none⟩) 0 0, v6, ?_, ?_⟩
      · simp [Iv.upd, hi, hd, h6, sl_true, sl_false]
      · exact ⟨by simpa [Iv.upd, hi, h6] using HT.out, fun e => by have := hw.2.1 (by simpa [Iv.upd] using e); simpa [Iv.upd] using this, fun e => by have := hw.2.2 (by simpa [Iv.upd] using e); simpa [Iv.upd] using this⟩
    · rintro f a0 y Q' ⟨q, c, v3, v6, rfl, hw⟩ hi hd hQ
      replace hQ := Lib.hid hQ
      simp [Iv.depsB, Region.binds] at hd
      try simp only [hi, hd, sl_true, sl_false]
      try simp only [hi, sl_true, sl_false]
      go_wp2_with fail
      refine hQ.out _ _ ⟨q, c, v3, v6, ?_, ?_⟩
      · simp [Iv.upd, hi, hd, sl_true, sl_false]
      · simpa [Iv.upd, hi, hd] using hw
    · rintro f a0 y Q' ⟨q, c, v3, v6, rfl, hw⟩ hi hd hQ
      replace hQ := Lib.hid hQ
      simp [Iv.depsB, Region.binds] at hd
      try simp only [hi, hd, sl_true, sl_false]
      try simp only [hi, sl_true, sl_false]
      have hk := HA0.out.below hw.1.below HA0.out.lt
      have t3 := hk.cell 3
      have t4 := hk.cell 4
      clear hk
      simp only [List.getElem?_toArray, List.getElem?_cons_succ, List.getElem?_cons_zero] at t3 t4
      go_wp2_with fail
      refine hQ.out _ _ ⟨q, c, v3, v6, ?_, ?_⟩
      · simp [Iv.upd, hi, hd, sl_true, sl_false]
      · simpa [Iv.upd, hi, hd] using hw
    · rintro f a0 y Q' ⟨q, c, v3, v6, rfl, hw⟩ hi hd hQ
      replace hQ := Lib.hid hQ
      simp [Iv.depsB, Region.binds] at hd
      try simp only [hi, hd, sl_true, sl_false]
      try simp only [hi, sl_true, sl_false]
      have h8 : f 8 = false := by
        cases e : f 8 with
        | false => rfl
        | true => have := hw.2.2 e; simp [hi] at this
      have d3 : f 3 = true := by simp [hd]
      have d5 : f 5 = true := by simp [hd]
      have hw1 : Two w1 y s keep q c v3 v6 (f 2) true false := by simpa [hi, d3] using hw.1
      have hm := hw1.made rfl rfl
      have hsee := HSEE.out y (HB1.out.trans (hw1.below.mono (by rw [HSZ.out]; omega)))
      have hsz := hw1.below.size
      try simp only [d3, d5, sl_true]
      refine wpList_appAt rfl (.tmp 22) (.tmp 24) _ 3 _ 1 8 rfl info_int Try.underlying28 rfl (by decide) w1.heap.size _ 0 [] (by rfl) hm _ A keep.length cap (ints keep) (by rfl) hsee hnil.out (ints_one _) (by omega) (by omega) hsz ?_
      intro v2 w2 ho hg hat
      (try rw [Nat.zero_add] at ho)
      (try rw [List.nil_append] at ho)
      have HT := Lib.hid (hw1.append ho hg)
      clear hw1 hm ho hg hat hsee
      go_wp2_with fail
      refine hQ.out _ _ ⟨q, c, v3, v2, ?_, ?_⟩
      · simp [Iv.upd, hi, hd, h8, d3, d5, sl_true, sl_false]
      · exact ⟨by simpa [Iv.upd, hi, d3] using HT.out, fun e => by have := hw.2.1 (by simpa [Iv.upd] using e); simpa [Iv.upd] using this, fun _ => by simp [Iv.upd]⟩
    · rintro f a0 y Q' ⟨q, c, v3, v6, rfl, hw⟩ hi hd hQ
      replace hQ := Lib.hid hQ
      simp [Iv.depsB, Region.binds] at hd
      try simp only [hi, hd, sl_true, sl_false]
      try simp only [hi, sl_true, sl_false]
      have d2 : f 2 = true := by simp [hd]
      go_wp2_with fail
      refine hQ.out _ _ ⟨q, c, v3, v6, ?_, ?_⟩
      · simp [Iv.upd, hi, hd, d2, sl_true, sl_false]
      · exact ⟨by simpa [Iv.upd, hi, hd] using hw.1, (fun _ => by simp [Iv.upd, d2]), fun e => by have := hw.2.2 (by simpa [Iv.upd] using e); simpa [Iv.upd] using this⟩
    · rintro f a0 y Q' ⟨q, c, v3, v6, rfl, hw⟩ hi hd hQ
      replace hQ := Lib.hid hQ
      simp [Iv.depsB, Region.binds] at hd
      try simp only [hi, hd, sl_true, sl_false]
      try simp only [hi, sl_true, sl_false]
      have d6 : f 6 = true := by simp [hd]
      go_wp2_with fail
      refine hQ.out _ _ ⟨q, c, v3, v6, ?_, ?_⟩
      · simp [Iv.upd, hi, hd, d6, sl_true, sl_false]
      · exact ⟨by simpa [Iv.upd, hi, hd] using hw.1, fun e => by have := hw.2.1 (by simpa [Iv.upd] using e); simpa [Iv.upd] using this, fun _ => by simp [Iv.upd, d6]⟩
  · rintro f a0 y ⟨q, c, v3, v6, rfl, hw⟩ hall
    simp only [hall 0 (by decide), hall 1 (by decide), hall 2 (by decide), hall 3 (by decide), hall 4 (by decide), hall 5 (by decide), hall 6 (by decide), hall 7 (by decide), hall 8 (by decide), sl_true, ↓reduceIte] at hw ⊢
    clear hall
    have h2 := hw.1
    obtain ⟨hq1, hq2, hq3, hq4⟩ := h2.text rfl
    obtain ⟨A3, c3, R, X4, rfl, h4, hR, hin, hRq, hX1, hX2⟩ := Bw.ownI H.out h2.below hq1 hq2 (h2.grew rfl) HGA.out.range hk
    have hsize := HSZ.out
    have hwW := HH.out.st.below.size
    have HOU := Lib.hid hq2
    have HIN := Lib.hid hin
    have HR := Lib.hid hR
    have HRQ := Lib.hid hRq
    have HXQ := Lib.hid hX2
    have HXX := Lib.hid hX1
    have HD : Hid (∀ z y : Row, z.1 = w.heap.size + 1 + 1 → y.1 = w.heap.size + 1 → ∀ s ∈ R ++ z :: y :: L, s.1 ≠ w.heap.size) := Lib.hid fun z y hz hy s hs => by
      simp only [List.mem_append, List.mem_cons] at hs
      rcases hs with hs | hs | hs | hs
      · have := (hRq s hs).2; omega
      · subst hs; omega
      · subst hs; omega
      · have := (HH.out.st.knows s hs).lt; omega
    have HQL : Hid (∀ z y x : Row, z.1 = w.heap.size + 1 + 1 → y.1 = w.heap.size + 1 → x.1 = w.heap.size → ∀ s ∈ R ++ z :: y :: x :: L, s.1 ≠ q) := Lib.hid fun z y x hz hy hx s hs => by
      simp only [List.mem_append, List.mem_cons] at hs
      rcases hs with hs | hs | hs | hs | hs
      · exact (hRq s hs).1
      · subst hs; omega
      · subst hs; omega
      · subst hs; omega
      · have := (HH.out.st.knows s hs).lt; omega
    have HRL : Hid (∀ z y x : Row, z.1 = w.heap.size + 1 + 1 → y.1 = w.heap.size + 1 → x.1 = w.heap.size → ∀ t ∈ R, ∀ s ∈ z :: y :: x :: L, s.1 ≠ t.1) := Lib.hid fun z y x hz hy hx t ht s hs => by
      have := (hRq t ht).2
      simp only [List.mem_cons] at hs
      rcases hs with hs | hs | hs | hs
      · subst hs; omega
      · subst hs; omega
      · subst hs; omega
      · have := (HH.out.st.knows s hs).lt; omega
    have hqW : W.heap.size ≤ q := by omega
    have HZ : Hid (∀ y x : Row, y.1 = w.heap.size + 1 → x.1 = w.heap.size → ∀ s ∈ y :: x :: L, s.1 ≠ w.heap.size + 1 + 1) := Lib.hid fun y x hy hx s hs => by
      simp only [List.mem_cons] at hs
      rcases hs with hs | hs | hs
      · subst hs; omega
      · subst hs; omega
      · have := (HH.out.st.knows s hs).lt; omega
    have HB4 := Lib.hid (HB1.out.trans (h2.below.mono (by rw [HSZ.out]; omega)))
    have h4' : Bw W y X4 (R ++ (w.heap.size + 1 + 1, 30, #[.slice none 0 0, .int .i64 0, .bool false, .int .i64 0, .slice none 0 0]) :: (w.heap.size + 1, 36, #[.int .i64 kind, .int .i64 lg, .int .i64 nn, .string (txt s), .slice A keep.length cap]) :: (w.heap.size, 30, #[.slice AL r.logs.length cL, .int .i64 r.acts, .bool r.off, .int .i64 r.armed, .slice AK r.keep.length cK]) :: L) g d AL cL AK cK r := h4
    have H4 := Lib.hid h4'
    have HINB := Lib.hid (hq2.inB hq3 hq4)
    have hqw : q ≠ w.heap.size := by omega
    clear h4 h4' hin hR hRq hX1 hX2 hw h2 hq1 hq2 hq3 hq4 HSEE HA0 H hnil
    have HK4 := Lib.hid fun (w2 : World) (hk : Whole w2 (w.heap.size + 1) 36 #[.int .i64 kind, .int .i64 lg, .int .i64 nn, .string (txt s), .slice A keep.length cap]) => (show w2.cell? ⟨w.heap.size + 1, 0, none⟩ = some (.int .i64 kind) ∧ w2.cell? ⟨w.heap.size + 1, 1, none⟩ = some (.int .i64 lg) ∧ w2.cell? ⟨w.heap.size + 1, 2, none⟩ = some (.int .i64 nn) ∧ w2.cell? ⟨w.heap.size + 1, 3, none⟩ = some (.string (txt s)) ∧ w2.cell? ⟨w.heap.size + 1, 4, none⟩ = some (.slice A keep.length cap) from ⟨hk.cell 0, hk.cell 1, hk.cell 2, hk.cell 3, hk.cell 4⟩)
    obtain ⟨q0, q1, q2, q3, q4⟩ := HK4.out _ (H4.out.st.knows _ (List.mem_append.2 (.inr (List.mem_cons_of_mem _ (List.mem_cons_self ..)))))
    go_upto_block 0 with fail
    go_cut [10, 11, 12, 13, 14, 15, 16] from 28 to 138 (fun s10 s11 s12 s13 s14 s15 s16 wc => ∃ A1 c1 A2 c2 r' d' e, s10 = .int .i64 e ∧ s11 = .int .i64 e ∧ Bw W wc X4 (R ++ (w.heap.size + 1 + 1, 30, #[.slice none 0 0, .int .i64 0, .bool false, .int .i64 0, .slice none 0 0]) :: (w.heap.size + 1, 36, #[.int .i64 kind, .int .i64 lg, .int .i64 nn, .string (txt s), .slice A keep.length cap]) :: (w.heap.size, 30, #[.slice A1 r'.logs.length c1, .int .i64 r'.acts, .bool r'.off, .int .i64 r'.armed, .slice A2 r'.keep.length c2]) :: L) g d' A1 c1 A2 c2 r' ∧ Pl r' d' (n + 1) ∧ Ours wc q s)
    case first =>
      have kinds : kind = 0 ∨ kind = 1 ∨ kind = 2 ∨ kind = 3 ∨ kind = 4 ∨ kind = 5 ∨ kind = 6 ∨ (kind ≠ 0 ∧ kind ≠ 1 ∧ kind ≠ 2 ∧ kind ≠ 3 ∧ kind ≠ 4 ∧ kind ≠ 5 ∧ kind ≠ 6) := by omega
      rcases kinds with rfl | rfl | rfl | rfl | rfl | rfl | rfl | ⟨k0, k1, k2, k3, k4, k5, k6⟩
      · skip
        have hac := HP.out.acts
        have hda := HP.out.rel.acts
        have HRL := Lib.hid (HP.out.rel.append lg s)
        obtain ⟨q0, q1, q2, q3, q4⟩ := HK4.out _ (H4.out.st.knows _ (List.mem_append.2 (.inr (List.mem_cons_of_mem _ (List.mem_cons_self ..)))))
        obtain ⟨⟨b0, b1, b2, b3, b4⟩, f0, f1, f2, f3, f4⟩ := (H4.out.st.knows _ (List.mem_append.2 (.inr (List.mem_cons_of_mem _ (List.mem_cons_of_mem _ (List.mem_cons_self ..)))))).five
        have hxl := (H4.out.st.knows _ (List.mem_append.2 (.inr (List.mem_cons_of_mem _ (List.mem_cons_of_mem _ (List.mem_cons_self ..)))))).lt
        go_wp2_with fail
        refine (H4.out.append (show W64 lg from HGA.out.log) (by omega) (by omega) HINB.out).mono ?_
        rintro e w5 ⟨rfl, h5, hs5⟩
        have HO5 := Lib.hid (HOU.out.at (hs5 q HXQ.out))
        clear q0 q1 q2 q3 q4 b0 b1 b2 b3 b4 f0 f1 f2 f3 f4 hxl
        have H5 := Lib.hid h5
        clear h5 hs5 hac hda
        obtain ⟨q0, q1, q2, q3, q4⟩ := HK4.out _ (H5.out.st.knows _ (List.mem_append.2 (.inr (List.mem_cons_of_mem _ (List.mem_cons_self ..)))))
        obtain ⟨⟨b0, b1, b2, b3, b4⟩, f0, f1, f2, f3, f4⟩ := (H5.out.st.knows _ (List.mem_append.2 (.inr (List.mem_cons_of_mem _ (List.mem_cons_of_mem _ (List.mem_cons_self ..)))))).five
        have hxl := (H5.out.st.knows _ (List.mem_append.2 (.inr (List.mem_cons_of_mem _ (List.mem_cons_of_mem _ (List.mem_cons_self ..)))))).lt
        have hro := HP.out.rok HH.out.ok (by omega)
        have hcc := Lib.hid (H5.out.ract hro (kind := 0) (log := lg) ⟨by omega, by omega⟩ (show W64 lg from HGA.out.log) (b := s) hs)
        unfold vM at hcc
        clear hro
        go_wp2_with fail
        refine hcc.out.mono ?_
        rintro e w6 ⟨A1, c1, A2, c2, rfl, h6, hb6⟩
        clear q0 q1 q2 q3 q4 b0 b1 b2 b3 b4 f0 f1 f2 f3 f4 hxl
        have H6 := Lib.hid h6
        have HO6 := Lib.hid (HO5.out.call hb6)
        clear h6 hb6 hcc
        obtain ⟨q0, q1, q2, q3, q4⟩ := HK4.out _ (H6.out.st.knows _ (List.mem_append.2 (.inr (List.mem_cons_of_mem _ (List.mem_cons_self ..)))))
        obtain ⟨⟨b0, b1, b2, b3, b4⟩, f0, f1, f2, f3, f4⟩ := (H6.out.st.knows _ (List.mem_append.2 (.inr (List.mem_cons_of_mem _ (List.mem_cons_of_mem _ (List.mem_cons_self ..)))))).five
        have hxl := (H6.out.st.knows _ (List.mem_append.2 (.inr (List.mem_cons_of_mem _ (List.mem_cons_of_mem _ (List.mem_cons_self ..)))))).lt
        go_wp2_with fail
        have h7 := H6.out.box hwW (HD.out _ _ rfl rfl) (.slice A1 ((r.act 0 lg s).1).logs.length c1) (.int .i64 ((r.act 0 lg s).1).acts) (.bool ((r.act 0 lg s).1).off) (.int .i64 ((r.act 0 lg s).1).armed) (.slice A2 ((r.act 0 lg s).1).keep.length c2)
        have HO7 := Lib.hid ((HO6.out).at (five_same hqw (.slice A1 ((r.act 0 lg s).1).logs.length c1) (.int .i64 ((r.act 0 lg s).1).acts) (.bool ((r.act 0 lg s).1).off) (.int .i64 ((r.act 0 lg s).1).armed) (.slice A2 ((r.act 0 lg s).1).keep.length c2)))
        go_meet
        exact ⟨A1, c1, A2, c2, _, _, (r.act 0 lg s).2, by rw [HRL.out.1], rfl, h7, HP.out.of 0 lg s HRL.out.2, HO7.out⟩
      · skip
        have hac := HP.out.acts
        have hda := HP.out.rel.acts
        have HRL := Lib.hid (HP.out.rel.sync lg)
        obtain ⟨q0, q1, q2, q3, q4⟩ := HK4.out _ (H4.out.st.knows _ (List.mem_append.2 (.inr (List.mem_cons_of_mem _ (List.mem_cons_self ..)))))
        obtain ⟨⟨b0, b1, b2, b3, b4⟩, f0, f1, f2, f3, f4⟩ := (H4.out.st.knows _ (List.mem_append.2 (.inr (List.mem_cons_of_mem _ (List.mem_cons_of_mem _ (List.mem_cons_self ..)))))).five
        have hxl := (H4.out.st.knows _ (List.mem_append.2 (.inr (List.mem_cons_of_mem _ (List.mem_cons_of_mem _ (List.mem_cons_self ..)))))).lt
        go_wp2_with fail
        refine (H4.out.sync (show W64 lg from HGA.out.log) (by omega)).mono ?_
        rintro e w5 ⟨rfl, h5, hs5⟩
        have HO5 := Lib.hid (HOU.out.at (hs5 q HXQ.out))
        clear q0 q1 q2 q3 q4 b0 b1 b2 b3 b4 f0 f1 f2 f3 f4 hxl
        have H5 := Lib.hid h5
        clear h5 hs5 hac hda
        obtain ⟨q0, q1, q2, q3, q4⟩ := HK4.out _ (H5.out.st.knows _ (List.mem_append.2 (.inr (List.mem_cons_of_mem _ (List.mem_cons_self ..)))))
        obtain ⟨⟨b0, b1, b2, b3, b4⟩, f0, f1, f2, f3, f4⟩ := (H5.out.st.knows _ (List.mem_append.2 (.inr (List.mem_cons_of_mem _ (List.mem_cons_of_mem _ (List.mem_cons_self ..)))))).five
        have hxl := (H5.out.st.knows _ (List.mem_append.2 (.inr (List.mem_cons_of_mem _ (List.mem_cons_of_mem _ (List.mem_cons_self ..)))))).lt
        have hro := HP.out.rok HH.out.ok (by omega)
        have hcc := Lib.hid (H5.out.ract hro (kind := 1) (log := lg) ⟨by omega, by omega⟩ (show W64 lg from HGA.out.log) (b := []) (Nat.zero_le _))
        unfold vM at hcc
        clear hro
        go_wp2_with fail
        refine hcc.out.mono ?_
        rintro e w6 ⟨A1, c1, A2, c2, rfl, h6, hb6⟩
        clear q0 q1 q2 q3 q4 b0 b1 b2 b3 b4 f0 f1 f2 f3 f4 hxl
        have H6 := Lib.hid h6
        have HO6 := Lib.hid (HO5.out.call hb6)
        clear h6 hb6 hcc
        obtain ⟨q0, q1, q2, q3, q4⟩ := HK4.out _ (H6.out.st.knows _ (List.mem_append.2 (.inr (List.mem_cons_of_mem _ (List.mem_cons_self ..)))))
        obtain ⟨⟨b0, b1, b2, b3, b4⟩, f0, f1, f2, f3, f4⟩ := (H6.out.st.knows _ (List.mem_append.2 (.inr (List.mem_cons_of_mem _ (List.mem_cons_of_mem _ (List.mem_cons_self ..)))))).five
        have hxl := (H6.out.st.knows _ (List.mem_append.2 (.inr (List.mem_cons_of_mem _ (List.mem_cons_of_mem _ (List.mem_cons_self ..)))))).lt
        go_wp2_with fail
        have h7 := H6.out.box hwW (HD.out _ _ rfl rfl) (.slice A1 ((r.act 1 lg []).1).logs.length c1) (.int .i64 ((r.act 1 lg []).1).acts) (.bool ((r.act 1 lg []).1).off) (.int .i64 ((r.act 1 lg []).1).armed) (.slice A2 ((r.act 1 lg []).1).keep.length c2)
        have HO7 := Lib.hid ((HO6.out).at (five_same hqw (.slice A1 ((r.act 1 lg []).1).logs.length c1) (.int .i64 ((r.act 1 lg []).1).acts) (.bool ((r.act 1 lg []).1).off) (.int .i64 ((r.act 1 lg []).1).armed) (.slice A2 ((r.act 1 lg []).1).keep.length c2)))
        go_meet
        exact ⟨A1, c1, A2, c2, _, _, (r.act 1 lg []).2, by rw [HRL.out.1], rfl, h7, HP.out.of 1 lg [] HRL.out.2, HO7.out⟩
      · skip
        have hac := HP.out.acts
        have hda := HP.out.rel.acts
        have HRL := Lib.hid (HP.out.rel.swap lg s)
        obtain ⟨q0, q1, q2, q3, q4⟩ := HK4.out _ (H4.out.st.knows _ (List.mem_append.2 (.inr (List.mem_cons_of_mem _ (List.mem_cons_self ..)))))
        obtain ⟨⟨b0, b1, b2, b3, b4⟩, f0, f1, f2, f3, f4⟩ := (H4.out.st.knows _ (List.mem_append.2 (.inr (List.mem_cons_of_mem _ (List.mem_cons_of_mem _ (List.mem_cons_self ..)))))).five
        have hxl := (H4.out.st.knows _ (List.mem_append.2 (.inr (List.mem_cons_of_mem _ (List.mem_cons_of_mem _ (List.mem_cons_self ..)))))).lt
        go_wp2_with fail
        refine (H4.out.swap (show W64 lg from HGA.out.log) (by omega) HINB.out).mono ?_
        rintro e w5 ⟨rfl, h5, hs5⟩
        have HO5 := Lib.hid (HOU.out.at (hs5 q HXQ.out))
        clear q0 q1 q2 q3 q4 b0 b1 b2 b3 b4 f0 f1 f2 f3 f4 hxl
        have H5 := Lib.hid h5
        clear h5 hs5 hac hda
        obtain ⟨q0, q1, q2, q3, q4⟩ := HK4.out _ (H5.out.st.knows _ (List.mem_append.2 (.inr (List.mem_cons_of_mem _ (List.mem_cons_self ..)))))
        obtain ⟨⟨b0, b1, b2, b3, b4⟩, f0, f1, f2, f3, f4⟩ := (H5.out.st.knows _ (List.mem_append.2 (.inr (List.mem_cons_of_mem _ (List.mem_cons_of_mem _ (List.mem_cons_self ..)))))).five
        have hxl := (H5.out.st.knows _ (List.mem_append.2 (.inr (List.mem_cons_of_mem _ (List.mem_cons_of_mem _ (List.mem_cons_self ..)))))).lt
        have hro := HP.out.rok HH.out.ok (by omega)
        have hcc := Lib.hid (H5.out.ract hro (kind := 2) (log := lg) ⟨by omega, by omega⟩ (show W64 lg from HGA.out.log) (b := s) hs)
        unfold vM at hcc
        clear hro
        go_wp2_with fail
        refine hcc.out.mono ?_
        rintro e w6 ⟨A1, c1, A2, c2, rfl, h6, hb6⟩
        clear q0 q1 q2 q3 q4 b0 b1 b2 b3 b4 f0 f1 f2 f3 f4 hxl
        have H6 := Lib.hid h6
        have HO6 := Lib.hid (HO5.out.call hb6)
        clear h6 hb6 hcc
        obtain ⟨q0, q1, q2, q3, q4⟩ := HK4.out _ (H6.out.st.knows _ (List.mem_append.2 (.inr (List.mem_cons_of_mem _ (List.mem_cons_self ..)))))
        obtain ⟨⟨b0, b1, b2, b3, b4⟩, f0, f1, f2, f3, f4⟩ := (H6.out.st.knows _ (List.mem_append.2 (.inr (List.mem_cons_of_mem _ (List.mem_cons_of_mem _ (List.mem_cons_self ..)))))).five
        have hxl := (H6.out.st.knows _ (List.mem_append.2 (.inr (List.mem_cons_of_mem _ (List.mem_cons_of_mem _ (List.mem_cons_self ..)))))).lt
        go_wp2_with fail
        have h7 := H6.out.box hwW (HD.out _ _ rfl rfl) (.slice A1 ((r.act 2 lg s).1).logs.length c1) (.int .i64 ((r.act 2 lg s).1).acts) (.bool ((r.act 2 lg s).1).off) (.int .i64 ((r.act 2 lg s).1).armed) (.slice A2 ((r.act 2 lg s).1).keep.length c2)
        have HO7 := Lib.hid ((HO6.out).at (five_same hqw (.slice A1 ((r.act 2 lg s).1).logs.length c1) (.int .i64 ((r.act 2 lg s).1).acts) (.bool ((r.act 2 lg s).1).off) (.int .i64 ((r.act 2 lg s).1).armed) (.slice A2 ((r.act 2 lg s).1).keep.length c2)))
        go_meet
        exact ⟨A1, c1, A2, c2, _, _, (r.act 2 lg s).2, by rw [HRL.out.1], rfl, h7, HP.out.of 2 lg s HRL.out.2, HO7.out⟩
      · skip
        by_cases hin : 0 ≤ lg ∧ lg < r.logs.length
        · have hoo : r.off = false ∨ r.off = true := by cases r.off <;> simp
          rcases hoo with hoff | hoff
          · skip
            have hck := HP.out.rel.check lg
            rw [if_pos hin, hoff] at hck
            have HCK : Hid (d.check lg = 0) := Lib.hid hck
            have hrb : r.bytes lg = (r.of lg).sure ++ (r.of lg).loose := by unfold Rf.bytes; rw [if_pos hin]
            obtain ⟨bs, hbs⟩ : ∃ bs, r.bytes lg = bs := ⟨_, rfl⟩
            have HRX : Hid (d.read lg = bs) := Lib.hid ((HP.out.rel.read lg hin hoff).trans (hrb.symm.trans hbs))
            have HBX := Lib.hid hbs
            have HDC : Hid (decide (0 ≤ lg ∧ lg < (r.logs.length : Int)) = true) := Lib.hid (decide_eq_true hin)
            clear hck hrb hbs
            have HOFF := Lib.hid hoff
            clear hoff
            obtain ⟨q0, q1, q2, q3, q4⟩ := HK4.out _ (H4.out.st.knows _ (List.mem_append.2 (.inr (List.mem_cons_of_mem _ (List.mem_cons_self ..)))))
            obtain ⟨⟨b0, b1, b2, b3, b4⟩, f0, f1, f2, f3, f4⟩ := (H4.out.st.knows _ (List.mem_append.2 (.inr (List.mem_cons_of_mem _ (List.mem_cons_of_mem _ (List.mem_cons_self ..)))))).five
            have hxl := (H4.out.st.knows _ (List.mem_append.2 (.inr (List.mem_cons_of_mem _ (List.mem_cons_of_mem _ (List.mem_cons_self ..)))))).lt
            go_wp2_with fail
            refine (H4.out.read (show W64 lg from HGA.out.log)).mono ?_
            rintro e w5 ⟨v5, rfl, ho, hb5⟩
            rw [HCK.out]
            rw [HRX.out] at ho
            clear q0 q1 q2 q3 q4 b0 b1 b2 b3 b4 f0 f1 f2 f3 f4 hxl
            obtain ⟨A5, c5, R5, X5, rfl, h5, hR5, hf5, hx5⟩ := H4.out.ownV hb5 ho
            have H5 := Lib.hid h5
            have HR5 := Lib.hid hR5
            have HF5 := Lib.hid hf5
            have HX5 := Lib.hid hx5
            have HO5 := Lib.hid (HOU.out.call hb5)
            have HOB := Lib.hid ho
            have HY5 := Lib.hid h5.st.below
            have H5b : Hid (Bw W w5 X4 (R ++ (w.heap.size + 1 + 1, 30, #[.slice none 0 0, .int .i64 0, .bool false, .int .i64 0, .slice none 0 0]) :: (w.heap.size + 1, 36, #[.int .i64 3, .int .i64 lg, .int .i64 nn, .string (txt s), .slice A keep.length cap]) :: (w.heap.size, 30, #[.slice AL r.logs.length cL, .int .i64 r.acts, .bool r.off, .int .i64 r.armed, .slice AK r.keep.length cK]) :: L) g d AL cL AK cK r) := Lib.hid (H4.out.call hb5)
            have hyq := HOU.out.lt
            have HYL := Lib.hid fun t ht => (H4.out.st.knows t ht).lt
            have hbl : bs.length ≤ 9223372036854775807 := by
              obtain ⟨_, _, _, e1, e2, -⟩ := own_bytes ho
              omega
            clear h5 hR5 hf5 hx5 ho hb5
            obtain ⟨q0, q1, q2, q3, q4⟩ := HK4.out _ (H5b.out.st.knows _ (List.mem_append.2 (.inr (List.mem_cons_of_mem _ (List.mem_cons_self ..)))))
            obtain ⟨⟨b0, b1, b2, b3, b4⟩, f0, f1, f2, f3, f4⟩ := (H5b.out.st.knows _ (List.mem_append.2 (.inr (List.mem_cons_of_mem _ (List.mem_cons_of_mem _ (List.mem_cons_self ..)))))).five
            have hxl := (H5b.out.st.knows _ (List.mem_append.2 (.inr (List.mem_cons_of_mem _ (List.mem_cons_of_mem _ (List.mem_cons_self ..)))))).lt
            have hro := HP.out.rok HH.out.ok (by omega)
            have hcc := Lib.hid (H5b.out.rbytes hro (show W64 lg from HGA.out.log))
            rw [HBX.out, HDC.out] at hcc
            unfold vM at hcc
            clear hro
            go_wp2_with fail
            refine hcc.out.mono ?_
            rintro e w6 ⟨rfl, hb6⟩
            clear q0 q1 q2 q3 q4 b0 b1 b2 b3 b4 f0 f1 f2 f3 f4 hxl
            have H6 := Lib.hid (H5.out.call hb6)
            have H6b := Lib.hid (H5b.out.call hb6)
            have HO6 := Lib.hid (HO5.out.call hb6)
            have HOB6 := Lib.hid (HOB.out.keep hb6 (Nat.le_refl _))
            clear hcc hb6 HOB HO5 H5 H5b HY5
            obtain ⟨q0, q1, q2, q3, q4⟩ := HK4.out _ (H6b.out.st.knows _ (List.mem_append.2 (.inr (List.mem_cons_of_mem _ (List.mem_cons_self ..)))))
            obtain ⟨⟨b0, b1, b2, b3, b4⟩, f0, f1, f2, f3, f4⟩ := (H6b.out.st.knows _ (List.mem_append.2 (.inr (List.mem_cons_of_mem _ (List.mem_cons_of_mem _ (List.mem_cons_self ..)))))).five
            have hxl := (H6b.out.st.knows _ (List.mem_append.2 (.inr (List.mem_cons_of_mem _ (List.mem_cons_of_mem _ (List.mem_cons_self ..)))))).lt
            rw [HOFF.out] at b2
            have hcv : (convert 41 9 (.slice A5 bs.length c5)).run Try.prog w6 = .ok (.string (txt bs)) w6 := conv_bytes _ A5 c5 _ w6 (HOB6.out.sees rfl)
            go_wp2_with fail
            clear hcv HOB6 q0 q1 q2 q3 q4 b0 b1 b2 b3 b4 f0 f1 f2 f3 f4 hxl
            go_loopw [16] (fun i wr => ∃ j : Nat, j ≤ (bs).length ∧ i = .int .i64 (j : Int) ∧ ∃ R2, Lp 5 (fun u => ∃ k : Int, u = .int .u8 k) A5 (bs).length q w6.heap[q]? W wr X5 R2 (R ++ (w.heap.size + 1 + 1, 30, #[.slice none 0 0, .int .i64 0, .bool false, .int .i64 0, .slice none 0 0]) :: (w.heap.size + 1, 36, #[.int .i64 3, .int .i64 lg, .int .i64 nn, .string (txt s), .slice A keep.length cap]) :: (w.heap.size, 30, #[.slice AL r.logs.length cL, .int .i64 r.acts, .bool r.off, .int .i64 r.armed, .slice AK r.keep.length cK]) :: L) g d AL cL AK cK r) (fun i _ => (bs).length - (intOf i).toNat)
            case atStart => exact ⟨0, by omega, rfl, R5, H6.out, HR5.out, rfl, fun z hz => ⟨by have := HF5.out z hz; omega, by have := HF5.out z hz; have := H4.out.st.below.size; omega, fun y2 hy2 => by have := HF5.out z hz; have := HYL.out y2 hy2; omega⟩⟩
            case round =>
              obtain ⟨j, hj, rfl, R2, hlp⟩ := hrel
              have HLP := Lib.hid hlp
              clear hlp
              by_cases hlt : j < (bs).length
              · obtain ⟨b5, u5, rfl, t0, ⟨k, rfl⟩, t1, t2, hset⟩ := HLP.out.step hlt
                have HSET := Lib.hid hset
                have hjl : (j : Int) < ((bs).length : Int) := by omega
                clear hset
                go_wp2_with fail
                go_roundw
                case rel => exact ⟨j + 1, by omega, by go_num, HSET.out _ ⟨_, rfl⟩⟩
                case measure => simp [intOf]; omega
              · obtain rfl : j = (bs).length := by omega
                go_wp2_with fail
                go_meet
                exact ⟨AL, cL, AK, cK, r, d, 0, rfl, rfl, (HLP.out.bw.few fun t ht => List.mem_append.2 (.inr ht)).less HX5.out (fun t ht => H4.out.mine t ht), HP.out.more (by omega), HO6.out.at HLP.out.same⟩
          · skip
            have hck := HP.out.rel.check lg
            rw [if_pos hin, hoff] at hck
            have HCK : Hid (d.check lg = 71) := Lib.hid hck
            obtain ⟨bs, hb0⟩ : ∃ bs : List UInt8, bs = [] := ⟨_, rfl⟩
            have HB0 := Lib.hid hb0
            have HRX : Hid (d.read lg = bs) := Lib.hid (by rw [hb0]; unfold D.read; rw [HCK.out]; rfl)
            clear hb0
            have HDC : Hid (decide (0 ≤ lg ∧ lg < (r.logs.length : Int)) = true) := Lib.hid (decide_eq_true hin)
            clear hck
            have HOFF := Lib.hid hoff
            clear hoff
            obtain ⟨q0, q1, q2, q3, q4⟩ := HK4.out _ (H4.out.st.knows _ (List.mem_append.2 (.inr (List.mem_cons_of_mem _ (List.mem_cons_self ..)))))
            obtain ⟨⟨b0, b1, b2, b3, b4⟩, f0, f1, f2, f3, f4⟩ := (H4.out.st.knows _ (List.mem_append.2 (.inr (List.mem_cons_of_mem _ (List.mem_cons_of_mem _ (List.mem_cons_self ..)))))).five
            have hxl := (H4.out.st.knows _ (List.mem_append.2 (.inr (List.mem_cons_of_mem _ (List.mem_cons_of_mem _ (List.mem_cons_self ..)))))).lt
            go_wp2_with fail
            refine (H4.out.read (show W64 lg from HGA.out.log)).mono ?_
            rintro e w5 ⟨v5, rfl, ho, hb5⟩
            rw [HCK.out]
            rw [HRX.out] at ho
            clear q0 q1 q2 q3 q4 b0 b1 b2 b3 b4 f0 f1 f2 f3 f4 hxl
            obtain ⟨A5, c5, R5, X5, rfl, h5, hR5, hf5, hx5⟩ := H4.out.ownV hb5 ho
            have H5 := Lib.hid h5
            have HR5 := Lib.hid hR5
            have HF5 := Lib.hid hf5
            have HX5 := Lib.hid hx5
            have HO5 := Lib.hid (HOU.out.call hb5)
            have HOB := Lib.hid ho
            have HY5 := Lib.hid h5.st.below
            have H5b : Hid (Bw W w5 X4 (R ++ (w.heap.size + 1 + 1, 30, #[.slice none 0 0, .int .i64 0, .bool false, .int .i64 0, .slice none 0 0]) :: (w.heap.size + 1, 36, #[.int .i64 3, .int .i64 lg, .int .i64 nn, .string (txt s), .slice A keep.length cap]) :: (w.heap.size, 30, #[.slice AL r.logs.length cL, .int .i64 r.acts, .bool r.off, .int .i64 r.armed, .slice AK r.keep.length cK]) :: L) g d AL cL AK cK r) := Lib.hid (H4.out.call hb5)
            have hyq := HOU.out.lt
            have HYL := Lib.hid fun t ht => (H4.out.st.knows t ht).lt
            have hbl : bs.length ≤ 9223372036854775807 := by
              obtain ⟨_, _, _, e1, e2, -⟩ := own_bytes ho
              omega
            clear h5 hR5 hf5 hx5 ho hb5
            obtain ⟨q0, q1, q2, q3, q4⟩ := HK4.out _ (H5b.out.st.knows _ (List.mem_append.2 (.inr (List.mem_cons_of_mem _ (List.mem_cons_self ..)))))
            obtain ⟨⟨b0, b1, b2, b3, b4⟩, f0, f1, f2, f3, f4⟩ := (H5b.out.st.knows _ (List.mem_append.2 (.inr (List.mem_cons_of_mem _ (List.mem_cons_of_mem _ (List.mem_cons_self ..)))))).five
            have hxl := (H5b.out.st.knows _ (List.mem_append.2 (.inr (List.mem_cons_of_mem _ (List.mem_cons_of_mem _ (List.mem_cons_self ..)))))).lt
            have hro := HP.out.rok HH.out.ok (by omega)
            have hcc := Lib.hid (H5b.out.rbytes hro (show W64 lg from HGA.out.log))
            rw [HDC.out] at hcc
            unfold vM at hcc
            clear hro
            go_wp2_with fail
            refine hcc.out.mono ?_
            rintro e w6 ⟨rfl, hb6⟩
            clear q0 q1 q2 q3 q4 b0 b1 b2 b3 b4 f0 f1 f2 f3 f4 hxl
            have H6 := Lib.hid (H5.out.call hb6)
            have H6b := Lib.hid (H5b.out.call hb6)
            have HO6 := Lib.hid (HO5.out.call hb6)
            have HOB6 := Lib.hid (HOB.out.keep hb6 (Nat.le_refl _))
            clear hcc hb6 HOB HO5 H5 H5b HY5
            obtain ⟨q0, q1, q2, q3, q4⟩ := HK4.out _ (H6b.out.st.knows _ (List.mem_append.2 (.inr (List.mem_cons_of_mem _ (List.mem_cons_self ..)))))
            obtain ⟨⟨b0, b1, b2, b3, b4⟩, f0, f1, f2, f3, f4⟩ := (H6b.out.st.knows _ (List.mem_append.2 (.inr (List.mem_cons_of_mem _ (List.mem_cons_of_mem _ (List.mem_cons_self ..)))))).five
            have hxl := (H6b.out.st.knows _ (List.mem_append.2 (.inr (List.mem_cons_of_mem _ (List.mem_cons_of_mem _ (List.mem_cons_self ..)))))).lt
            rw [HOFF.out] at b2
            have hcv : (convert 41 9 (.slice A5 bs.length c5)).run Try.prog w6 = .ok (.string ⟨#[]⟩) w6 := (conv_bytes _ A5 c5 _ w6 (HOB6.out.sees rfl)).trans (by rw [HB0.out])
            go_wp2_with fail
            clear hcv HOB6 q0 q1 q2 q3 q4 b0 b1 b2 b3 b4 f0 f1 f2 f3 f4 hxl
            go_loopw [16] (fun i wr => ∃ j : Nat, j ≤ (bs).length ∧ i = .int .i64 (j : Int) ∧ ∃ R2, Lp 5 (fun u => ∃ k : Int, u = .int .u8 k) A5 (bs).length q w6.heap[q]? W wr X5 R2 (R ++ (w.heap.size + 1 + 1, 30, #[.slice none 0 0, .int .i64 0, .bool false, .int .i64 0, .slice none 0 0]) :: (w.heap.size + 1, 36, #[.int .i64 3, .int .i64 lg, .int .i64 nn, .string (txt s), .slice A keep.length cap]) :: (w.heap.size, 30, #[.slice AL r.logs.length cL, .int .i64 r.acts, .bool r.off, .int .i64 r.armed, .slice AK r.keep.length cK]) :: L) g d AL cL AK cK r) (fun i _ => (bs).length - (intOf i).toNat)
            case atStart => exact ⟨0, by omega, rfl, R5, H6.out, HR5.out, rfl, fun z hz => ⟨by have := HF5.out z hz; omega, by have := HF5.out z hz; have := H4.out.st.below.size; omega, fun y2 hy2 => by have := HF5.out z hz; have := HYL.out y2 hy2; omega⟩⟩
            case round =>
              obtain ⟨j, hj, rfl, R2, hlp⟩ := hrel
              have HLP := Lib.hid hlp
              clear hlp
              by_cases hlt : j < (bs).length
              · obtain ⟨b5, u5, rfl, t0, ⟨k, rfl⟩, t1, t2, hset⟩ := HLP.out.step hlt
                have HSET := Lib.hid hset
                have hjl : (j : Int) < ((bs).length : Int) := by omega
                clear hset
                go_wp2_with fail
                go_roundw
                case rel => exact ⟨j + 1, by omega, by go_num, HSET.out _ ⟨_, rfl⟩⟩
                case measure => simp [intOf]; omega
              · obtain rfl : j = (bs).length := by omega
                go_wp2_with fail
                go_meet
                exact ⟨AL, cL, AK, cK, r, d, 71, rfl, rfl, (HLP.out.bw.few fun t ht => List.mem_append.2 (.inr ht)).less HX5.out (fun t ht => H4.out.mine t ht), HP.out.more (by omega), HO6.out.at HLP.out.same⟩
        · obtain ⟨off, hoff⟩ : ∃ off, r.off = off := ⟨_, rfl⟩
          have hck := HP.out.rel.check lg
          rw [if_neg hin] at hck
          have HCK : Hid (d.check lg = 70) := Lib.hid hck
          obtain ⟨bs, hb0⟩ : ∃ bs : List UInt8, bs = [] := ⟨_, rfl⟩
          have HB0 := Lib.hid hb0
          have HRX : Hid (d.read lg = bs) := Lib.hid (by rw [hb0]; unfold D.read; rw [HCK.out]; rfl)
          clear hb0
          have HBX : Hid (r.bytes lg = []) := Lib.hid (by unfold Rf.bytes; rw [if_neg hin])
          have HDC : Hid (decide (0 ≤ lg ∧ lg < (r.logs.length : Int)) = false) := Lib.hid (decide_eq_false hin)
          clear hck
          have HOFF := Lib.hid hoff
          clear hoff
          obtain ⟨q0, q1, q2, q3, q4⟩ := HK4.out _ (H4.out.st.knows _ (List.mem_append.2 (.inr (List.mem_cons_of_mem _ (List.mem_cons_self ..)))))
          obtain ⟨⟨b0, b1, b2, b3, b4⟩, f0, f1, f2, f3, f4⟩ := (H4.out.st.knows _ (List.mem_append.2 (.inr (List.mem_cons_of_mem _ (List.mem_cons_of_mem _ (List.mem_cons_self ..)))))).five
          have hxl := (H4.out.st.knows _ (List.mem_append.2 (.inr (List.mem_cons_of_mem _ (List.mem_cons_of_mem _ (List.mem_cons_self ..)))))).lt
          go_wp2_with fail
          refine (H4.out.read (show W64 lg from HGA.out.log)).mono ?_
          rintro e w5 ⟨v5, rfl, ho, hb5⟩
          rw [HCK.out]
          rw [HRX.out] at ho
          clear q0 q1 q2 q3 q4 b0 b1 b2 b3 b4 f0 f1 f2 f3 f4 hxl
          obtain ⟨A5, c5, R5, X5, rfl, h5, hR5, hf5, hx5⟩ := H4.out.ownV hb5 ho
          have H5 := Lib.hid h5
          have HR5 := Lib.hid hR5
          have HF5 := Lib.hid hf5
          have HX5 := Lib.hid hx5
          have HO5 := Lib.hid (HOU.out.call hb5)
          have HOB := Lib.hid ho
          have HY5 := Lib.hid h5.st.below
          have H5b : Hid (Bw W w5 X4 (R ++ (w.heap.size + 1 + 1, 30, #[.slice none 0 0, .int .i64 0, .bool false, .int .i64 0, .slice none 0 0]) :: (w.heap.size + 1, 36, #[.int .i64 3, .int .i64 lg, .int .i64 nn, .string (txt s), .slice A keep.length cap]) :: (w.heap.size, 30, #[.slice AL r.logs.length cL, .int .i64 r.acts, .bool r.off, .int .i64 r.armed, .slice AK r.keep.length cK]) :: L) g d AL cL AK cK r) := Lib.hid (H4.out.call hb5)
          have hyq := HOU.out.lt
          have HYL := Lib.hid fun t ht => (H4.out.st.knows t ht).lt
          have hbl : bs.length ≤ 9223372036854775807 := by
            obtain ⟨_, _, _, e1, e2, -⟩ := own_bytes ho
            omega
          clear h5 hR5 hf5 hx5 ho hb5
          obtain ⟨q0, q1, q2, q3, q4⟩ := HK4.out _ (H5b.out.st.knows _ (List.mem_append.2 (.inr (List.mem_cons_of_mem _ (List.mem_cons_self ..)))))
          obtain ⟨⟨b0, b1, b2, b3, b4⟩, f0, f1, f2, f3, f4⟩ := (H5b.out.st.knows _ (List.mem_append.2 (.inr (List.mem_cons_of_mem _ (List.mem_cons_of_mem _ (List.mem_cons_self ..)))))).five
          have hxl := (H5b.out.st.knows _ (List.mem_append.2 (.inr (List.mem_cons_of_mem _ (List.mem_cons_of_mem _ (List.mem_cons_self ..)))))).lt
          have hro := HP.out.rok HH.out.ok (by omega)
          have hcc := Lib.hid (H5b.out.rbytes hro (show W64 lg from HGA.out.log))
          rw [HBX.out, txt_nil, HDC.out] at hcc
          unfold vM at hcc
          clear hro
          go_wp2_with fail
          refine hcc.out.mono ?_
          rintro e w6 ⟨rfl, hb6⟩
          clear q0 q1 q2 q3 q4 b0 b1 b2 b3 b4 f0 f1 f2 f3 f4 hxl
          have H6 := Lib.hid (H5.out.call hb6)
          have H6b := Lib.hid (H5b.out.call hb6)
          have HO6 := Lib.hid (HO5.out.call hb6)
          have HOB6 := Lib.hid (HOB.out.keep hb6 (Nat.le_refl _))
          clear hcc hb6 HOB HO5 H5 H5b HY5
          obtain ⟨q0, q1, q2, q3, q4⟩ := HK4.out _ (H6b.out.st.knows _ (List.mem_append.2 (.inr (List.mem_cons_of_mem _ (List.mem_cons_self ..)))))
          obtain ⟨⟨b0, b1, b2, b3, b4⟩, f0, f1, f2, f3, f4⟩ := (H6b.out.st.knows _ (List.mem_append.2 (.inr (List.mem_cons_of_mem _ (List.mem_cons_of_mem _ (List.mem_cons_self ..)))))).five
          have hxl := (H6b.out.st.knows _ (List.mem_append.2 (.inr (List.mem_cons_of_mem _ (List.mem_cons_of_mem _ (List.mem_cons_self ..)))))).lt
          rw [HOFF.out] at b2
          have hcv : (convert 41 9 (.slice A5 bs.length c5)).run Try.prog w6 = .ok (.string ⟨#[]⟩) w6 := (conv_bytes _ A5 c5 _ w6 (HOB6.out.sees rfl)).trans (by rw [HB0.out])
          go_wp2_with fail
          clear hcv HOB6 q0 q1 q2 q3 q4 b0 b1 b2 b3 b4 f0 f1 f2 f3 f4 hxl
          go_loopw [16] (fun i wr => ∃ j : Nat, j ≤ (bs).length ∧ i = .int .i64 (j : Int) ∧ ∃ R2, Lp 5 (fun u => ∃ k : Int, u = .int .u8 k) A5 (bs).length q w6.heap[q]? W wr X5 R2 (R ++ (w.heap.size + 1 + 1, 30, #[.slice none 0 0, .int .i64 0, .bool false, .int .i64 0, .slice none 0 0]) :: (w.heap.size + 1, 36, #[.int .i64 3, .int .i64 lg, .int .i64 nn, .string (txt s), .slice A keep.length cap]) :: (w.heap.size, 30, #[.slice AL r.logs.length cL, .int .i64 r.acts, .bool r.off, .int .i64 r.armed, .slice AK r.keep.length cK]) :: L) g d AL cL AK cK r) (fun i _ => (bs).length - (intOf i).toNat)
          case atStart => exact ⟨0, by omega, rfl, R5, H6.out, HR5.out, rfl, fun z hz => ⟨by have := HF5.out z hz; omega, by have := HF5.out z hz; have := H4.out.st.below.size; omega, fun y2 hy2 => by have := HF5.out z hz; have := HYL.out y2 hy2; omega⟩⟩
          case round =>
            obtain ⟨j, hj, rfl, R2, hlp⟩ := hrel
            have HLP := Lib.hid hlp
            clear hlp
            by_cases hlt : j < (bs).length
            · obtain ⟨b5, u5, rfl, t0, ⟨k, rfl⟩, t1, t2, hset⟩ := HLP.out.step hlt
              have HSET := Lib.hid hset
              have hjl : (j : Int) < ((bs).length : Int) := by omega
              clear hset
              go_wp2_with fail
              go_roundw
              case rel => exact ⟨j + 1, by omega, by go_num, HSET.out _ ⟨_, rfl⟩⟩
              case measure => simp [intOf]; omega
            · obtain rfl : j = (bs).length := by omega
              go_wp2_with fail
              go_meet
              exact ⟨AL, cL, AK, cK, r, d, 70, rfl, rfl, (HLP.out.bw.few fun t ht => List.mem_append.2 (.inr ht)).less HX5.out (fun t ht => H4.out.mine t ht), HP.out.more (by omega), HO6.out.at HLP.out.same⟩
      · skip
        have hac := HP.out.acts
        have hda := HP.out.rel.acts
        have HRL := Lib.hid (HP.out.rel)
        obtain ⟨q0, q1, q2, q3, q4⟩ := HK4.out _ (H4.out.st.knows _ (List.mem_append.2 (.inr (List.mem_cons_of_mem _ (List.mem_cons_self ..)))))
        obtain ⟨⟨b0, b1, b2, b3, b4⟩, f0, f1, f2, f3, f4⟩ := (H4.out.st.knows _ (List.mem_append.2 (.inr (List.mem_cons_of_mem _ (List.mem_cons_of_mem _ (List.mem_cons_self ..)))))).five
        have hxl := (H4.out.st.knows _ (List.mem_append.2 (.inr (List.mem_cons_of_mem _ (List.mem_cons_of_mem _ (List.mem_cons_self ..)))))).lt
        go_wp2_with fail
        refine (H4.out.arm (show W64 nn from HGA.out.n) HIN.out).mono ?_
        rintro e w5 ⟨rfl, h5, hs5⟩
        have HO5 := Lib.hid (HOU.out.at (hs5 q HXQ.out))
        clear q0 q1 q2 q3 q4 b0 b1 b2 b3 b4 f0 f1 f2 f3 f4 hxl
        have H5 := Lib.hid h5
        clear h5 hs5 hac hda
        obtain ⟨q0, q1, q2, q3, q4⟩ := HK4.out _ (H5.out.st.knows _ (List.mem_append.2 (.inr (List.mem_cons_of_mem _ (List.mem_cons_self ..)))))
        obtain ⟨⟨b0, b1, b2, b3, b4⟩, f0, f1, f2, f3, f4⟩ := (H5.out.st.knows _ (List.mem_append.2 (.inr (List.mem_cons_of_mem _ (List.mem_cons_of_mem _ (List.mem_cons_self ..)))))).five
        have hxl := (H5.out.st.knows _ (List.mem_append.2 (.inr (List.mem_cons_of_mem _ (List.mem_cons_of_mem _ (List.mem_cons_self ..)))))).lt
        have hro := HP.out.rok HH.out.ok (by omega)
        have hcc := Lib.hid (H5.out.rarm hro (show W64 nn from HGA.out.n) (show keep.length ≤ 1000 by omega) (show A = none → cap = 0 from HGA.out.nil) (show InI W w5 _ A cap keep from HGA.out.inI H5.out.st.below))
        unfold vM at hcc
        clear hro
        go_wp2_with fail
        refine hcc.out.mono ?_
        rintro e w6 ⟨A1, c1, A2, c2, rfl, h6, hb6⟩
        clear q0 q1 q2 q3 q4 b0 b1 b2 b3 b4 f0 f1 f2 f3 f4 hxl
        have H6 := Lib.hid h6
        have HO6 := Lib.hid (HO5.out.call hb6)
        clear h6 hb6 hcc
        obtain ⟨q0, q1, q2, q3, q4⟩ := HK4.out _ (H6.out.st.knows _ (List.mem_append.2 (.inr (List.mem_cons_of_mem _ (List.mem_cons_self ..)))))
        obtain ⟨⟨b0, b1, b2, b3, b4⟩, f0, f1, f2, f3, f4⟩ := (H6.out.st.knows _ (List.mem_append.2 (.inr (List.mem_cons_of_mem _ (List.mem_cons_of_mem _ (List.mem_cons_self ..)))))).five
        have hxl := (H6.out.st.knows _ (List.mem_append.2 (.inr (List.mem_cons_of_mem _ (List.mem_cons_of_mem _ (List.mem_cons_self ..)))))).lt
        go_wp2_with fail
        have h7 := H6.out.box hwW (HD.out _ _ rfl rfl) (.slice A1 ((r.arm nn keep)).logs.length c1) (.int .i64 ((r.arm nn keep)).acts) (.bool ((r.arm nn keep)).off) (.int .i64 ((r.arm nn keep)).armed) (.slice A2 ((r.arm nn keep)).keep.length c2)
        have HO7 := Lib.hid ((HO6.out).at (five_same hqw (.slice A1 ((r.arm nn keep)).logs.length c1) (.int .i64 ((r.arm nn keep)).acts) (.bool ((r.arm nn keep)).off) (.int .i64 ((r.arm nn keep)).armed) (.slice A2 ((r.arm nn keep)).keep.length c2)))
        go_meet
        exact ⟨A1, c1, A2, c2, _, _, 0, rfl, rfl, h7, (HP.out.arm nn keep hk HGA.out.range).more (by omega), HO7.out⟩
      · skip
        have hac := HP.out.acts
        have hda := HP.out.rel.acts
        have HRL := Lib.hid (HP.out.rel)
        obtain ⟨q0, q1, q2, q3, q4⟩ := HK4.out _ (H4.out.st.knows _ (List.mem_append.2 (.inr (List.mem_cons_of_mem _ (List.mem_cons_self ..)))))
        obtain ⟨⟨b0, b1, b2, b3, b4⟩, f0, f1, f2, f3, f4⟩ := (H4.out.st.knows _ (List.mem_append.2 (.inr (List.mem_cons_of_mem _ (List.mem_cons_of_mem _ (List.mem_cons_self ..)))))).five
        have hxl := (H4.out.st.knows _ (List.mem_append.2 (.inr (List.mem_cons_of_mem _ (List.mem_cons_of_mem _ (List.mem_cons_self ..)))))).lt
        go_wp2_with fail
        refine (H4.out.crash HIN.out).mono ?_
        rintro e w5 ⟨rfl, h5, hs5⟩
        have HO5 := Lib.hid (HOU.out.at (hs5 q HXQ.out))
        clear q0 q1 q2 q3 q4 b0 b1 b2 b3 b4 f0 f1 f2 f3 f4 hxl
        have H5 := Lib.hid h5
        clear h5 hs5 hac hda
        obtain ⟨q0, q1, q2, q3, q4⟩ := HK4.out _ (H5.out.st.knows _ (List.mem_append.2 (.inr (List.mem_cons_of_mem _ (List.mem_cons_self ..)))))
        obtain ⟨⟨b0, b1, b2, b3, b4⟩, f0, f1, f2, f3, f4⟩ := (H5.out.st.knows _ (List.mem_append.2 (.inr (List.mem_cons_of_mem _ (List.mem_cons_of_mem _ (List.mem_cons_self ..)))))).five
        have hxl := (H5.out.st.knows _ (List.mem_append.2 (.inr (List.mem_cons_of_mem _ (List.mem_cons_of_mem _ (List.mem_cons_self ..)))))).lt
        have hro := HP.out.rok HH.out.ok (by omega)
        have hcc := Lib.hid (H5.out.rcrash hro (show InI W w5 _ A cap keep from HGA.out.inI H5.out.st.below))
        unfold vM at hcc
        clear hro
        go_wp2_with fail
        refine hcc.out.mono ?_
        rintro e w6 ⟨A1, c1, A2, c2, rfl, h6, hb6⟩
        clear q0 q1 q2 q3 q4 b0 b1 b2 b3 b4 f0 f1 f2 f3 f4 hxl
        have H6 := Lib.hid h6
        have HO6 := Lib.hid (HO5.out.call hb6)
        clear h6 hb6 hcc
        obtain ⟨q0, q1, q2, q3, q4⟩ := HK4.out _ (H6.out.st.knows _ (List.mem_append.2 (.inr (List.mem_cons_of_mem _ (List.mem_cons_self ..)))))
        obtain ⟨⟨b0, b1, b2, b3, b4⟩, f0, f1, f2, f3, f4⟩ := (H6.out.st.knows _ (List.mem_append.2 (.inr (List.mem_cons_of_mem _ (List.mem_cons_of_mem _ (List.mem_cons_self ..)))))).five
        have hxl := (H6.out.st.knows _ (List.mem_append.2 (.inr (List.mem_cons_of_mem _ (List.mem_cons_of_mem _ (List.mem_cons_self ..)))))).lt
        go_wp2_with fail
        have h7 := H6.out.box hwW (HD.out _ _ rfl rfl) (.slice A1 ((r.crash keep)).logs.length c1) (.int .i64 ((r.crash keep)).acts) (.bool ((r.crash keep)).off) (.int .i64 ((r.crash keep)).armed) (.slice A2 ((r.crash keep)).keep.length c2)
        have HO7 := Lib.hid ((HO6.out).at (five_same hqw (.slice A1 ((r.crash keep)).logs.length c1) (.int .i64 ((r.crash keep)).acts) (.bool ((r.crash keep)).off) (.int .i64 ((r.crash keep)).armed) (.slice A2 ((r.crash keep)).keep.length c2)))
        go_meet
        exact ⟨A1, c1, A2, c2, _, _, 0, rfl, rfl, h7, (HP.out.crash keep).more (by omega), HO7.out⟩
      · skip
        have hac := HP.out.acts
        have hda := HP.out.rel.acts
        have HRL := Lib.hid (HP.out.rel)
        obtain ⟨q0, q1, q2, q3, q4⟩ := HK4.out _ (H4.out.st.knows _ (List.mem_append.2 (.inr (List.mem_cons_of_mem _ (List.mem_cons_self ..)))))
        obtain ⟨⟨b0, b1, b2, b3, b4⟩, f0, f1, f2, f3, f4⟩ := (H4.out.st.knows _ (List.mem_append.2 (.inr (List.mem_cons_of_mem _ (List.mem_cons_of_mem _ (List.mem_cons_self ..)))))).five
        have hxl := (H4.out.st.knows _ (List.mem_append.2 (.inr (List.mem_cons_of_mem _ (List.mem_cons_of_mem _ (List.mem_cons_self ..)))))).lt
        go_wp2_with fail
        refine (H4.out.up).mono ?_
        rintro e w5 ⟨rfl, h5, hs5⟩
        have HO5 := Lib.hid (HOU.out.at (hs5 q HXQ.out))
        clear q0 q1 q2 q3 q4 b0 b1 b2 b3 b4 f0 f1 f2 f3 f4 hxl
        have H5 := Lib.hid h5
        clear h5 hs5 hac hda
        obtain ⟨q0, q1, q2, q3, q4⟩ := HK4.out _ (H5.out.st.knows _ (List.mem_append.2 (.inr (List.mem_cons_of_mem _ (List.mem_cons_self ..)))))
        obtain ⟨⟨b0, b1, b2, b3, b4⟩, f0, f1, f2, f3, f4⟩ := (H5.out.st.knows _ (List.mem_append.2 (.inr (List.mem_cons_of_mem _ (List.mem_cons_of_mem _ (List.mem_cons_self ..)))))).five
        have hxl := (H5.out.st.knows _ (List.mem_append.2 (.inr (List.mem_cons_of_mem _ (List.mem_cons_of_mem _ (List.mem_cons_self ..)))))).lt
        have hro := HP.out.rok HH.out.ok (by omega)
        have hcc := Lib.hid (H5.out.rup)
        unfold vM at hcc
        clear hro
        go_wp2_with fail
        refine hcc.out.mono ?_
        rintro e w6 ⟨rfl, h6, hb6⟩
        clear q0 q1 q2 q3 q4 b0 b1 b2 b3 b4 f0 f1 f2 f3 f4 hxl
        have H6 := Lib.hid h6
        have HO6 := Lib.hid (HO5.out.call hb6)
        clear h6 hb6 hcc
        obtain ⟨q0, q1, q2, q3, q4⟩ := HK4.out _ (H6.out.st.knows _ (List.mem_append.2 (.inr (List.mem_cons_of_mem _ (List.mem_cons_self ..)))))
        obtain ⟨⟨b0, b1, b2, b3, b4⟩, f0, f1, f2, f3, f4⟩ := (H6.out.st.knows _ (List.mem_append.2 (.inr (List.mem_cons_of_mem _ (List.mem_cons_of_mem _ (List.mem_cons_self ..)))))).five
        have hxl := (H6.out.st.knows _ (List.mem_append.2 (.inr (List.mem_cons_of_mem _ (List.mem_cons_of_mem _ (List.mem_cons_self ..)))))).lt
        go_wp2_with fail
        have h7 := H6.out.box hwW (HD.out _ _ rfl rfl) (.slice AL (r.up).logs.length cL) (.int .i64 (r.up).acts) (.bool (r.up).off) (.int .i64 (r.up).armed) (.slice AK (r.up).keep.length cK)
        have HO7 := Lib.hid ((HO6.out).at (five_same hqw (.slice AL (r.up).logs.length cL) (.int .i64 (r.up).acts) (.bool (r.up).off) (.int .i64 (r.up).armed) (.slice AK (r.up).keep.length cK)))
        go_meet
        exact ⟨AL, cL, AK, cK, _, _, 0, rfl, rfl, h7, HP.out.up.more (by omega), HO7.out⟩
      · skip
        obtain ⟨q0, q1, q2, q3, q4⟩ := HK4.out _ (H4.out.st.knows _ (List.mem_append.2 (.inr (List.mem_cons_of_mem _ (List.mem_cons_self ..)))))
        obtain ⟨⟨b0, b1, b2, b3, b4⟩, f0, f1, f2, f3, f4⟩ := (H4.out.st.knows _ (List.mem_append.2 (.inr (List.mem_cons_of_mem _ (List.mem_cons_of_mem _ (List.mem_cons_self ..)))))).five
        have hxl := (H4.out.st.knows _ (List.mem_append.2 (.inr (List.mem_cons_of_mem _ (List.mem_cons_of_mem _ (List.mem_cons_self ..)))))).lt
        go_wp2_with fail
        go_meet
        exact ⟨AL, cL, AK, cK, r, d, 0, rfl, rfl, H4.out, HP.out.more (by omega), HOU.out⟩
    case rest =>
      obtain ⟨A1, c1, A2, c2, r', d', e, rfl, rfl, h5, hp5, ho5⟩ := hcut
      have H5 := Lib.hid h5
      have HP5 := Lib.hid hp5
      have HO5 := Lib.hid ho5
      clear h5 hp5 ho5 H4 HOU HINB HIN
      go_wp2_with fail
      go_loopw [17] (fun i wr => ∃ j : Nat, j ≤ s.length ∧ i = .int .i64 (j : Int) ∧ Bw W wr X4 (R ++ (w.heap.size + 1 + 1, 30, #[.slice none 0 0, .int .i64 0, .bool false, .int .i64 0, .slice none 0 0]) :: (w.heap.size + 1, 36, #[.int .i64 kind, .int .i64 lg, .int .i64 nn, .string (txt s), .slice A keep.length cap]) :: (w.heap.size, 30, #[.slice A1 r'.logs.length c1, .int .i64 r'.acts, .bool r'.off, .int .i64 r'.armed, .slice A2 r'.keep.length c2]) :: L) g d' A1 c1 A2 c2 r' ∧ Any wr q s.length) (fun i _ => s.length - (intOf i).toNat)
      case atStart => exact ⟨0, by omega, rfl, H5.out, HO5.out.any⟩
      case round =>
        obtain ⟨j, hj, rfl, hb6, ha6⟩ := hrel
        have H6 := Lib.hid hb6
        have HA6 := Lib.hid ha6
        clear hb6 ha6 H5 HO5
        by_cases hlt : j < s.length
        · obtain ⟨k, t0, t1, t2, hset⟩ := HA6.out.step hlt
          have HSET := Lib.hid hset
          have hjl : (j : Int) < (s.length : Int) := by omega
          clear hset
          go_wp2_with fail
          go_roundw
          case rel => exact ⟨j + 1, by omega, by go_num, H6.out.setX HXQ.out hqW (HQL.out _ _ _ rfl rfl rfl) j _, HSET.out _⟩
          case measure => simp [intOf]; omega
        · obtain rfl : j = s.length := by omega
          go_wp2_with fail
          go_loopw [18] (fun i w8 => ∃ j : Nat, j ≤ keep.length ∧ i = .int .i64 (j : Int) ∧ ∃ R2, Lp 3 (fun u => ∃ k : Int, u = .int .i64 k) A3 keep.length q wr.heap[q]? W w8 X4 R2 ((w.heap.size + 1 + 1, 30, #[.slice none 0 0, .int .i64 0, .bool false, .int .i64 0, .slice none 0 0]) :: (w.heap.size + 1, 36, #[.int .i64 kind, .int .i64 lg, .int .i64 nn, .string (txt s), .slice A keep.length cap]) :: (w.heap.size, 30, #[.slice A1 r'.logs.length c1, .int .i64 r'.acts, .bool r'.off, .int .i64 r'.armed, .slice A2 r'.keep.length c2]) :: L) g d' A1 c1 A2 c2 r') (fun i _ => keep.length - (intOf i).toNat)
          case atStart => exact ⟨0, by omega, rfl, R, H6.out, HR.out.row, rfl, fun z hz => ⟨(HRQ.out z hz).1, by have := (HRQ.out z hz).2; omega, HRL.out _ _ _ rfl rfl rfl z hz⟩⟩
          case round =>
            obtain ⟨j3, hj3, rfl, R2, hlp⟩ := hrel
            have HLP := Lib.hid hlp
            clear hlp H6 HA6
            by_cases hlt3 : j3 < keep.length
            · obtain ⟨b5, u5, rfl, t0, ⟨k, rfl⟩, t1, t2, hset⟩ := HLP.out.step hlt3
              have HSET := Lib.hid hset
              have hjl : (j3 : Int) < (keep.length : Int) := by omega
              clear hset
              go_wp2_with fail
              go_roundw
              case rel => exact ⟨j3 + 1, by omega, by go_num, HSET.out _ ⟨_, rfl⟩⟩
              case measure => simp [intOf]; omega
            · obtain rfl : j3 = keep.length := by omega
              have H8 := Lib.hid (HLP.out.bw.few (L' := (w.heap.size + 1 + 1, 30, #[.slice none 0 0, .int .i64 0, .bool false, .int .i64 0, .slice none 0 0]) :: (w.heap.size + 1, 36, #[.int .i64 kind, .int .i64 lg, .int .i64 nn, .string (txt s), .slice A keep.length cap]) :: (w.heap.size, 30, #[.slice A1 r'.logs.length c1, .int .i64 r'.acts, .bool r'.off, .int .i64 r'.armed, .slice A2 r'.keep.length c2]) :: L) fun t ht => List.mem_append.2 (.inr ht))
              obtain ⟨⟨r0, r1, r2, r3, r4⟩, k0, k1, k2, k3, k4⟩ := (H8.out.st.knows.at 0 rfl).five
              obtain ⟨⟨b0, b1, b2, b3, b4⟩, f0, f1, f2, f3, f4⟩ := (H8.out.st.knows.at 2 rfl).five
              clear HLP
              go_wp2_with fail
              refine bodyPost_ret (by simp [results, Try.results12, go_sem, r0, r1, r2, r3, r4, k0, k1, k2, k3, k4]; try rfl) rfl ?_
              have H9 := H8.out.five (x := w.heap.size + 1 + 1) (by omega) (HZ.out _ _ rfl rfl) (.slice A1 r'.logs.length c1) (.int .i64 r'.acts) (.bool r'.off) (.int .i64 r'.armed) (.slice A2 r'.keep.length c2)
              exact ⟨A1, c1, A2, c2, r', d', rfl, (H9.few (L' := L) fun t ht => by simp [ht]).less (fun b hb => HXX.out b (.inl (.inl (.inl hb)))) (fun t ht => HH.out.mine t ht), HP5.out⟩
end Go.Proofs.Ytllbfoohhonmeaa
