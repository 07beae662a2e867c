/- Nets in memory, of whatever is said. -/
import Derived.Test.YtmbednikbdfnmaaPostM
import Derived.Test.YtmbednikbdfnmaaOff
import Derived.Maps.OwnSet
namespace Go.Proofs.Ytmbednikbdfnmaa
open Go.RowKit Go.Po Go.Maps
set_option linter.unusedVariables false
set_option linter.unusedSimpArgs false
set_option maxRecDepth 100000

theorem key_law : Keyed Try.prog 3 := int_keyed Try.underlying3
theorem key_of {x : Int} (h : W64 x) : keyOf Try.prog 3 (.int .i64 x) = some (.int .i64 x) := keyOf_int_mk Try.underlying3 (WalkArith.wf_i64 (by unfold W64 at h; omega))
/-- Block mb is the set of those for which f says so, behind k puts. -/
def Offs (w : World) (mb k : Nat) (f : Int → Bool) : Prop := ∃ D : DataW Unit, w.ownsMap Try.prog 3 unitElem mb k D ∧ ∀ x, has D (.int .i64 x) = f x
theorem Offs.made (w : World) : Offs (w.alloc (.map #[] 0)) w.heap.size 0 fun _ => false := ⟨.map [], World.ownsMap_made w Try.prog 3 unitElem, fun x => rfl⟩
theorem Offs.lt {w : World} {mb k : Nat} {f : Int → Bool} (h : Offs w mb k f) : mb < w.heap.size := by obtain ⟨D, h, -⟩ := h; exact h.lt
theorem Offs.at {w w' : World} {mb k : Nat} {f : Int → Bool} (h : Offs w mb k f) (he : w'.heap[mb]? = w.heap[mb]?) : Offs w' mb k f := by
  obtain ⟨D, ⟨es, clock, hb, r⟩, hD⟩ := h
  exact ⟨D, ⟨es, clock, he.trans hb, r⟩, hD⟩
theorem Offs.notCells {w : World} {mb k g : Nat} {f : Int → Bool} {t : TypeId} {cs : Array Value} {fr : Nat × Nat} (h : Offs w mb k f) (hg : w.heap[g]? = some (.cells cs t fr)) : mb ≠ g := by
  intro e
  subst e
  obtain ⟨D, ⟨es, clock, hb, r⟩, hD⟩ := h
  rw [hb] at hg
  cases hg

section
variable {α : Type}
def encL (p : α → Value) (l : Lt α) : List Value := [.int .i64 l.id, .int .i64 l.frm, .int .i64 l.to, p l.m]
theorem encL_len (p : α → Value) (l : Lt α) : (encL p l).length = 4 := rfl
theorem encL_one {p : α → Value} (hp : ∀ m, (p m).oneCell' = true) (l : List (Lt α)) : ∀ u ∈ flat (encL p) l, u.oneCell' = true := by
  intro u hu
  unfold flat at hu
  obtain ⟨a, _, hu⟩ := List.mem_flatMap.1 hu
  simp only [encL, List.mem_cons, List.not_mem_nil, or_false] at hu
  rcases hu with rfl | rfl | rfl | rfl
  · rfl
  · rfl
  · rfl
  · exact hp _
/-- Block g, of type t, is the net n, whose letters, of type e, are shown by v and whose set is block mb; all of it is in F. -/
structure Nx (t e : TypeId) (p : α → Value) (w : World) (g mb : Nat) (v : Value) (n : Nt α) (F : Nat → Prop) : Prop where
  fine : Fine n
  face : Whole w g t #[.int .i64 n.nodes, .int .i64 n.sent, v, .map (some mb)]
  set : Offs w mb n.puts n.off
  own : w.ownsRow 0 e 4 v n.under.length (flat (encL p) n.under)
  mine : F g ∧ F mb ∧ ∀ b, v.ownBlock = some b → F b
  low : ∀ b, F b → b < w.heap.size
/-- The same, wherever its letters and its set lie. -/
def Net (t e : TypeId) (p : α → Value) (w : World) (g : Nat) (n : Nt α) (F : Nat → Prop) : Prop := ∃ mb v, Nx t e p w g mb v n F
/-- The net g has become n, and nothing else that is old has changed. -/
structure Went (t e : TypeId) (p : α → Value) (F : Nat → Prop) (w w' : World) (g : Nat) (n : Nt α) : Prop where
  off : Off F w w'
  net : ∃ F', (∀ b, F' b → F b ∨ w.heap.size ≤ b) ∧ Net t e p w' g n F'
variable {t e : TypeId} {p : α → Value} {w w' : World} {g mb : Nat} {v : Value} {n n' : Nt α} {F : Nat → Prop}
theorem own_at {B size k : Nat} {xs : List Value} (h : w.ownsRow B e size v k xs) (hk : ∀ b, v.ownBlock = some b → w'.heap[b]? = w.heap[b]?) : w'.ownsRow B e size v k xs := by
  refine ⟨h.1, ?_⟩
  rcases h.2 with hn | ⟨g, cap, cur, rfl, hb, hg, r⟩
  · exact .inl hn
  · exact .inr ⟨g, cap, cur, rfl, hb, (hk g rfl).trans hg, r⟩
theorem own_whole {B size k : Nat} {xs : List Value} (h : w.ownsRow B e size v k xs) {b : Nat} (hv : v.ownBlock = some b) : ∃ cs, Whole w b e cs := by
  rcases h.2 with ⟨rfl, _⟩ | ⟨g, cap, cur, rfl, hb, hg, r⟩
  · simp [Value.ownBlock] at hv
  · have : g = b := by simpa [Value.ownBlock] using hv
    subst this
    exact ⟨cur, hg⟩
theorem own_less {B B' size k : Nat} {xs : List Value} (h : w.ownsRow B e size v k xs) (hB : B' ≤ B) : w.ownsRow B' e size v k xs := by
  refine ⟨h.1, ?_⟩
  rcases h.2 with hn | ⟨g, cap, cur, rfl, hb, hg, r⟩
  · exact .inl hn
  · exact .inr ⟨g, cap, cur, rfl, Nat.le_trans hB hb, hg, r⟩
theorem own_lt {B size k : Nat} {xs : List Value} (h : w.ownsRow B e size v k xs) {b : Nat} (hv : v.ownBlock = some b) : B ≤ b ∧ b < w.heap.size := by
  rcases h.2 with ⟨rfl, _⟩ | ⟨g, cap, cur, rfl, hb, hg, r⟩
  · simp [Value.ownBlock] at hv
  · have : g = b := by simpa [Value.ownBlock] using hv
    subst this
    exact ⟨hb, (Array.getElem?_eq_some_iff.1 hg).1⟩
theorem Nx.away (x : Nx t e p w g mb v n F) (hs : w.heap.size ≤ w'.heap.size) (hk : ∀ b, F b → w'.heap[b]? = w.heap[b]?) : Nx t e p w' g mb v n F :=
  ⟨x.fine, (hk g x.mine.1).trans x.face, x.set.at (hk mb x.mine.2.1), own_at x.own fun b hb => hk b (x.mine.2.2 b hb), x.mine, fun b hb => Nat.lt_of_lt_of_le (x.low b hb) hs⟩
theorem Nx.call (x : Nx t e p w g mb v n F) (hb : Below w.heap.size w w') : Nx t e p w' g mb v n F := x.away hb.size fun b hf => hb.block b (x.low b hf)
theorem Nx.alloc (x : Nx t e p w g mb v n F) (o : Obj) : Nx t e p (w.alloc o) g mb v n F := x.call ((Below.refl _ _).alloc (Nat.le_refl _) o)
theorem Nx.drewN (x : Nx t e p w g mb v n F) (k : Nat) : Nx t e p (w.drewN k) g mb v n F := x.away (Nat.le_refl _) fun _ _ => rfl
theorem Nx.off {G : Nat → Prop} (x : Nx t e p w g mb v n F) (ho : Off G w w') (hG : ∀ b, F b → ¬ G b) : Nx t e p w' g mb v n F := x.away ho.size fun b hf => ho.block b (x.low b hf) (hG b hf)
theorem Nx.cells (x : Nx t e p w g mb v n F) : w.cell? ⟨g, 0, none⟩ = some (.int .i64 n.nodes) ∧ w.cell? ⟨g, 1, none⟩ = some (.int .i64 n.sent) ∧ w.cell? ⟨g, 2, none⟩ = some v ∧ w.cell? ⟨g, 3, none⟩ = some (.map (some mb)) :=
  ⟨x.face.cell 0, x.face.cell 1, x.face.cell 2, x.face.cell 3⟩
theorem Nx.free (x : Nx t e p w g mb v n F) : w.frozen? ⟨g, 1, none⟩ = false ∧ w.frozen? ⟨g, 2, none⟩ = false := ⟨x.face.free 1, x.face.free 2⟩
theorem Nx.mg (x : Nx t e p w g mb v n F) : mb ≠ g := x.set.notCells x.face
theorem Nx.mv (x : Nx t e p w g mb v n F) {b : Nat} (hb : v.ownBlock = some b) : mb ≠ b := by obtain ⟨cs, h⟩ := own_whole x.own hb; exact x.set.notCells h
theorem Nx.gv (x : Nx t e p w g mb v n F) (hte : t ≠ e) {b : Nat} (hb : v.ownBlock = some b) : g ≠ b := by obtain ⟨cs, h⟩ := own_whole x.own hb; exact whole_unlike x.face h hte
theorem Nx.slice (x : Nx t e p w g mb v n F) : ∃ A cap, v = .slice A n.under.length cap ∧ n.under.length ≤ cap ∧ cap ≤ 9223372036854775807 ∧ (A = none → cap = 0) := own_slice0 x.own
/-- Letter i's cells. -/
theorem Nx.letter (x : Nx t e p w g mb v n F) {i : Nat} {l : Lt α} (hi : n.under[i]? = some l) {A : Option Addr} {cap : Nat} (hv : v = .slice A n.under.length cap) :
    ∃ b, A = some ⟨b, 0, none⟩ ∧ w.cell? ⟨b, i * 4, none⟩ = some (.int .i64 l.id) ∧ w.cell? ⟨b, i * 4 + 1, none⟩ = some (.int .i64 l.frm) ∧ w.cell? ⟨b, i * 4 + 2, none⟩ = some (.int .i64 l.to) ∧ w.cell? ⟨b, i * 4 + 3, none⟩ = some (p l.m) := by
  have hlt := (List.getElem?_eq_some_iff.1 hi).1
  have ho := x.own
  rw [hv] at ho
  rcases ho.2 with ⟨h, h0⟩ | ⟨b, cap', cur, h, hb, hg, r⟩
  · omega
  · simp only [Value.slice.injEq, true_and] at h
    obtain ⟨rfl, rfl⟩ := h
    have hat := flat_at (encL_len p) n.under i l hi
    refine ⟨b, rfl, ?_, ?_, ?_, ?_⟩
    · rw [ho.cellAt (i * 4) (by omega)]; exact hat 0 (by omega)
    · rw [ho.cellAt (i * 4 + 1) (by omega)]; exact hat 1 (by omega)
    · rw [ho.cellAt (i * 4 + 2) (by omega)]; exact hat 2 (by omega)
    · rw [ho.cellAt (i * 4 + 3) (by omega)]; exact hat 3 (by omega)
/-- How many were sent is set. -/
theorem Nx.setSent (x : Nx t e p w g mb v n F) (hte : t ≠ e) (s : Nat) (hs : n.sent ≤ s) : Nx t e p (w.setCell ⟨g, 1, none⟩ (.int .i64 s)) g mb v { n with sent := s } F := by
  have far : ∀ b, b ≠ g → (w.setCell ⟨g, 1, none⟩ (.int .i64 (s : Int))).heap[b]? = w.heap[b]? := fun b hb => Below.heap_setCell w ⟨g, 1, none⟩ _ b hb
  refine ⟨⟨x.fine.nodes, x.fine.few, fun l hl => ?_⟩, ?_, x.set.at (far mb x.mg), own_at x.own fun b hb => far b (Ne.symm (x.gv hte hb)), x.mine, fun b hb => by simpa using x.low b hb⟩
  · have := x.fine.good l hl
    exact ⟨⟨this.id.1, Int.le_trans this.id.2 (by simp; omega)⟩, this.frm, this.to⟩
  · simpa using x.face.set 1 (.int .i64 (s : Int))
/-- Its letters are others, which lie where they lay or in a new block. -/
theorem Nx.setUnder (x : Nx t e p w g mb v n F) (hte : t ≠ e) {y : World} {v2 : Value} {l : List (Lt α)} (hf : Fine { n with under := l }) (ho : y.ownsRow 0 e 4 v2 l.length (flat (encL p) l)) (hg : w.grownBy y v.ownBlock)
    (hat : v2.ownBlock = v.ownBlock ∨ v2.ownBlock = some w.heap.size) : Nx t e p (y.setCell ⟨g, 2, none⟩ v2) g mb v2 { n with under := l } fun b => F b ∨ w.heap.size ≤ b ∧ b < y.heap.size := by
  have far : ∀ b, b ≠ g → (y.setCell ⟨g, 2, none⟩ v2).heap[b]? = y.heap[b]? := fun b hb => Below.heap_setCell y ⟨g, 2, none⟩ _ b hb
  have hgl := x.low g x.mine.1
  have hml := x.low mb x.mine.2.1
  have newb : ∀ b, v2.ownBlock = some b → (v.ownBlock = some b ∨ w.heap.size ≤ b) ∧ b < y.heap.size := fun b hb => by
    refine ⟨?_, (own_lt ho hb).2⟩
    rcases hat with h | h
    · exact .inl (h.symm.trans hb)
    · rw [h] at hb; injection hb with hb; exact .inr (by omega)
  refine ⟨hf, ?_, (x.set.at (hg.block mb hml fun e => x.mv e.symm rfl)).at (far mb x.mg), own_at ho fun b hb => far b fun e2 => ?_, ⟨.inl x.mine.1, .inl x.mine.2.1, fun b hb => ?_⟩, fun b hb => ?_⟩
  · have hw : Whole y g t #[.int .i64 n.nodes, .int .i64 n.sent, v, .map (some mb)] := x.face.grown hg fun e2 => x.gv hte e2.symm rfl
    simpa using hw.set 2 v2
  · subst e2
    rcases (newb b hb).1 with h | h
    · exact x.gv hte h rfl
    · omega
  · rcases newb b hb with ⟨h | h, h2⟩
    · exact .inl (x.mine.2.2 b h)
    · exact .inr ⟨h, h2⟩
  · have := hg.size
    rcases hb with hb | hb
    · have := x.low b hb; simp; omega
    · simpa using hb.2
theorem Nx.wentUnder (x : Nx t e p w g mb v n F) (hte : t ≠ e) {y : World} {v2 : Value} {l : List (Lt α)} (hf : Fine { n with under := l }) (ho : y.ownsRow 0 e 4 v2 l.length (flat (encL p) l)) (hg : w.grownBy y v.ownBlock)
    (hat : v2.ownBlock = v.ownBlock ∨ v2.ownBlock = some w.heap.size) : Went t e p F w (y.setCell ⟨g, 2, none⟩ v2) g { n with under := l } := by
  refine ⟨((Off.refl F w).grown hg fun b hb => .inl (x.mine.2.2 b hb)).set (p := ⟨g, 2, none⟩) (.inl x.mine.1) _, _, fun b hb => ?_, mb, v2, x.setUnder hte hf ho hg hat⟩
  rcases hb with hb | hb
  · exact .inl hb
  · exact .inr hb.1
theorem Net.call (x : Net t e p w g n F) (hb : Below w.heap.size w w') : Net t e p w' g n F := by
  obtain ⟨mb, v, x⟩ := x
  exact ⟨mb, v, x.call hb⟩
theorem Net.low (x : Net t e p w g n F) {b : Nat} (hb : F b) : b < w.heap.size := by obtain ⟨mb, v, x⟩ := x; exact x.low b hb
theorem Net.fine (x : Net t e p w g n F) : Fine n := by obtain ⟨mb, v, x⟩ := x; exact x.fine
theorem Went.same (x : Nx t e p w g mb v n F) (hb : Below w.heap.size w w') : Went t e p F w w' g n := ⟨.of hb F, F, fun b h => .inl h, mb, v, x.call hb⟩
theorem Went.before {w1 : World} (hb : Below w.heap.size w w1) (hm : Went t e p F w1 w' g n) : Went t e p F w w' g n := by
  obtain ⟨ho, F', hF, hd⟩ := hm
  refine ⟨(Off.of hb F).trans ho, F', fun b hf => ?_, hd⟩
  rcases hF b hf with h | h
  · exact .inl h
  · exact .inr (Nat.le_trans hb.size h)
theorem Went.after {w1 : World} (hm : Went t e p F w w1 g n) (hb : Below w1.heap.size w1 w') : Went t e p F w w' g n := by
  obtain ⟨ho, F', hF, hd⟩ := hm
  exact ⟨ho.call hb, F', hF, hd.call hb⟩
/-- The worlds behind steps that change nothing old. -/
theorem Nx.class (x : Nx t e p w g mb v n F) : ∃ C : World → Prop, C w.drew ∧ Hid (∀ a b, C a → Below a.heap.size a b → C b) ∧ Hid (∀ a, C a → Nx t e p a g mb v n F ∧ Below w.heap.size w a) :=
  ⟨fun a => Nx t e p a g mb v n F ∧ Below w.heap.size w a, ⟨x.drewN 1, below_drewN (Below.refl _ _) 1⟩, Lib.hid fun a b ha hb => ⟨ha.1.call hb, ha.2.trans (hb.mono ha.2.size)⟩, Lib.hid fun a ha => ha⟩
end
/-- Worlds round a slice literal (a), an append (b) and a store (c). -/
structure Aq (z y : World) (o : Obj) (O : World → Value → Prop) (st : World → Value → World) (v : Value) (a b c : Bool) : Prop where
  none : a = false → y = z ∧ b = false ∧ c = false
  made : a = true → b = false → y = z.alloc o ∧ c = false
  mid : b = true → c = false → O y v
  fin : b = true → c = true → ∃ y0, O y0 v ∧ y = st y0 v
section
variable {z y : World} {o : Obj} {O : World → Value → Prop} {st : World → Value → World} {v : Value} {a b c : Bool}
theorem Aq.start (z : World) (o : Obj) (O : World → Value → Prop) (st : World → Value → World) (v : Value) : Aq z z o O st v false false false := ⟨fun _ => ⟨rfl, rfl, rfl⟩, (fun h => by cases h), (fun h => by cases h), fun h => by cases h⟩
theorem Aq.alloc (h : Aq z z o O st v a b c) (ha : a = false) (hb : b = false) (hc : c = false) : Aq z (z.alloc o) o O st v true false false := ⟨(fun h => by cases h), fun _ _ => ⟨rfl, rfl⟩, (fun h => by cases h), fun h => by cases h⟩
theorem Aq.allocD {z0 : World} (h : Aq z0.drew z0.drew o O st v a b c) (ha : a = false) (hb : b = false) (hc : c = false) : Aq z0.drew (z0.alloc o).drew o O st v true false false := h.alloc ha hb hc
theorem Aq.app (h : O y v) : Aq z y o O st v true true false := ⟨(fun h => by cases h), (fun _ h => by cases h), fun _ _ => h, fun _ h => by cases h⟩
theorem Aq.stored (h : O y v) : Aq z (st y v) o O st v true true true := ⟨(fun h => by cases h), (fun _ h => by cases h), (fun _ h => by cases h), fun _ _ => ⟨y, h, rfl⟩⟩
theorem Aq.low (h : Aq z y o O st v a b c) (hb : b = false) : Below z.heap.size z y := by
  cases ha : a with
  | false => rw [(h.none ha).1]; exact Below.refl _ _
  | true => rw [(h.made ha hb).1]; exact (Below.refl _ _).alloc (Nat.le_refl _) o
end
/-- A slice literal of one thing shows it. -/
theorem sees_new (z : World) (k : Nat) (hk : k = z.heap.size) (size : Nat) (e : TypeId) (xs : List Value) (hx : xs.length = size) : Sees (z.alloc (.cells xs.toArray e)) (k + 1) size (some ⟨k, 0, none⟩) 1 xs := by
  subst hk
  refine ⟨by omega, fun _ => ⟨z.heap.size, 0, rfl, by omega, fun j u hu => ?_⟩⟩
  rw [Nat.zero_add, (Whole.fresh z e xs.toArray).cell j]
  simpa using hu
end Go.Proofs.Ytmbednikbdfnmaa
