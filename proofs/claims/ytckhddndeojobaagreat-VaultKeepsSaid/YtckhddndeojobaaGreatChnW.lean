/- Chains in memory: rows of versions; a chain by its footprint. -/
import Derived.Test.YtckhddndeojobaaGreatChnM
import Derived.Test.YtckhddndeojobaaGreatOff
import Derived.Maps.OwnSet
namespace Go.Proofs.YtckhddndeojobaaGreat
open Go.RowKit Go.Cn
set_option linter.unusedVariables false
set_option linter.unusedSimpArgs false
set_option maxRecDepth 100000

/-! ### Rows of versions -/
def encV (v : Ve) : List Value := [.int .i64 v.1, .int .i64 v.2]
theorem encV_len (v : Ve) : (encV v).length = 2 := rfl
abbrev aggV (v : Ve) : Value := .agg #[.int .i64 v.1, .int .i64 v.2]
theorem encV_one (l : List Ve) : ∀ u ∈ flat encV l, u.oneCell' = true := by
  intro u hu
  unfold flat at hu
  obtain ⟨a, _, hu⟩ := List.mem_flatMap.1 hu
  simp only [encV, List.mem_cons, List.not_mem_nil, or_false] at hu
  rcases hu with rfl | rfl <;> rfl
theorem encV_flat (l : List Ve) : (flat encV l).length = l.length * 2 := flat_length encV_len l
theorem flat_take {α : Type} {enc : α → List Value} {size : Nat} (h : ∀ v, (enc v).length = size) (l : List α) (k : Nat) : (flat enc l).take (k * size) = flat enc (l.take k) := by
  induction l generalizing k with
  | nil => simp [flat]
  | cons a l ih =>
    cases k with
    | zero => simp [flat]
    | succ k =>
      rw [List.take_succ_cons]
      show (enc a ++ flat enc l).take ((k + 1) * size) = enc a ++ flat enc (l.take k)
      rw [← ih k, Nat.succ_mul, Nat.add_comm, ← h a, List.take_length_add_append]
theorem flat_drop {α : Type} {enc : α → List Value} {size : Nat} (h : ∀ v, (enc v).length = size) (l : List α) (k : Nat) : (flat enc l).drop (k * size) = flat enc (l.drop k) := by
  induction l generalizing k with
  | nil => simp [flat]
  | cons a l ih =>
    cases k with
    | zero => simp [flat]
    | succ k =>
      rw [List.drop_succ_cons]
      show (enc a ++ flat enc l).drop ((k + 1) * size) = flat enc (l.drop k)
      rw [← ih k, Nat.succ_mul, Nat.add_comm, ← h a, List.drop_length_add_append]
theorem info_ver : (Tryz.prog.info? 81).map (fun i => (i.zero, i.size, i.bytes)) = some (some (.agg #[.int .i64 0, .int .i64 0]), 2, 16) := by kernel_rfl
/-- A row of versions: what a slice shows. -/
structure Rv (w : World) (A : Option Addr) (cap : Nat) (l : List Ve) : Prop where
  sees : Sees w w.heap.size 2 A l.length (flat encV l)
  room : l.length ≤ cap
  top : cap ≤ 9223372036854775807
  nil : A = none → cap = 0
section
variable {w w' : World} {A : Option Addr} {cap : Nat} {l : List Ve}
theorem Rv.call (h : Rv w A cap l) (hb : Below w.heap.size w w') : Rv w' A cap l := ⟨(h.sees.below hb).more hb.size, h.room, h.top, h.nil⟩
theorem Rv.none (w : World) : Rv w none 0 [] := ⟨Sees.nothing _ _ _ _, Nat.le_refl _, by omega, fun _ => rfl⟩
theorem Rv.cell (h : Rv w A cap l) (k : Nat) (v : Ve) (hn : l[k]? = some v) :
    ∃ b off, A = some ⟨b, off, Option.none⟩ ∧ b < w.heap.size ∧ w.cell? ⟨b, off + k * 2, Option.none⟩ = some (.int .i64 v.1) ∧ w.cell? ⟨b, off + k * 2 + 1, Option.none⟩ = some (.int .i64 v.2) := by
  obtain ⟨b, off, h1, h2, h3⟩ := h.sees.item encV_len (by omega) k v hn
  exact ⟨b, off, h1, h2, h3 0 _ rfl, h3 1 _ rfl⟩
theorem Rv.cellAt {b off : Nat} (h : Rv w (Option.some ⟨b, off, Option.none⟩) cap l) (k : Nat) (v : Ve) (hn : l[k]? = some v) :
    b < w.heap.size ∧ w.cell? ⟨b, off + k * 2, Option.none⟩ = some (.int .i64 v.1) ∧ w.cell? ⟨b, off + k * 2 + 1, Option.none⟩ = some (.int .i64 v.2) := by
  obtain ⟨b', off', h1, h2, h3, h4⟩ := h.cell k v hn
  injection h1 with h1
  injection h1 with e1 e2
  subst e1 e2
  exact ⟨h2, h3, h4⟩
theorem Rv.some (h : Rv w A cap l) (hl : 0 < l.length) : ∃ b off, A = Option.some ⟨b, off, Option.none⟩ ∧ b < w.heap.size := by
  obtain ⟨b, off, h1, h2, -⟩ := h.sees.2 hl
  exact ⟨b, off, h1, h2⟩
theorem Rv.low (h : Rv w A cap l) (a : Addr) (hl : 0 < l.length) (hA : A = Option.some a) : a.block < w.heap.size := by
  obtain ⟨b, off, h1, h2⟩ := h.some hl
  rw [h1] at hA
  injection hA with hA
  subst hA
  exact h2
theorem Rv.own {B n : Nat} (h : w.ownsRow B 81 2 (.slice A n cap) n (flat encV l)) (hl : l.length = n) : Rv w A cap l := by
  obtain ⟨a, c', e, h1, h2, h3⟩ := own_slice0 h
  injection e with e1 e2 e3
  subst e1 e3
  subst hl
  exact ⟨Sees.own h, h1, h2, h3⟩
end

/-! ### What is owned -/
section
variable {w w' : World} {e : TypeId} {v : Value}
theorem ow_at {B size k : Nat} {xs : List Value} (h : w.ownsRow B e size v k xs) (hk : ∀ b, v.ownBlock = some b → w'.heap[b]? = w.heap[b]?) : w'.ownsRow B e size v k xs := by
  refine ⟨h.1, ?_⟩
  rcases h.2 with hn | ⟨g, cap, cur, rfl, hb, hg, r⟩
  · exact .inl hn
  · exact .inr ⟨g, cap, cur, rfl, hb, (hk g rfl).trans hg, r⟩
theorem ow_whole {B size k : Nat} {xs : List Value} (h : w.ownsRow B e size v k xs) {b : Nat} (hv : v.ownBlock = some b) : ∃ cs, Whole w b e cs := by
  rcases h.2 with ⟨rfl, _⟩ | ⟨g, cap, cur, rfl, hb, hg, r⟩
  · simp [Value.ownBlock] at hv
  · have : g = b := by simpa [Value.ownBlock] using hv
    subst this
    exact ⟨cur, hg⟩
theorem ow_less {B B' size k : Nat} {xs : List Value} (h : w.ownsRow B e size v k xs) (hB : B' ≤ B) : w.ownsRow B' e size v k xs := by
  refine ⟨h.1, ?_⟩
  rcases h.2 with hn | ⟨g, cap, cur, rfl, hb, hg, r⟩
  · exact .inl hn
  · exact .inr ⟨g, cap, cur, rfl, Nat.le_trans hB hb, hg, r⟩
theorem ow_lt {B size k : Nat} {xs : List Value} (h : w.ownsRow B e size v k xs) {b : Nat} (hv : v.ownBlock = some b) : B ≤ b ∧ b < w.heap.size := by
  rcases h.2 with ⟨rfl, _⟩ | ⟨g, cap, cur, rfl, hb, hg, r⟩
  · simp [Value.ownBlock] at hv
  · have : g = b := by simpa [Value.ownBlock] using hv
    subst this
    exact ⟨hb, (Array.getElem?_eq_some_iff.1 hg).1⟩
theorem ow_low {B size n c m : Nat} {A : Option Addr} {xs : List Value} {p : Addr} (h : w.ownsRow B e size (.slice A n c) n xs) (hp : A = some p) (hm : m ≤ B) : m ≤ p.block := by
  subst hp
  rcases h.2 with ⟨hn, -⟩ | ⟨g, cap, cur, e1, hb, -⟩
  · cases hn
  · injection e1 with e1 e2 e3
    injection e1 with e1
    subst e1
    exact Nat.le_trans hm hb
theorem ow_new (w : World) (e : TypeId) (size g : Nat) (hg : g = w.heap.size) : (w.alloc (.cells #[] e)).ownsRow g e size (.slice (some ⟨g, 0, none⟩) 0 0) 0 [] := by
  subst hg
  exact own_empty w e size
end

/-! ### A chain -/
/-- Block g is the chain c, whose versions are shown by v; all of it is in F. -/
structure Cx (w : World) (g : Nat) (v : Value) (c : Cs) (F : Nat → Prop) : Prop where
  ok : Ok0 c
  face : Whole w g 125 #[v, .int .i64 c.mark]
  own : w.ownsRow 0 81 2 v c.l.length (flat encV c.l)
  mine : F g ∧ ∀ b, v.ownBlock = some b → F b
  low : ∀ b, F b → b < w.heap.size
/-- The same, wherever its versions lie. -/
def Chn (w : World) (g : Nat) (c : Cs) (F : Nat → Prop) : Prop := Ok c ∧ ∃ v, Cx w g v c F
/-- The chain g has become c, and nothing else that is old has changed. -/
structure WentC (F : Nat → Prop) (w w' : World) (g : Nat) (c : Cs) : Prop where
  off : Off F w w'
  chn : ∃ F', (∀ b, F' b → F b ∨ w.heap.size ≤ b) ∧ Chn w' g c F'
theorem cunlike : (125 : TypeId) ≠ 81 := by decide
/-- A chain that is only read. -/
structure Rc (w : World) (g : Nat) (A : Option Addr) (cap : Nat) (c : Cs) : Prop where
  ok : Ok0 c
  face : Whole w g 125 #[.slice A c.l.length cap, .int .i64 c.mark]
  row : Rv w A cap c.l
section
variable {w w' : World} {g : Nat} {A : Option Addr} {cap : Nat} {v : Value} {c c' : Cs} {F : Nat → Prop}
theorem Rc.call (x : Rc w g A cap c) (hb : Below w.heap.size w w') : Rc w' g A cap c := ⟨x.ok, x.face.below hb x.face.lt, x.row.call hb⟩
theorem Rc.cells (x : Rc w g A cap c) : w.cell? ⟨g, 0, none⟩ = some (.slice A c.l.length cap) ∧ w.cell? ⟨g, 1, none⟩ = some (.int .i64 c.mark) ∧ g < w.heap.size := ⟨x.face.cell 0, x.face.cell 1, x.face.lt⟩
theorem Cx.away (x : Cx w g v c F) (hs : w.heap.size ≤ w'.heap.size) (hk : ∀ b, F b → w'.heap[b]? = w.heap[b]?) : Cx w' g v c F :=
  ⟨x.ok, (hk g x.mine.1).trans x.face, ow_at x.own fun b hb => hk b (x.mine.2 b hb), x.mine, fun b hb => Nat.lt_of_lt_of_le (x.low b hb) hs⟩
theorem Cx.call (x : Cx w g v c F) (hb : Below w.heap.size w w') : Cx w' g v c F := x.away hb.size fun b hf => hb.block b (x.low b hf)
theorem Cx.alloc (x : Cx w g v c F) (o : Obj) : Cx (w.alloc o) g v c F := x.call ((Below.refl _ _).alloc (Nat.le_refl _) o)
theorem Cx.drewN (x : Cx w g v c F) (k : Nat) : Cx (w.drewN k) g v c F := x.away (Nat.le_refl _) fun _ _ => rfl
theorem Cx.off {G : Nat → Prop} (x : Cx w g v c F) (ho : Off G w w') (hG : ∀ b, F b → ¬ G b) : Cx w' g v c F := x.away ho.size fun b hf => ho.block b (x.low b hf) (hG b hf)
theorem Cx.slice (x : Cx w g v c F) : ∃ A cap, v = .slice A c.l.length cap ∧ c.l.length ≤ cap ∧ cap ≤ 9223372036854775807 ∧ (A = none → cap = 0) := own_slice0 x.own
theorem Cx.gv (x : Cx w g v c F) {b : Nat} (hb : v.ownBlock = some b) : g ≠ b := by obtain ⟨cs, h⟩ := ow_whole x.own hb; exact whole_unlike x.face h cunlike
theorem Cx.lt (x : Cx w g v c F) : g < w.heap.size := x.face.lt
/-- As one that is read. -/
theorem Cx.read (x : Cx w g v c F) : ∃ A cap, v = .slice A c.l.length cap ∧ Rc w g A cap c := by
  obtain ⟨A, cap, rfl, h1, h2, h3⟩ := x.slice
  exact ⟨A, cap, rfl, x.ok, x.face, Rv.own x.own rfl⟩
theorem Chn.call (x : Chn w g c F) (hb : Below w.heap.size w w') : Chn w' g c F := by
  obtain ⟨k, v, x⟩ := x
  exact ⟨k, v, x.call hb⟩
theorem Chn.read (x : Chn w g c F) : ∃ A cap, Rc w g A cap c := by
  obtain ⟨-, v, x⟩ := x
  obtain ⟨A, cap, -, h⟩ := x.read
  exact ⟨A, cap, h⟩
theorem Chn.ok (x : Chn w g c F) : Ok c := x.1
theorem Chn.lt (x : Chn w g c F) : g < w.heap.size := by obtain ⟨-, v, x⟩ := x; exact x.lt
theorem Chn.low (x : Chn w g c F) {b : Nat} (hb : F b) : b < w.heap.size := by obtain ⟨-, v, x⟩ := x; exact x.low b hb
theorem Chn.mine (x : Chn w g c F) : F g := by obtain ⟨-, v, x⟩ := x; exact x.mine.1
theorem Chn.off {G : Nat → Prop} (x : Chn w g c F) (ho : Off G w w') (hG : ∀ b, F b → ¬ G b) : Chn w' g c F := by
  obtain ⟨k, v, x⟩ := x
  exact ⟨k, v, x.off ho hG⟩
theorem WentC.same (k : Ok c) (x : Cx w g v c F) (hb : Below w.heap.size w w') : WentC F w w' g c := ⟨.of hb F, F, fun b h => .inl h, k, v, x.call hb⟩
theorem WentC.behind {w1 : World} (ho : Off F w w1) (hm : WentC F w1 w' g c) : WentC F w w' g c := by
  obtain ⟨ho2, F', hF, hd⟩ := hm
  refine ⟨ho.trans ho2, F', fun b hf => ?_, hd⟩
  rcases hF b hf with h | h
  · exact .inl h
  · exact .inr (Nat.le_trans ho.size h)
theorem WentC.before {w1 : World} (hb : Below w.heap.size w w1) (hm : WentC F w1 w' g c) : WentC F w w' g c := by
  obtain ⟨ho, F', hF, hd⟩ := hm
  refine ⟨(Off.of hb F).trans ho, F', fun b hf => ?_, hd⟩
  rcases hF b hf with h | h
  · exact .inl h
  · exact .inr (Nat.le_trans hb.size h)
theorem WentC.after {w1 : World} (hm : WentC F w w1 g c) (hb : Below w1.heap.size w1 w') : WentC F w w' g c := by
  obtain ⟨ho, F', hF, hd⟩ := hm
  exact ⟨ho.call hb, F', hF, hd.call hb⟩
/-- The mark is set. -/
theorem Cx.setMark (x : Cx w g v c F) (m : Int) : Cx (w.setCell ⟨g, 1, none⟩ (.int .i64 m)) g v ⟨c.l, m⟩ F := by
  have far : ∀ b, b ≠ g → (w.setCell ⟨g, 1, none⟩ (.int .i64 m)).heap[b]? = w.heap[b]? := fun b hb => Below.heap_setCell w ⟨g, 1, none⟩ _ b hb
  refine ⟨⟨x.ok.few, x.ok.rise⟩, ?_, ow_at x.own fun b hb => far b (Ne.symm (x.gv hb)), x.mine, fun b hb => by simpa using x.low b hb⟩
  simpa using x.face.set 1 (.int .i64 m)
/-- Its versions are others, which lie where they lay or in a new block. -/
theorem Cx.wentList (x : Cx w g v c F) {w0 y : World} (hb : Below w.heap.size w w0) {v2 : Value} {l : List Ve} (hok : Ok ⟨l, c.mark⟩) (ho : y.ownsRow 0 81 2 v2 l.length (flat encV l)) (hg : w0.grownBy y v.ownBlock)
    (hat : v2.ownBlock = v.ownBlock ∨ ∃ k, v2.ownBlock = some k ∧ w0.heap.size ≤ k) : WentC F w (y.setCell ⟨g, 0, none⟩ v2) g ⟨l, c.mark⟩ := by
  have x0 := x.call hb
  have far : ∀ b, b ≠ g → (y.setCell ⟨g, 0, none⟩ v2).heap[b]? = y.heap[b]? := fun b hb => Below.heap_setCell y ⟨g, 0, none⟩ _ b hb
  have newb : ∀ b, v2.ownBlock = some b → (v.ownBlock = some b ∨ w0.heap.size ≤ b) ∧ b < y.heap.size := fun b hb => by
    refine ⟨?_, (ow_lt ho hb).2⟩
    rcases hat with h | ⟨k, h, h2⟩
    · exact .inl (h.symm.trans hb)
    · rw [h] at hb; injection hb with hb; exact .inr (by omega)
  have hgl := x0.low g x.mine.1
  have hws := hb.size
  refine ⟨(((Off.of hb F).grown hg fun b hb => .inl (x.mine.2 b hb)).set (p := ⟨g, 0, none⟩) (.inl x.mine.1) _), (fun b => F b ∨ w.heap.size ≤ b ∧ b < y.heap.size), fun b hb => ?_, hok, v2, hok.zero, ?_, ow_at ho fun b hb => far b fun e2 => ?_, ⟨.inl x.mine.1, fun b hb => ?_⟩, fun b hb => ?_⟩
  · rcases hb with hb | hb
    · exact .inl hb
    · exact .inr hb.1
  · have hw : Whole y g 125 #[v, .int .i64 c.mark] := x0.face.grown hg fun e2 => x.gv e2.symm rfl
    simpa using hw.set 0 v2
  · subst e2
    rcases (newb b hb).1 with h | h
    · exact x.gv h rfl
    · omega
  · rcases newb b hb with ⟨h | h, h2⟩
    · exact .inl (x.mine.2 b h)
    · exact .inr ⟨Nat.le_trans hws h, h2⟩
  · have h1 := hg.size
    rcases hb with hb | hb
    · have := x.low b hb; simp; omega
    · simpa using hb.2
end
end Go.Proofs.YtckhddndeojobaaGreat
