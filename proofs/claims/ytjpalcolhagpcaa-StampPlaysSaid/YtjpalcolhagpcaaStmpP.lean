/- Layer 10: what StampPlays alone needs: the document's list of stamps, the drawn region. -/
import Derived.Test.YtjpalcolhagpcaaStmpO
namespace Go.Proofs.Ytjpalcolhagpcaa
open Go.RowKit Go.Sp Go.Fl Go.Ck Go.Tp
set_option linter.unusedVariables false
set_option linter.unusedSimpArgs false
set_option maxRecDepth 100000

def so (b : Bool) (v u : Value) : Value := if b then v else u
theorem so_true (v u : Value) : so true v u = v := rfl
theorem so_false (v u : Value) : so false v u = u := rfl
theorem given_top (m : List Int) (lo hi : Int) (l : List Int) : top 0 (given m lo hi l) = nextN (top 0 m) lo hi l := by
  unfold given
  split
  · rename_i h; exact next_doc m lo hi l h
  · rename_i h
    rcases next_cases (top 0 m) lo hi l with ⟨_, _, h2, _⟩ | ⟨_, _, _, _, h4⟩ | ⟨_, _, _, h4⟩
    · exact absurd h2 h
    · exact h4.symm
    · exact h4.symm
theorem given_len (m : List Int) (lo hi : Int) (l : List Int) : (given m lo hi l).length ≤ m.length + 1 := by
  unfold given; split <;> simp
theorem kept_top (m : List Int) (t : Int) : top 0 (kept m t) = keepN (top 0 m) t := by
  unfold kept keepN
  split
  · rw [top_more]
  · rfl
theorem kept_len (m : List Int) (t : Int) : (kept m t).length ≤ m.length + 1 := by
  unfold kept; split <;> simp
theorem nextN_range (n lo hi : Int) (l : List Int) (h : 0 ≤ n ∧ n ≤ 1125899906842624) : 0 ≤ nextN n lo hi l ∧ nextN n lo hi l ≤ 1125899906842624 := by
  have := (reach_ge n hi l).1
  rcases next_cases n lo hi l with ⟨_, h1, _, _, h4⟩ | ⟨_, _, _, _, h4⟩ | ⟨_, _, _, h4⟩ <;> omega
theorem keepN_range (n t : Int) (h : 0 ≤ n ∧ n ≤ 1125899906842624) : 0 ≤ keepN n t ∧ keepN n t ≤ 1125899906842624 := by
  have := mx_cases n t
  rcases keep_cases n t with ⟨_, h1, _, h4⟩ | ⟨_, _, _, h4⟩ <;> omega

/-- A row that is not block g's. -/
structure Rf (w : World) (g : Nat) (A : Option Addr) (cap : Nat) (l : List Int) : Prop where
  row : Rw w A cap l
  far : ∀ a, A = some a → a.block ≠ g
section
variable {w w' : World} {g : Nat} {A A' : Option Addr} {cap cap' : Nat} {l l' : List Int}
theorem Rf.none (w : World) (g : Nat) : Rf w g none 0 [] := ⟨Rw.none w, fun a h => by cases h⟩
theorem Rf.call (h : Rf w g A cap l) (hb : Below w.heap.size w w') : Rf w' g A cap l := ⟨h.row.call hb, h.far⟩
theorem Rf.but (h : Rf w g A cap l) (hb : But g w w') : Rf w' g A cap l := by
  refine ⟨⟨⟨h.row.sees.1, fun hn => ?_⟩, h.row.room, h.row.top, h.row.nil⟩, h.far⟩
  obtain ⟨b, off, h1, h2, h3⟩ := h.row.sees.2 hn
  have hne : b ≠ g := h.far _ h1
  have e : w'.heap[b]? = w.heap[b]? := hb.block b h2 hne
  refine ⟨b, off, h1, Nat.lt_of_lt_of_le h2 hb.size, fun j u hu => ?_⟩
  rw [← h3 j u hu]
  simp only [World.cell?, e]
theorem Rf.next (h : Rf w g A cap l) (hb : Below w.heap.size w w') (hg : g < w.heap.size) (hr : Rw w' A' cap' l') (hA : A' = A ∨ ∀ a, A' = some a → w.heap.size ≤ a.block) : Rf w' g A' cap' l' := by
  refine ⟨hr, fun a ha => ?_⟩
  rcases hA with e | e
  · exact h.far a (by rw [← e]; exact ha)
  · have := e a ha; omega
end

/-- Where the drawn region of Next's call stands: B is above all blocks that are known; a: the empty row is made, b: what is told was put behind it, c: the source was asked. -/
structure Ah (w y : World) (L : List Row) (B g : Nat) (K K2 : Int) (Am : Option Addr) (cm : Nat) (m : List Int) (p0 : Nat) (v1 : Value) (N : Nat) (l : List Int) (a b c : Bool) : Prop where
  lg : Lg w y L g (if c then K2 else K)
  row : Rf y g Am cm m
  low : w.heap.size ≤ B ∧ B ≤ y.heap.size ∧ (∀ r ∈ L, r.1 < B) ∧ g < B ∧ ∀ x, 0 < m.length → Am = some x → x.block < B
  own0 : a = true → b = false → y.ownsRow B 2 1 (.slice (some ⟨p0, 0, none⟩) 0 0) 0 []
  own1 : b = true → c = false → y.ownsRow B 2 1 v1 N (ints l)
  ord : (b = true → a = true) ∧ (c = true → b = true)
section
variable {w y y2 : World} {L : List Row} {B g p0 N : Nat} {K K2 : Int} {Am : Option Addr} {cm : Nat} {v1 v : Value} {m l : List Int} {a b c : Bool}
theorem Lg.callB (h : Lg w y L g K) (hb : Below B y y2) (hB : w.heap.size ≤ B) (hr : ∀ r ∈ L, r.1 < B) (hg : g < B) : Lg w y2 L g K := ⟨h.st.callB hb hB hr, Whole.below h.src hb hg, h.new, h.far⟩
theorem Rf.callB (h : Rf y g Am cm m) (hb : Below B y y2) (hs : y.heap.size ≤ y2.heap.size) (hr : ∀ x, 0 < m.length → Am = some x → x.block < B) : Rf y2 g Am cm m := by
  refine ⟨⟨⟨h.row.sees.1, fun hn => ?_⟩, h.row.room, h.row.top, h.row.nil⟩, h.far⟩
  obtain ⟨b, off, h1, h2, h3⟩ := h.row.sees.2 hn
  have hlt : b < B := hr _ (by omega) h1
  exact ⟨b, off, h1, by omega, fun j u hu => by rw [hb.cell (p := ⟨b, off + j, Option.none⟩) hlt]; exact h3 j u hu⟩
theorem Ah.start (h : Lg w y L g K) (hr : Rf y g Am cm m) (hB : B = y.heap.size) (p0 : Nat) (v1 : Value) (N : Nat) (l : List Int) (K2 : Int) : Ah w y L B g K K2 Am cm m p0 v1 N l false false false :=
  ⟨h, hr, ⟨by rw [hB]; exact h.st.below.size, by omega, fun r hr => by rw [hB]; exact (h.st.knows r hr).lt, by rw [hB]; exact h.src.lt, fun x hx e => by rw [hB]; exact hr.row.low x hx e⟩, (fun h => by cases h), (fun h => by cases h), ⟨(fun h => by cases h), fun h => by cases h⟩⟩
theorem Ah.noC (k : Ah w y L B g K K2 Am cm m p0 v1 N l a b c) (h : b = false) : c = false := by
  cases c with
  | false => rfl
  | true => have := k.ord.2 rfl; rw [h] at this; cases this
theorem Ah.noB (k : Ah w y L B g K K2 Am cm m p0 v1 N l a b c) (h : a = false) : b = false := by
  cases b with
  | false => rfl
  | true => have := k.ord.1 rfl; rw [h] at this; cases this
theorem Ah.made (k : Ah w y L B g K K2 Am cm m p0 v1 N l false b c) : Ah w (y.alloc (.cells #[] 2)) L B g K K2 Am cm m y.heap.size v1 N l true b c := by
  have hb := k.noB rfl
  subst hb
  have hc := k.noC rfl
  subst hc
  have hbl : Below y.heap.size y (y.alloc (.cells #[] 2)) := (Below.refl _ _).alloc (Nat.le_refl _) _
  exact ⟨k.lg.call hbl, k.row.call hbl, ⟨k.low.1, by have := k.low.2.1; simp; omega, k.low.2.2⟩, fun _ _ => own_lessB (own_at0 y 2 1 y.heap.size rfl) k.low.2.1, (fun h => by cases h), ⟨(fun h => by cases h), fun h => by cases h⟩⟩
theorem Ah.app (k : Ah w y L B g K K2 Am cm m p0 v1 N l true false c) (ho : y2.ownsRow B 2 1 v N (ints l)) (hg : y.grownBy y2 (some p0)) : Ah w y2 L B g K K2 Am cm m p0 v N l true true c := by
  have hc := k.noC rfl
  subst hc
  have hp : B ≤ p0 := own_block_ge (k.own0 rfl rfl) rfl
  have hb : Below B y y2 := (Below.refl _ _).grown hg k.low.2.1 (fun q hq => by injection hq with hq; omega)
  exact ⟨k.lg.callB hb k.low.1 k.low.2.2.1 k.low.2.2.2.1, k.row.callB hb hb.size k.low.2.2.2.2, ⟨k.low.1, Nat.le_trans k.low.2.1 hb.size, k.low.2.2⟩, (fun _ h => by cases h), fun _ _ => ho, ⟨(fun _ => rfl), fun h => by cases h⟩⟩
theorem Ah.next (k : Ah w y L B g K K2 Am cm m p0 v1 N l a true false) (hb : But g y y2) (hs : Src y2 g K2) : Ah w y2 L B g K K2 Am cm m p0 v1 N l a true true :=
  ⟨k.lg.turn hb hs, k.row.but hb, ⟨k.low.1, Nat.le_trans k.low.2.1 hb.size, k.low.2.2⟩, (fun _ h => by cases h), (fun _ h => by cases h), ⟨k.ord.1, fun _ => rfl⟩⟩
end
end Go.Proofs.Ytjpalcolhagpcaa
