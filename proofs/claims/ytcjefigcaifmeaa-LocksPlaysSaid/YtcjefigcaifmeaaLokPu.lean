/- Locks: the document's Put, in memory: words (plain: where a row is put; three appends of rows in whatever order, made out of XStoG's words). -/
import Derived.Test.YtcjefigcaifmeaaLokK
namespace Go.Lk
set_option linter.unusedVariables false
/-- A row is put behind the first ones that are less. -/
theorem putR_at {x : Rw} : ∀ (l : List Rw) (c : Nat), (∀ j y, j < c → l[j]? = some y → lt2 y x) → (∀ y, l[c]? = some y → ¬ lt2 y x) → c ≤ l.length → putR x l = l.take c ++ [x] ++ l.drop c
  | [], c, h1, h2, h3 => by
    have : c = 0 := by simpa using h3
    subst this
    rfl
  | a :: l, 0, h1, h2, h3 => by
    unfold putR
    rw [if_neg (h2 a rfl)]
    rfl
  | a :: l, c + 1, h1, h2, h3 => by
    unfold putR
    rw [if_pos (h1 0 a (by omega) rfl), putR_at l c (fun j y hj hy => h1 (j + 1) y (by omega) hy) (fun y hy => h2 y hy) (by simpa using h3)]
    rfl
end Go.Lk
namespace Go.Proofs.Ytcjefigcaifmeaa
open Go.ChangeShapes Go.WideShapes Go.ChangeAt Go.RowKit Go.Lk
set_option linter.unusedVariables false
set_option linter.unusedSimpArgs false
set_option maxRecDepth 100000
theorem own_at0 (w : World) (e : TypeId) (size g : Nat) (hg : g = w.heap.size) : (w.alloc (.cells #[] e)).ownsRow g e size (.slice (some ⟨g, 0, none⟩) 0 0) 0 [] := by
  subst hg
  refine ⟨by simp, .inr ⟨w.heap.size, 0, #[], rfl, Nat.le_refl _, heap_alloc_new w _, Nat.le_refl _, by unfold maxLen; omega, by simp, by simp⟩⟩
theorem own_block_ge {w : World} {B size n : Nat} {e : TypeId} {v : Value} {xs : List Value} (h : w.ownsRow B e size v n xs) {q : Nat} (hq : v.ownBlock = some q) : B ≤ q := (h.lt q hq).1
/-! ### Three appends in whatever order -/
theorem St.callB {W w w' : World} {L : List Row} {B : Nat} (h : St W w L) (hb : Below B w w') (hB : W.heap.size ≤ B) (hr : ∀ r ∈ L, r.1 < B) : St W w' L :=
  ⟨h.below.trans (hb.mono hB), fun r hr' => (h.knows r hr').below hb (hr r hr')⟩
/-- Where that region stands: B is above all blocks that are known; a: the empty row is made, b: the list was put behind it, d: the item is made, e: it was put behind the list, c: the others were put behind that. -/
structure Ag (w y : World) (L : List Row) (B p0 p8 : Nat) (v1 v2 v3 : Value) (l m : List Rw) (n : Rw) (a b d e c : Bool) : Prop where
  st : St w y L
  low : w.heap.size ≤ B ∧ B ≤ y.heap.size ∧ ∀ r ∈ L, r.1 < B
  own0 : a = true → b = false → y.ownsRow B 74 3 (.slice (some ⟨p0, 0, none⟩) 0 0) 0 []
  own1 : b = true → e = false → y.ownsRow B 74 3 v1 l.length (flat encR l)
  item : d = true → e = false → Whole y p8 74 #[.int .i64 n.tx, .int .i64 n.key, .bool n.b] ∧ B ≤ p8
  own2 : e = true → c = false → y.ownsRow B 74 3 v2 (l.length + 1) (flat encR (l ++ [n]))
  own3 : c = true → y.ownsRow B 74 3 v3 (l.length + 1 + m.length) (flat encR (l ++ [n] ++ m))
  far : a = true → b = false → d = true → e = false → p0 ≠ p8
  ord : (b = true → a = true) ∧ (e = true → b = true ∧ d = true) ∧ (c = true → e = true)
  lt0 : a = true → b = false → p0 < y.heap.size
section
variable {w y : World} {L : List Row} {B p0 p8 : Nat} {v1 v2 v3 : Value} {l m : List Rw} {n : Rw} {a b d e c : Bool}
theorem Ag.start (hs : St w y L) (hB : B = y.heap.size) (p0 p8 : Nat) (v1 v2 v3 : Value) (l m : List Rw) (n : Rw) : Ag w y L B p0 p8 v1 v2 v3 l m n false false false false false :=
  ⟨hs, ⟨by rw [hB]; exact hs.below.size, by omega, fun r hr => by rw [hB]; exact (hs.knows r hr).lt⟩, (fun h => by cases h), (fun h => by cases h), (fun h => by cases h), (fun h => by cases h), (fun h => by cases h), (fun h => by cases h), ⟨(fun h => by cases h), (fun h => by cases h), fun h => by cases h⟩, fun h => by cases h⟩
theorem Ag.noC (k : Ag w y L B p0 p8 v1 v2 v3 l m n a b d e c) (h : e = false) : c = false := by
  cases c with
  | false => rfl
  | true => have := k.ord.2.2 rfl; rw [h] at this; cases this
theorem Ag.noE (k : Ag w y L B p0 p8 v1 v2 v3 l m n a b d e c) (h : b = false ∨ d = false) : e = false := by
  cases e with
  | false => rfl
  | true =>
    have := k.ord.2.1 rfl
    rcases h with h | h
    · rw [h] at this; cases this.1
    · rw [h] at this; cases this.2
theorem Ag.noB (k : Ag w y L B p0 p8 v1 v2 v3 l m n a b d e c) (h : a = false) : b = false := by
  cases b with
  | false => rfl
  | true => have := k.ord.1 rfl; rw [h] at this; cases this
theorem Ag.made (k : Ag w y L B p0 p8 v1 v2 v3 l m n false b d e c) : Ag w (y.alloc (.cells #[] 74)) L B y.heap.size p8 v1 v2 v3 l m n true b d e c := by
  have hb := k.noB rfl
  subst hb
  have he := k.noE (.inl rfl)
  subst he
  have hc := k.noC rfl
  subst hc
  refine ⟨k.st.other _, ⟨k.low.1, by have := k.low.2.1; simp; omega, k.low.2.2⟩, fun _ _ => own_lessB (own_at0 y 74 3 y.heap.size rfl) k.low.2.1, (fun h => by cases h), fun h1 h2 => ⟨(k.item h1 h2).1.alloc _, (k.item h1 h2).2⟩, (fun h => by cases h), (fun h => by cases h), fun _ _ h1 h2 => ?_, ⟨(fun h => by cases h), (fun h => by cases h), fun h => by cases h⟩, fun _ _ => by simp⟩
  have := (k.item h1 h2).1.lt
  omega
theorem Ag.item8 (k : Ag w y L B p0 p8 v1 v2 v3 l m n a b false e c) : Ag w (y.alloc (.cells #[.int .i64 n.tx, .int .i64 n.key, .bool n.b] 74)) L B p0 y.heap.size v1 v2 v3 l m n a b true e c := by
  have he := k.noE (.inr rfl)
  subst he
  have hc := k.noC rfl
  subst hc
  refine ⟨k.st.other _, ⟨k.low.1, by have := k.low.2.1; simp; omega, k.low.2.2⟩, fun h1 h2 => (k.own0 h1 h2).alloc _, fun h1 h2 => (k.own1 h1 h2).alloc _, fun _ _ => ⟨Whole.fresh y _ _, k.low.2.1⟩, (fun h => by cases h), (fun h => by cases h), fun h1 h2 _ _ => by have := k.lt0 h1 h2; omega, ⟨k.ord.1, (fun h => by cases h), fun h => by cases h⟩, fun h1 h2 => by have := k.lt0 h1 h2; simp; omega⟩
theorem Ag.app1 (k : Ag w y L B p0 p8 v1 v2 v3 l m n true false d e c) {v : Value} {y2 : World} (ho : y2.ownsRow B 74 3 v l.length (flat encR l)) (hg : y.grownBy y2 (some p0)) : Ag w y2 L B p0 p8 v v2 v3 l m n true true d e c := by
  have he := k.noE (.inl rfl)
  subst he
  have hc := k.noC rfl
  subst hc
  have hp : B ≤ p0 := own_block_ge (k.own0 rfl rfl) rfl
  have hb : Below B y y2 := (Below.refl _ _).grown hg k.low.2.1 (fun q hq => by injection hq with hq; omega)
  exact ⟨k.st.callB hb k.low.1 k.low.2.2, ⟨k.low.1, Nat.le_trans k.low.2.1 hb.size, k.low.2.2⟩, (fun _ h => by cases h), fun _ _ => ho, fun h1 h2 => ⟨(k.item h1 h2).1.grown hg (fun e => k.far rfl rfl h1 h2 (by injection e with e; exact e.symm)), (k.item h1 h2).2⟩, (fun h => by cases h), (fun h => by cases h), (fun _ h => by cases h), ⟨(fun _ => rfl), (fun h => by cases h), fun h => by cases h⟩, fun _ h => by cases h⟩
theorem Ag.app2 (k : Ag w y L B p0 p8 v1 v2 v3 l m n a true true false c) {v : Value} {y2 : World} (ho : y2.ownsRow B 74 3 v (l.length + 1) (flat encR (l ++ [n]))) (hg : y.grownBy y2 v1.ownBlock) : Ag w y2 L B p0 p8 v1 v v3 l m n a true true true c := by
  have hc := k.noC rfl
  subst hc
  have ho1 := k.own1 rfl rfl
  have hb : Below B y y2 := (Below.refl _ _).grown hg k.low.2.1 (fun q hq => own_block_ge ho1 hq)
  exact ⟨k.st.callB hb k.low.1 k.low.2.2, ⟨k.low.1, Nat.le_trans k.low.2.1 hb.size, k.low.2.2⟩, (fun _ h => by cases h), (fun _ h => by cases h), (fun _ h => by cases h), fun _ _ => ho, (fun h => by cases h), (fun _ h => by cases h), ⟨k.ord.1, (fun _ => ⟨rfl, rfl⟩), fun h => by cases h⟩, fun _ h => by cases h⟩
theorem Ag.app3 (k : Ag w y L B p0 p8 v1 v2 v3 l m n a b d true false) {v : Value} {y2 : World} (ho : y2.ownsRow B 74 3 v (l.length + 1 + m.length) (flat encR (l ++ [n] ++ m))) (hg : y.grownBy y2 v2.ownBlock) : Ag w y2 L B p0 p8 v1 v2 v l m n a b d true true := by
  have h1 := (k.ord.2.1 rfl).1
  subst h1
  have ho1 := k.own2 rfl rfl
  have hb : Below B y y2 := (Below.refl _ _).grown hg k.low.2.1 (fun q hq => own_block_ge ho1 hq)
  exact ⟨k.st.callB hb k.low.1 k.low.2.2, ⟨k.low.1, Nat.le_trans k.low.2.1 hb.size, k.low.2.2⟩, (fun _ h => by cases h), (fun _ h => by cases h), (fun _ h => by cases h), (fun _ h => by cases h), fun _ => ho, (fun _ h => by cases h), ⟨k.ord.1, k.ord.2.1, fun _ => rfl⟩, fun _ h => by cases h⟩
theorem Ag.sees (k : Ag w y L B p0 p8 v1 v2 v3 l m n a b true false c) : Sees y (p8 + 1) 3 (some ⟨p8, 0, none⟩) 1 (flat encR [n]) := by
  have hw := (k.item rfl rfl).1
  refine ⟨rfl, fun _ => ⟨p8, 0, rfl, by omega, fun j u hu => ?_⟩⟩
  rw [Nat.zero_add, hw.cell j, ← Array.getElem?_toList]
  exact hu
end

end Go.Proofs.Ytcjefigcaifmeaa
