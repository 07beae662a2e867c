/- Two appends in whatever order: the document's Send and Copy. -/
import Derived.Test.YtmbednikbdfnmaaPostRw
namespace Go.Proofs.Ytmbednikbdfnmaa
open Go.RowKit Go.Po Go.Maps
set_option linter.unusedVariables false
set_option linter.unusedSimpArgs false
set_option maxRecDepth 100000

/-- Where such a region stands, behind the world z: a: the empty row is made, b: the letters were put behind it, d: the letter is made, e: it was put behind them, s: the row was stored. -/
structure Ar (w z y : World) (R Z : Array Value) (p0 p8 : Nat) (v1 v2 : Value) (us : List (Lt (List UInt8))) (l : Lt (List UInt8)) (a b d e s : Bool) : Prop where
  st : s = false → Two2 w y R Z ∧ Below z.heap.size z y
  own0 : a = true → b = false → y.ownsRow z.heap.size 85 4 (.slice (some ⟨p0, 0, none⟩) 0 0) 0 [] ∧ p0 < y.heap.size
  own1 : b = true → e = false → y.ownsRow z.heap.size 85 4 v1 us.length (flat (encL sP) us)
  item : d = true → e = false → Whole y p8 85 (encL sP l).toArray ∧ z.heap.size ≤ p8
  own2 : e = true → s = false → y.ownsRow z.heap.size 85 4 v2 (us.length + 1) (flat (encL sP) (us ++ [l]))
  far : a = true → b = false → d = true → p0 ≠ p8
  far1 : b = true → e = false → d = true → v1.ownBlock ≠ some p8
  ord : (b = true → a = true) ∧ (e = true → b = true ∧ d = true) ∧ (s = true → e = true)
  fin : s = true → ∃ y0, y0.ownsRow z.heap.size 85 4 v2 (us.length + 1) (flat (encL sP) (us ++ [l])) ∧ Two2 w y0 R Z ∧ y = y0.setCell ⟨w.heap.size, 66, none⟩ v2
section
variable {w z y : World} {R Z : Array Value} {p0 p8 : Nat} {v1 v2 : Value} {us : List (Lt (List UInt8))} {l : Lt (List UInt8)} {a b d e s : Bool}
theorem Ar.start (h : Two2 w z R Z) (p0 p8 : Nat) (v1 v2 : Value) (us : List (Lt (List UInt8))) (l : Lt (List UInt8)) : Ar w z z R Z p0 p8 v1 v2 us l false false false false false :=
  ⟨fun _ => ⟨h, Below.refl _ _⟩, (fun h => by cases h), (fun h => by cases h), (fun h => by cases h), (fun h => by cases h), (fun h => by cases h), (fun h => by cases h), ⟨(fun h => by cases h), (fun h => by cases h), fun h => by cases h⟩, fun h => by cases h⟩
theorem Ar.noS (k : Ar w z y R Z p0 p8 v1 v2 us l a b d e s) (he : e = false) : s = false := by
  cases s with
  | false => rfl
  | true => have := k.ord.2.2 rfl; rw [he] at this; cases this
theorem Ar.noE (k : Ar w z y R Z p0 p8 v1 v2 us l a b d e s) (h : b = false ∨ d = false) : e = false := by
  cases e with
  | false => rfl
  | true =>
    have := k.ord.2.1 rfl
    rcases h with h | h
    · rw [h] at this; cases this.1
    · rw [h] at this; cases this.2
theorem Ar.noB (k : Ar w z y R Z p0 p8 v1 v2 us l a b d e s) (h : a = false) : b = false := by
  cases b with
  | false => rfl
  | true => have := k.ord.1 rfl; rw [h] at this; cases this
theorem Ar.made (k : Ar w z y R Z p0 p8 v1 v2 us l false b d e s) : Ar w z (y.alloc (.cells #[] 85)) R Z y.heap.size p8 v1 v2 us l true b d e s := by
  have hb := k.noB rfl
  subst hb
  have he := k.noE (.inl rfl)
  subst he
  have hs := k.noS rfl
  subst hs
  obtain ⟨h1, h2⟩ := k.st rfl
  refine ⟨fun _ => ⟨h1.call ((Below.refl _ _).alloc (Nat.le_refl _) _), h2.alloc h2.size _⟩, fun _ _ => ⟨?_, by simp⟩, (fun h => by cases h), fun h3 _ => ⟨(k.item h3 rfl).1.alloc _, (k.item h3 rfl).2⟩, (fun h => by cases h), fun _ _ h3 => ?_, (fun h => by cases h), ⟨(fun h => by cases h), (fun h => by cases h), fun h => by cases h⟩, fun h => by cases h⟩
  · exact own_less (own_empty y 85 4) h2.size
  · have := (k.item h3 rfl).1.lt
    omega
theorem Ar.item8 (k : Ar w z y R Z p0 p8 v1 v2 us l a b false e s) : Ar w z (y.alloc (.cells (encL sP l).toArray 85)) R Z p0 y.heap.size v1 v2 us l a b true e s := by
  have he := k.noE (.inr rfl)
  subst he
  have hs := k.noS rfl
  subst hs
  obtain ⟨h1, h2⟩ := k.st rfl
  have hb : Below y.heap.size y (y.alloc (.cells (encL sP l).toArray 85)) := (Below.refl _ _).alloc (Nat.le_refl _) _
  refine ⟨fun _ => ⟨h1.call hb, h2.alloc h2.size _⟩, fun h3 h4 => ⟨own_keep (k.own0 h3 h4).1 hb (Nat.le_refl _), by have := (k.own0 h3 h4).2; simp; omega⟩, fun h3 _ => own_keep (k.own1 h3 rfl) hb (Nat.le_refl _), fun _ _ => ⟨Whole.fresh y _ _, h2.size⟩, (fun h => by cases h), fun h3 h4 _ => ?_, fun h3 _ _ e => ?_, ⟨k.ord.1, (fun h => by cases h), fun h => by cases h⟩, fun h => by cases h⟩
  · have := (k.own0 h3 h4).2; omega
  · have := (own_lt (k.own1 h3 rfl) e).2; omega
theorem Ar.app1 (k : Ar w z y R Z p0 p8 v1 v2 us l true false d e s) {v : Value} {y2 : World} (ho : y2.ownsRow z.heap.size 85 4 v us.length (flat (encL sP) us)) (hg : y.grownBy y2 (some p0)) (hat : v.ownBlock = some p0 ∨ v.ownBlock = some y.heap.size) (hz : w.heap.size + 2 ≤ z.heap.size) :
    Ar w z y2 R Z p0 p8 v v2 us l true true d e s := by
  have he := k.noE (.inl rfl)
  subst he
  have hs := k.noS rfl
  subst hs
  obtain ⟨h1, h2⟩ := k.st rfl
  have hp : z.heap.size ≤ p0 := (own_lt (k.own0 rfl rfl).1 rfl).1
  refine ⟨fun _ => ⟨⟨h1.box.grown hg (fun e => by injection e with e; omega), h1.res.grown hg (fun e => by injection e with e; omega), h1.below.grown hg h1.below.size (fun q hq => by injection hq with hq; omega)⟩, h2.grown hg h2.size (fun q hq => by injection hq with hq; omega)⟩, (fun _ h => by cases h), fun _ _ => ho,
    fun h3 _ => ⟨(k.item h3 rfl).1.grown hg (fun e => k.far rfl rfl h3 (by injection e with e; exact e.symm)), (k.item h3 rfl).2⟩, (fun h => by cases h), (fun _ h => by cases h), fun _ _ h3 e => ?_, ⟨(fun _ => rfl), (fun h => by cases h), fun h => by cases h⟩, fun h => by cases h⟩
  rcases hat with h | h
  · rw [h] at e; injection e with e; exact k.far rfl rfl h3 e
  · rw [h] at e; injection e with e; have := (k.item h3 rfl).1.lt; omega
theorem Ar.app2 (k : Ar w z y R Z p0 p8 v1 v2 us l a true true false s) {v : Value} {y2 : World} (ho : y2.ownsRow z.heap.size 85 4 v (us.length + 1) (flat (encL sP) (us ++ [l]))) (hg : y.grownBy y2 v1.ownBlock) (hz : w.heap.size + 2 ≤ z.heap.size) :
    Ar w z y2 R Z p0 p8 v1 v us l a true true true s := by
  have hs := k.noS rfl
  subst hs
  obtain ⟨h1, h2⟩ := k.st rfl
  have ho1 := k.own1 rfl rfl
  exact ⟨fun _ => ⟨⟨h1.box.grown hg (fun e => by have := (own_lt ho1 e.symm).1; omega), h1.res.grown hg (fun e => by have := (own_lt ho1 e.symm).1; omega), h1.below.grown hg h1.below.size (fun q hq => by have := (own_lt ho1 hq).1; omega)⟩, h2.grown hg h2.size (fun q hq => (own_lt ho1 hq).1)⟩,
    (fun _ h => by cases h), (fun _ h => by cases h), (fun _ h => by cases h), fun _ _ => ho, (fun _ h => by cases h), (fun _ h => by cases h), ⟨k.ord.1, (fun _ => ⟨rfl, rfl⟩), fun h => by cases h⟩, fun h => by cases h⟩
theorem Ar.stored (k : Ar w z y R Z p0 p8 v1 v2 us l a b d true false) : Ar w z (y.setCell ⟨w.heap.size, 66, none⟩ v2) R Z p0 p8 v1 v2 us l a b d true true := by
  have := k.ord.2.1 rfl
  refine ⟨(fun h => by cases h), fun h3 h4 => ?_, (fun _ h => by cases h), (fun _ h => by cases h), (fun _ h => by cases h), k.far, (fun _ h => by cases h), ⟨k.ord.1, k.ord.2.1, fun _ => rfl⟩, fun _ => ⟨y, k.own2 rfl rfl, (k.st rfl).1, rfl⟩⟩
  rw [this.1] at h4
  cases h4
theorem Ar.sees (k : Ar w z y R Z p0 p8 v1 v2 us l a b true false s) : Sees y (p8 + 1) 4 (some ⟨p8, 0, none⟩) 1 (encL sP l) := by
  have hw := (k.item rfl rfl).1
  refine ⟨rfl, fun _ => ⟨p8, 0, rfl, by omega, fun j u hu => ?_⟩⟩
  rw [Nat.zero_add, hw.cell j]
  simpa using hu
end
end Go.Proofs.Ytmbednikbdfnmaa
