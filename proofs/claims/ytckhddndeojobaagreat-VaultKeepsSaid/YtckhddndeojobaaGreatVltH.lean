/- Vaults: contracts: charge. (Written by gvlth.py.) -/
import Derived.Test.YtckhddndeojobaaGreatVltQ
import Derived.Test.YtckhddndeojobaaGreatInv
namespace Go.Proofs.YtckhddndeojobaaGreat
open Go.RowKit Go.Cn Go.So Go.Vt
open Go.Lk (upd supp Fin1 upd_same upd_other)
set_option linter.unusedVariables false
set_option linter.unusedSimpArgs false
set_option maxRecDepth 100000
theorem rated_lt {x : Nat} (h : Am.rated x = true) : x < 18446744073709551616 := by
  unfold Am.rated at h
  rw [decide_eq_true_eq] at h
  omega
def so (b : Bool) (v u : Value) : Value := if b then v else u
theorem so_true (v u : Value) : so true v u = v := rfl
theorem so_false (v u : Value) : so false v u = u := rfl
/-- Round a drawn 'v, ok := f(..)' of a struct: the new box is made (a), and told (b). -/
structure Nb (w y : World) (t : TypeId) (zs cs : Array Value) (p : Nat) (a b : Bool) : Prop where
  bel : Below w.heap.size w y
  box : a = true → b = false → Whole y p t zs ∧ w.heap.size ≤ p
  fin : b = true → Whole y p t cs ∧ w.heap.size ≤ p
  ord : b = true → a = true
section
variable {w y y' : World} {t : TypeId} {zs cs : Array Value} {p : Nat} {a b : Bool}
theorem Nb.start (hb : Below w.heap.size w y) (t : TypeId) (zs cs : Array Value) (p : Nat) : Nb w y t zs cs p false false := ⟨hb, (fun h => by cases h), (fun h => by cases h), fun h => by cases h⟩
theorem Nb.call (k : Nb w y t zs cs p a b) (hb : Below y.heap.size y y') : Nb w y' t zs cs p a b :=
  ⟨k.bel.trans (hb.mono k.bel.size), fun h1 h2 => ⟨(k.box h1 h2).1.below hb (k.box h1 h2).1.lt, (k.box h1 h2).2⟩, fun h => ⟨(k.fin h).1.below hb (k.fin h).1.lt, (k.fin h).2⟩, k.ord⟩
theorem Nb.make (k : Nb w y t zs cs p false b) : Nb w (y.alloc (.cells zs t)) t zs cs y.heap.size true b := by
  have hb : b = false := by cases b with | false => rfl | true => have := k.ord rfl; cases this
  subst hb
  exact ⟨k.bel.alloc k.bel.size _, fun _ _ => ⟨Whole.fresh y t zs, k.bel.size⟩, (fun h => by cases h), fun h => by cases h⟩
theorem Nb.store2 {z0 z1 u0 u1 : Value} (k : Nb w y t #[z0, z1] #[u0, u1] p true false) : Nb w ((y.setCell ⟨p, 0, none⟩ u0).setCell ⟨p, 1, none⟩ u1) t #[z0, z1] #[u0, u1] p true true := by
  obtain ⟨h1, h2⟩ := k.box rfl rfl
  refine ⟨(k.bel.setCell (p := ⟨p, 0, none⟩) h2 u0).setCell (p := ⟨p, 1, none⟩) h2 u1, (fun _ h => by cases h), fun _ => ⟨?_, h2⟩, fun _ => rfl⟩
  have := (h1.set 0 u0).set 1 u1
  simpa using this
theorem Nb.store6 {z0 z1 z2 z3 z4 z5 u0 u1 u2 u3 u4 u5 : Value} (k : Nb w y t #[z0, z1, z2, z3, z4, z5] #[u0, u1, u2, u3, u4, u5] p true false) :
    Nb w ((((((y.setCell ⟨p, 0, none⟩ u0).setCell ⟨p, 1, none⟩ u1).setCell ⟨p, 2, none⟩ u2).setCell ⟨p, 3, none⟩ u3).setCell ⟨p, 4, none⟩ u4).setCell ⟨p, 5, none⟩ u5) t #[z0, z1, z2, z3, z4, z5] #[u0, u1, u2, u3, u4, u5] p true true := by
  obtain ⟨h1, h2⟩ := k.box rfl rfl
  refine ⟨(((((k.bel.setCell (p := ⟨p, 0, none⟩) h2 u0).setCell (p := ⟨p, 1, none⟩) h2 u1).setCell (p := ⟨p, 2, none⟩) h2 u2).setCell (p := ⟨p, 3, none⟩) h2 u3).setCell (p := ⟨p, 4, none⟩) h2 u4).setCell (p := ⟨p, 5, none⟩) h2 u5, (fun _ h => by cases h), fun _ => ⟨?_, h2⟩, fun _ => rfl⟩
  have := (((((h1.set 0 u0).set 1 u1).set 2 u2).set 3 u3).set 4 u4).set 5 u5
  simpa using this
end
def chN (v : Vt) (p : Pt) : Int := if chargeE v p = 0 then chg v p else 0
end Go.Proofs.YtckhddndeojobaaGreat
