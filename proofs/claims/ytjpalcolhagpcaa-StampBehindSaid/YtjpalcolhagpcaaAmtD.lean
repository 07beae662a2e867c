/- The document's digits. -/
import Derived.Test.YtjpalcolhagpcaaAmtS
import Derived.Test.YtjpalcolhagpcaaBitsM
import Derived.OwnWalk
import Derived.Laws.OwnMore
namespace Go.Proofs.Ytjpalcolhagpcaa
open Go.RowKit Go.Fl
set_option maxRecDepth 100000
theorem info_u8 : (Try.prog.info? 5).map (fun i => (i.zero, i.size, i.bytes)) = some (some (.int .u8 0), 1, 1) := by kernel_rfl
/-- Digits as the cells hold them. -/
def dv (xs : List Nat) : List Value := xs.map fun x : Nat => Value.int .u8 (x : Int)
/-- A slice of digits that may be read. -/
structure Bits (w : World) (v : Value) (xs : List Nat) : Prop where
  row : ∃ g off cap, v = .slice (some ⟨g, off, none⟩) xs.length cap ∧ xs.length ≤ cap ∧ cap ≤ 9223372036854775807 ∧ ∀ i, i < xs.length → w.cell? ⟨g, off + i, none⟩ = some (.int .u8 ((xs.getD i 0 : Nat) : Int))
  bin : Bin xs
theorem own_empty8 (w : World) : (w.alloc (.cells #[] 5)).ownsRow w.heap.size 5 1 (.slice (some ⟨w.heap.size, 0, none⟩) 0 0) 0 [] := by
  refine ⟨rfl, Or.inr ⟨w.heap.size, 0, #[], rfl, Nat.le_refl _, (MapKept.heap_alloc w _).1, Nat.le_refl _, Nat.zero_le _, rfl, rfl⟩⟩
theorem bits_of_own {w : World} {base g n cap : Nat} {xs : List Nat} (h : w.ownsRow base 5 1 (.slice (some ⟨g, 0, none⟩) n cap) n (dv xs)) (hl : xs.length = n) (hb : Bin xs) (hc : n ≤ cap) (hm : cap ≤ maxLen) :
    Bits w (.slice (some ⟨g, 0, none⟩) n cap) xs := by
  refine ⟨⟨g, 0, cap, by rw [hl], by omega, hm, ?_⟩, hb⟩
  intro i hi
  rw [Nat.zero_add, h.cellAt i (by omega)]
  unfold dv
  rw [List.getElem?_map, List.getElem?_eq_getElem hi, List.getD_eq_getElem?_getD, List.getElem?_eq_getElem hi]; rfl
theorem dv_snoc (xs : List Nat) (x : Nat) : dv (xs ++ [x]) = dv xs ++ [Value.int .u8 (x : Int)] := by unfold dv; simp
theorem dv_len (xs : List Nat) : (dv xs).length = xs.length := by unfold dv; simp

/-- What digits are made of: a row of the call's own. -/
def Made (w : World) (P : List Nat → Prop) (e : Ending) (w' : World) : Prop := ∃ v xs, e = .returned v ∧ Bits w' v xs ∧ P xs ∧ Kp w w'

end Go.Proofs.Ytjpalcolhagpcaa
