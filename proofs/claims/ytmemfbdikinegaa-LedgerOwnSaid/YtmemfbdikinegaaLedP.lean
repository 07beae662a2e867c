/- Layer 14: what LedgerFlows, LedgerOwn and LedgerTurns need besides. -/
import Derived.Test.YtmemfbdikinegaaLedN
namespace Go.Ld
open Go.Lk Go.Am
set_option linter.unusedVariables false
section
variable {a b : Int} (ha : acc a = true) (hb : acc b = true) (hab : a ≠ b)
include ha hb hab
/-- A move of the whole sum. -/
theorem pair_whole {s : Int} (hs : 0 < s ∧ s ≤ 1000000000000000) : moveE 0 (pair a b 1000000000000000 0) a b s = 0 ∧ moveV 0 (pair a b 1000000000000000 0) a b s = 0 ∧ moveF 0 (pair a b 1000000000000000 0) a b s = pair a b (1000000000000000 - s) s := by
  have pa : pair a b 1000000000000000 0 a = some ⟨1000000000000000, 0⟩ := by unfold pair; rw [if_neg hab, if_pos rfl]
  have pb : pair a b 1000000000000000 0 b = some ⟨0, 0⟩ := by unfold pair; rw [if_pos rfl]
  have h : moveE 0 (pair a b 1000000000000000 0) a b s = 0 := by
    unfold moveE
    rw [if_neg (by rw [ha, hb]; decide), if_neg (by rw [(isA_iff s).2 (by omega)]; simp; omega), if_neg hab, pa]
    dsimp only
    rw [if_neg (by rw [fee_zero]; omega), pb]
    dsimp only
    rw [if_neg (by omega)]
  refine ⟨h, by unfold moveV; rw [if_pos h, fee_zero], ?_⟩
  have h2 := pair_move ha hb hab (s := 0) (n := s) ⟨by omega, by omega⟩
  rw [show (1000000000000000 - 0 : Int) = 1000000000000000 from rfl, h] at h2
  rcases h2 with ⟨h3, -⟩ | ⟨-, -, -, -, h3⟩
  · rcases h3 with h3 | h3 <;> cases h3
  · rw [h3, Int.zero_add]
end
/-- A book behind more calls. -/
theorem runs_at {l : List Op14} {n : Nat} {o : Op14} (x : Nat) (f : Acc) (h : l[n]? = some o) : runs x f (l.take (n + 1)) = doF x (runs x f (l.take n)) o := by
  have hl := List.getElem?_eq_some_iff.1 h
  rw [List.take_succ_eq_append_getElem hl.1, hl.2, runs_snoc]
theorem runs_keep {x : Nat} (hx : rated x = true) {f : Acc} (h : Fine f) (l : List Op14) (k : Nat) (hk : k ≤ 40) (ht : tot f ≤ 40000000000000000) : Fine (runs x f (l.take k)) ∧ tot (runs x f (l.take k)) ≤ 8000000000000000000 := by
  obtain ⟨h1, h2, h3, h4⟩ := runs_ok hx (l.take k) f h
  have : (l.take k).length ≤ 40 := by simp; omega
  exact ⟨h1, by rw [h2]; omega⟩
theorem take_end {α : Type} {l : List α} {n : Nat} (h1 : n ≤ l.length) (h2 : ¬ (n < l.length ∧ n < 40)) (h3 : n ≤ 40) : l.take n = l.take 40 := by
  by_cases e : n = 40
  · rw [e]
  · have : n = l.length := by omega
    rw [this, List.take_length, List.take_of_length_le (by omega)]
end Go.Ld
namespace Go.Proofs.Ytmemfbdikinegaa
open Go.ChangeShapes Go.WideShapes Go.ChangeAt Go.RowKit Go.Lk Go.Ld Go.Am
set_option linter.unusedVariables false
set_option linter.unusedSimpArgs false
set_option maxRecDepth 100000
theorem own_less0 {w : World} {B size n : Nat} {e : TypeId} {v : Value} {xs : List Value} (h : w.ownsRow B e size v n xs) : w.ownsRow 0 e size v n xs := by
  refine ⟨h.1, ?_⟩
  rcases h.2 with hn | ⟨g', cap, cur, e1, hb, r⟩
  · exact .inl hn
  · exact .inr ⟨g', cap, cur, e1, Nat.zero_le _, r⟩
theorem own_keep0 {w w' : World} {B size n : Nat} {e : TypeId} {v : Value} {xs : List Value} (h : w.ownsRow B e size v n xs) (hb : Below w.heap.size w w') : w'.ownsRow B e size v n xs := by
  refine ⟨h.1, ?_⟩
  rcases h.2 with hn | ⟨g', cap, cur, e1, hB, hg, r⟩
  · exact .inl hn
  · exact .inr ⟨g', cap, cur, e1, hB, (hb.block g' (Array.getElem?_eq_some_iff.1 hg).1).trans hg, r⟩
end Go.Proofs.Ytmemfbdikinegaa
