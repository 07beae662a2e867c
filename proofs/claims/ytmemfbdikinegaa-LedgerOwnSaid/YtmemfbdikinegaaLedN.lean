/- Layer 14: what the laws need: two accounts alone; a move's accounts; a row that is written over. -/
import Derived.Test.YtmemfbdikinegaaLedA
namespace Go.Ld
open Go.Lk Go.Am
set_option linter.unusedVariables false
/-- What a move that was done makes of its accounts. -/
theorem move_at {x : Nat} {f : Acc} {a b n : Int} (h : moveE x f a b n = 0) : ∃ p q, f a = some p ∧ f b = some q ∧ moveF x f a b n a = some ⟨p.has - n - feeV n x, p.paid + feeV n x⟩ ∧ moveF x f a b n b = some ⟨q.has + n, q.paid⟩ ∧ moveV x f a b n = feeV n x ∧
    acc a = true ∧ acc b = true ∧ isA n = true ∧ n + feeV n x ≤ p.has ∧ q.has + n ≤ 1000000000000000 := by
  obtain ⟨h1, h2, h3, h4, h5, p, q, hp, hq, h6, h7⟩ := move_zero h
  refine ⟨p, q, hp, hq, ?_, ?_, by unfold moveV; rw [if_pos h], h1, h2, h3, h6, h7⟩
  · unfold moveF
    rw [if_pos h, hp, hq, upd_other _ h5, upd_same]
    rfl
  · unfold moveF
    rw [if_pos h, hp, hq, upd_same]
    rfl
theorem move_other {x : Nat} {f : Acc} {a b n c : Int} (ha : c ≠ a) (hb : c ≠ b) : moveF x f a b n c = f c := by
  unfold moveF
  split
  · rw [upd_other _ hb, upd_other _ ha]
  · rfl
/-! ### Two accounts alone -/
theorem pair_eq (a b n m : Int) : pair a b n m = upd (upd (fun _ => none) a (some ⟨n, 0⟩)) b (some ⟨m, 0⟩) := rfl
section
variable {a b : Int} (ha : acc a = true) (hb : acc b = true) (hab : a ≠ b)
include ha hb hab
theorem pair_ok {n m : Int} (hn : 0 ≤ n ∧ n ≤ 1000000000000000) (hm : 0 ≤ m ∧ m ≤ 1000000000000000) : Fine (pair a b n m) ∧ tot (pair a b n m) = n + m := by
  rw [pair_eq]
  refine ⟨(Fine.none.upd ha hn (Int.le_refl _)).upd hb hm (Int.le_refl _), ?_⟩
  rw [tot_upd hb, tot_upd ha, tot_none, upd_other _ (fun e => hab e.symm)]
  simp only [worth]
  omega
theorem pair_first : openE (fun _ => none) a 1000000000000000 = 0 ∧ Fine (openF (fun _ => none) a 1000000000000000) ∧ openE (openF (fun _ => none) a 1000000000000000) b 0 = 0 ∧ openF (openF (fun _ => none) a 1000000000000000) b 0 = pair a b 1000000000000000 0 := by
  have h1 : openE (fun _ => none) a 1000000000000000 = 0 := by
    unfold openE
    rw [if_neg (by rw [ha]; decide), if_neg (by simp), if_neg (by decide)]
  have h2 : openF (fun _ => none) a 1000000000000000 = upd (fun _ => none) a (some ⟨1000000000000000, 0⟩) := by unfold openF; rw [if_pos h1]
  have h3 : openE (openF (fun _ => none) a 1000000000000000) b 0 = 0 := by
    unfold openE
    rw [if_neg (by rw [hb]; decide), h2, upd_other _ (fun e => hab e.symm), if_neg (by decide), if_neg (by decide)]
  refine ⟨h1, (Fine.none.opens a 1000000000000000).1, h3, ?_⟩
  unfold openF
  rw [if_pos h1, if_pos (by rw [← h2]; exact h3)]
  rfl
/-- A move of a part. -/
theorem pair_move {s n : Int} (hs : 0 ≤ s ∧ s ≤ 1000000000000000) :
    ((moveE 0 (pair a b (1000000000000000 - s) s) a b n = 143 ∨ moveE 0 (pair a b (1000000000000000 - s) s) a b n = 146) ∧ moveV 0 (pair a b (1000000000000000 - s) s) a b n = 0 ∧ moveF 0 (pair a b (1000000000000000 - s) s) a b n = pair a b (1000000000000000 - s) s) ∨
    (moveE 0 (pair a b (1000000000000000 - s) s) a b n = 0 ∧ moveV 0 (pair a b (1000000000000000 - s) s) a b n = 0 ∧ 0 < n ∧ s + n ≤ 1000000000000000 ∧ moveF 0 (pair a b (1000000000000000 - s) s) a b n = pair a b (1000000000000000 - (s + n)) (s + n)) := by
  have pa : pair a b (1000000000000000 - s) s a = some ⟨1000000000000000 - s, 0⟩ := by unfold pair; rw [if_neg hab, if_pos rfl]
  have pb : pair a b (1000000000000000 - s) s b = some ⟨s, 0⟩ := by unfold pair; rw [if_pos rfl]
  have n1 : ¬ (acc a = false ∨ acc b = false) := by rw [ha, hb]; decide
  have bad : ∀ e, moveE 0 (pair a b (1000000000000000 - s) s) a b n = e → e ≠ 0 → moveV 0 (pair a b (1000000000000000 - s) s) a b n = 0 ∧ moveF 0 (pair a b (1000000000000000 - s) s) a b n = pair a b (1000000000000000 - s) s := fun e h1 h2 => (move_bad h1 h2).2
  by_cases hi : isA n = false ∨ n = 0
  · have h : moveE 0 (pair a b (1000000000000000 - s) s) a b n = 143 := by unfold moveE; rw [if_neg n1, if_pos hi]
    exact .inl ⟨.inl h, bad _ h (by decide)⟩
  · have hi2 := hi
    simp only [not_or, Bool.not_eq_false] at hi2
    have h3 := (isA_iff n).1 hi2.1
    by_cases hsh : 1000000000000000 - s < n
    · have h : moveE 0 (pair a b (1000000000000000 - s) s) a b n = 146 := by
        unfold moveE
        rw [if_neg n1, if_neg hi, if_neg hab, pa]
        dsimp only
        rw [if_pos (by rw [fee_zero]; omega)]
      exact .inl ⟨.inr h, bad _ h (by decide)⟩
    · have h : moveE 0 (pair a b (1000000000000000 - s) s) a b n = 0 := by
        unfold moveE
        rw [if_neg n1, if_neg hi, if_neg hab, pa]
        dsimp only
        rw [if_neg (by rw [fee_zero]; omega), pb]
        dsimp only
        rw [if_neg (by omega)]
      have hn0 : n ≠ 0 := hi2.2
      refine .inr ⟨h, by unfold moveV; rw [if_pos h, fee_zero], by omega, by omega, ?_⟩
      unfold moveF
      rw [if_pos h, pa, pb, fee_zero]
      simp only [Option.getD_some]
      funext k
      unfold upd pair
      by_cases e1 : k = b
      · rw [if_pos e1, if_pos e1]
      · by_cases e2 : k = a
        · rw [if_neg e1, if_pos e2, if_neg e1, if_pos e2]
          congr 2
          · omega
        · rw [if_neg e1, if_neg e2, if_neg e1, if_neg e2, if_neg e1, if_neg e2]
end
end Go.Ld
namespace Go.Proofs.Ytmemfbdikinegaa
open Go.ChangeShapes Go.WideShapes Go.ChangeAt Go.RowKit Go.Lk Go.Ld Go.Am
set_option linter.unusedVariables false
set_option linter.unusedSimpArgs false
set_option maxRecDepth 100000
theorem own_room {w : World} {B size n cap : Nat} {e : TypeId} {A : Option Addr} {xs : List Value} (h : w.ownsRow B e size (.slice A n cap) n xs) : n ≤ cap := by
  obtain ⟨_, _, e, h1, h2, _⟩ := own_slice0 h
  injection e with _ _ e
  omega
/-- A row that is written over: nothing old has changed but its block q. -/
structure Ow (w0 w : World) (q n : Nat) (cs : Array Value) : Prop where
  off : Off (fun b => b = q) w0 w
  wh : Whole w q 31 cs
  size : n * 2 ≤ cs.size
theorem Ow.set {w0 w : World} {q n : Nat} {cs : Array Value} (h : Ow w0 w q n cs) (i : Nat) (u : Value) : Ow w0 (w.setCell ⟨q, i, none⟩ u) q n (cs.setIfInBounds i u) := ⟨h.off.set (.inl rfl) u, h.wh.set i u, by simpa using h.size⟩
theorem Ow.at {w0 w : World} {q n : Nat} {cs : Array Value} (h : Ow w0 w q n cs) (i : Nat) (hi : i < n * 2) : (∃ u, w.cell? ⟨q, i, none⟩ = some u) ∧ w.frozen? ⟨q, i, none⟩ = false ∧ q < w.heap.size :=
  ⟨⟨_, (h.wh.cell i).trans (Array.getElem?_eq_getElem (Nat.lt_of_lt_of_le hi h.size))⟩, h.wh.free i, h.wh.lt⟩
theorem Ow.start {w : World} {B n cap : Nat} {A : Option Addr} {xs : List Value} (h : w.ownsRow B 31 2 (.slice A n cap) n xs) : n = 0 ∨ ∃ q cs, A = some ⟨q, 0, none⟩ ∧ B ≤ q ∧ Ow w w q n cs := by
  rcases h.2 with ⟨h0, h1⟩ | ⟨g', cap', cur, hv, hb, hg, h1, h2, h3, h4⟩
  · exact .inl h1
  · simp only [Value.slice.injEq, true_and] at hv
    obtain ⟨rfl, rfl⟩ := hv
    exact .inr ⟨g', cur, rfl, hb, Off.refl _ _, hg, by rw [h3]; exact Nat.mul_le_mul_right _ h1⟩
end Go.Proofs.Ytmemfbdikinegaa
