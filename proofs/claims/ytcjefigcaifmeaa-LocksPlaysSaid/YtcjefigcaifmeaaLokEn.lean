/- Locks: what LocksEnds needs (plain): nobody waits where nobody holds; whoever ended holds and waits for nothing; who is in. -/
import Derived.Test.YtcjefigcaifmeaaLokL
namespace Go.Proofs.Ytcjefigcaifmeaa
open Go.RowKit Go.Lk
set_option linter.unusedVariables false
section
variable {s : Tb} {k x : Int}
theorem idle_len (m : Fine s) : (supp (s.h k)).length ≠ 0 ∨ (supp (s.w k)).length = 0 := by
  rcases Nat.eq_zero_or_pos (supp (s.w k)).length with h | h
  · exact .inr h
  · obtain ⟨z, hz⟩ : ∃ z, (supp (s.w k))[0]? = some z := ⟨_, List.getElem?_eq_getElem h⟩
    refine .inl fun h0 => ?_
    rcases wait_elder m hz with ⟨i, y, h1, -⟩ | ⟨i, z', h1, -⟩
    · have := (List.getElem?_eq_some_iff.1 h1).1
      omega
    · omega
theorem end_gone (m : Fine s) (y : Int) (h : (endS s x).inn y = true) : s.inn y = true ∧ y ≠ x := by
  by_cases hx : x < 1 ∨ s.inn x = false
  · unfold endS at h
    rw [if_pos hx] at h
    refine ⟨h, fun e => ?_⟩
    subst e
    rcases hx with hx | hx
    · have := (m.inn64 y h).1; omega
    · rw [hx] at h; cases h
  · rw [endS_inn _ _ _ hx] at h
    split at h
    · cases h
    · rename_i e; exact ⟨h, e⟩
theorem end_none (m : Fine s) (k : Int) : (∀ y ∈ supp ((endS s x).h k), y ≠ x) ∧ ∀ y ∈ supp ((endS s x).w k), y ≠ x := by
  have m2 : Fine (endS s x) := m.end x
  refine ⟨fun y hy => ?_, fun y hy => ?_⟩
  · exact (end_gone m y (m2.hinn ((supp_mem (m2.finh k) y).1 hy))).2
  · exact (end_gone m y (m2.winn ((supp_mem (m2.finw k) y).1 hy))).2
theorem run_inn (m : Fine s) (o : Op13) (y : Int) (h : (run1 s o).inn y = true) : s.inn y = true ∨ y = o.x := by
  unfold run1 at h
  split at h
  · by_cases e : y = o.x
    · exact .inr e
    · unfold askS at h
      split at h
      · rw [askT_inn, if_neg e] at h; exact .inl h
      · exact .inl h
  · exact .inl (end_gone m y h).1
theorem all_out (m : Fine s) (h : ∀ y, s.inn y ≠ true) (k x : Int) : supp (s.h k) = [] ∧ supp (s.w k) = [] ∧ s.dead x = false := by
  refine ⟨?_, ?_, ?_⟩
  · refine List.eq_nil_iff_forall_not_mem.2 fun y hy => h y (m.hinn ((supp_mem (m.finh k) y).1 hy))
  · refine List.eq_nil_iff_forall_not_mem.2 fun y hy => h y (m.winn ((supp_mem (m.finw k) y).1 hy))
  · cases e : s.dead x with
    | false => rfl
    | true => exact absurd (m.dd x e).1 (h x)
end
end Go.Proofs.Ytcjefigcaifmeaa
