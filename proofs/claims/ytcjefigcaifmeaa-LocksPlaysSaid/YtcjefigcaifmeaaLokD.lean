/- Locks: plainly, what the laws ask: the eldest; who waits; who ends. -/
import Derived.Test.YtcjefigcaifmeaaLokB
namespace Go.Proofs.Ytcjefigcaifmeaa
open Go.RowKit Go.Lk
set_option linter.unusedVariables false

section
variable {s : Tb}
/-- The eldest one never waits. -/
theorem eld_waits (m : Fine s) : s.waits 1 = false := by
  cases h : s.waits 1 with
  | false => rfl
  | true =>
    obtain ⟨k, hk⟩ := (m.wts 1).1 h
    obtain ⟨b, hb⟩ := some_of hk
    obtain ⟨y, c, hy, hc, hcb⟩ := m.idle k (fun h => h) 1 b hb fun y hy => (m.inn64 y (m.winn hy)).1
    have h1 := (m.inn64 y (m.hinn (by rw [hc]; rfl))).1
    obtain ⟨e1, e2⟩ := (m.ok k).yng 1 b y c hb hc (by omega)
    subst e1 e2
    rcases hcb with h | h <;> cases h
theorem w_none (m : Fine s) {x : Int} (h : s.waits x = false) (k : Int) : s.w k x = none := none_of fun h2 => by
  have := (m.wts x).2 ⟨k, h2⟩
  rw [h] at this; cases this
theorem ask_ok {x k : Int} (he : askE s x k = 0) : 1 ≤ x ∧ isK k = true ∧ s.dead x = false ∧ s.waits x = false := by
  rcases Lk.ask_cases s x k with ⟨_, e⟩ | ⟨_, _, e⟩ | ⟨_, _, _, e⟩ | ⟨_, _, _, _, e⟩ | ⟨h1, h2, h3, h4, _⟩
  · rw [he] at e; cases e
  · rw [he] at e; cases e
  · rw [he] at e; cases e
  · rw [he] at e; cases e
  · exact ⟨h1, h2, h3, h4⟩
/-- Whoever asked and doesn't wait then has it. -/
theorem ask_has (m : Fine s) {x k : Int} {b : Bool} (he : askE s x k = 0) (hw : (askT s x b k).waits x = false) (m2 : Fine (askT s x b k)) : hasS (askT s x b k) x b k = true := by
  obtain ⟨h1, h2, h3, h4⟩ := ask_ok he
  obtain ⟨r1, r2, r3⟩ := ask_row m x b h2
  have hn := w_none m2 hw k
  have hG : ∃ c, (x, c) ∈ G1 (midS s x b k) k := by
    by_cases hG : ∃ p ∈ G1 (midS s x b k) k, p.1 = x
    · obtain ⟨⟨y, c⟩, hp, rfl⟩ := hG
      exact ⟨c, hp⟩
    · rw [r2, delL_out _ _ fun p hp e => hG ⟨p, hp, e⟩, upd_same] at hn
      cases hn
  obtain ⟨c, hc⟩ := hG
  have hfin : Fin1 (upd (cutF (s.w k) (wdS s x b k)) x (some b)) := by
    refine .of_list (x :: supp (s.w k)) fun y hy => ?_
    unfold upd cutF at hy
    split at hy
    · rename_i e; rw [e]; exact List.mem_cons_self ..
    · split at hy
      · cases hy
      · exact List.mem_cons_of_mem _ ((supp_mem (m.finw k) y).2 hy)
  have hcb : c = b := by
    have h5 := hc
    rw [r3] at h5
    have h6 := (rowOf_mem hfin x c).1 (gl_mem h5)
    rw [upd_same] at h6
    injection h6 with h6
    exact h6.symm
  subst hcb
  have hr : (askT s x c k).h k x = some c := by
    rw [r1]
    refine setL_in _ _ ?_ hc
    rw [r3]
    exact (rowOf_rises hfin).sublist (gl_sub _ _)
  unfold hasS
  rw [hr]
  cases c <;> rfl
theorem ask_is (s : Tb) (x : Int) (b : Bool) (k : Int) : askS s x b k = s ∨ (askE s x k = 0 ∧ hasS s x b k = false ∧ askS s x b k = askT s x b k) := by
  unfold askS
  split
  · rename_i h; exact .inr ⟨h.1, h.2, rfl⟩
  · exact .inl rfl
/-- The eldest one gets what it asks for. -/
theorem eld_has (m : Fine s) {k : Int} {b : Bool} (he : askE s 1 k = 0) : (askA s 1 b k).granted = true := by
  unfold askA
  rw [if_neg (by rw [he]; simp)]
  split
  · rfl
  · rename_i hh
    have m2 : Fine (askT s 1 b k) := by
      have := m.ask (x := 1) (k := k) (b := b) (by omega)
      unfold askS at this
      rwa [if_pos ⟨he, by simpa using hh⟩] at this
    exact ask_has m he (eld_waits m2) m2
theorem eld_dead (m : Fine s) (o : Op13) (h : s.dead 1 = false) : (run1 s o).dead 1 = false := by
  unfold run1
  split
  · rcases ask_is s o.x o.b o.key with e | ⟨he, -, e⟩
    · rw [e]; exact h
    · rw [e, askT_dead, if_neg, h]
      intro hm
      have := ((wdS_mem m o.x o.b o.key 1).1 hm).1
      have := (ask_ok he).1
      omega
  · by_cases h1 : o.x < 1 ∨ s.inn o.x = false
    · unfold endS; rw [if_pos h1]; exact h
    · rw [endS_dead _ _ _ h1]
      split
      · rfl
      · exact h
theorem wound_less (m : Fine s) (o : Op13) (y : Int) (hy : y ∈ (runA s o).wounded) : o.x < y := by
  unfold runA at hy
  split at hy
  · unfold askA at hy
    split at hy
    · cases hy
    · split at hy
      · cases hy
      · exact ((wdS_mem m _ _ _ _).1 hy).1
  · cases hy
/-- Whether the eldest one has asked and hasn't ended. -/
noncomputable def aliveS (a : Bool) (s : Tb) (o : Op13) : Bool := if o.x = 1 ∧ o.k ≠ 0 then false else if o.x = 1 ∧ runE s o = 0 then true else a
theorem eld_inn (a : Bool) (o : Op13) (h : a = false → s.inn 1 = false) : aliveS a s o = false → (run1 s o).inn 1 = false := by
  unfold aliveS
  intro h2
  split at h2
  · rename_i e
    unfold run1
    rw [if_neg e.2, e.1]
    by_cases h1 : (1 : Int) < 1 ∨ s.inn 1 = false
    · unfold endS; rw [if_pos h1]
      rcases h1 with h1 | h1
      · omega
      · exact h1
    · rw [endS_inn _ _ _ h1, if_pos rfl]
  · split at h2
    · cases h2
    · rename_i e1 e2
      have ha := h h2
      unfold run1
      split
      · rename_i hk
        rcases ask_is s o.x o.b o.key with e | ⟨he, -, e⟩
        · rw [e]; exact ha
        · rw [e, askT_inn]
          split
          · rename_i hx
            exfalso
            refine e2 ⟨hx.symm, ?_⟩
            unfold runE
            rw [if_pos hk]; exact he
          · exact ha
      · rename_i hk
        by_cases h1 : o.x < 1 ∨ s.inn o.x = false
        · unfold endS; rw [if_pos h1]; exact ha
        · rw [endS_inn _ _ _ h1]
          split
          · rfl
          · exact ha
/-- What the eldest one is told. -/
theorem eld_told (m : Fine s) (o : Op13) (hd : s.dead 1 = false) (hx : o.x = 1) : runE s o ≠ 132 ∧ runE s o ≠ 133 ∧ (o.k = 0 → runE s o = 0 → (runA s o).granted = true) := by
  have hw := eld_waits m
  refine ⟨?_, ?_, fun hk he => ?_⟩
  · unfold runE
    split
    · rw [hx]
      rcases Lk.ask_cases s 1 o.key with ⟨_, e⟩ | ⟨_, _, e⟩ | ⟨_, _, h, e⟩ | ⟨_, _, _, h, e⟩ | ⟨h1, h2, h3, h4, e⟩
      · rw [e]; simp
      · rw [e]; simp
      · rw [hd] at h; cases h
      · rw [hw] at h; cases h
      · rw [e]; simp
    · split <;> simp
  · unfold runE
    split
    · rw [hx]
      rcases Lk.ask_cases s 1 o.key with ⟨_, e⟩ | ⟨_, _, e⟩ | ⟨_, _, h, e⟩ | ⟨_, _, _, h, e⟩ | ⟨h1, h2, h3, h4, e⟩
      · rw [e]; simp
      · rw [e]; simp
      · rw [hd] at h; cases h
      · rw [hw] at h; cases h
      · rw [e]; simp
    · split <;> simp
  · unfold runE at he
    unfold runA
    rw [if_pos hk] at he ⊢
    rw [hx] at he ⊢
    exact eld_has m he
theorem end_out (s : Tb) (h : s.inn 1 = false) : endA s 1 = [] := by unfold endA; rw [if_pos (.inr h)]
end
end Go.Proofs.Ytcjefigcaifmeaa
