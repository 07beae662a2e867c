/- Locks: two rows told in a region that draws its order; who waits, for whom. -/
import Derived.Test.YtcjefigcaifmeaaLokF
namespace Go.Proofs.Ytcjefigcaifmeaa
open Go.RowKit Go.Lk
set_option linter.unusedVariables false

/-- Behind a world two rows of holds are told, each behind its call. -/
structure Hw (wr y : World) (S1 S2 : List Int) (f1 f2 : Int → Bool) (A1 A2 : Option Addr) (a b : Bool) : Prop where
  bel : Below wr.heap.size wr y
  h : a = true → Sees y y.heap.size 2 A1 S1.length (flat (encH f1) S1)
  w : b = true → Sees y y.heap.size 2 A2 S2.length (flat (encH f2) S2)
section
variable {wr y y' : World} {S1 S2 : List Int} {f1 f2 : Int → Bool} {A1 A2 : Option Addr} {a b : Bool}
theorem Hw.call (k : Hw wr y S1 S2 f1 f2 A1 A2 a b) (hb : Below y.heap.size y y') : Hw wr y' S1 S2 f1 f2 A1 A2 a b :=
  ⟨k.bel.trans (hb.mono k.bel.size), fun e => ((k.h e).below hb).more hb.size, fun e => ((k.w e).below hb).more hb.size⟩
theorem Hw.row1 (k : Hw wr y S1 S2 f1 f2 A1 A2 a b) (hb : Below y.heap.size y y') {A : Option Addr} (hs : Sees y' y'.heap.size 2 A S1.length (flat (encH f1) S1)) : Hw wr y' S1 S2 f1 f2 A A2 true b :=
  ⟨(k.call hb).bel, fun _ => hs, (k.call hb).w⟩
theorem Hw.row2 (k : Hw wr y S1 S2 f1 f2 A1 A2 a b) (hb : Below y.heap.size y y') {A : Option Addr} (hs : Sees y' y'.heap.size 2 A S2.length (flat (encH f2) S2)) : Hw wr y' S1 S2 f1 f2 A1 A a true :=
  ⟨(k.call hb).bel, (k.call hb).h, fun _ => hs⟩
theorem Hw.start (wr : World) (hb : Below wr.heap.size wr y) : Hw wr y S1 S2 f1 f2 none none false false := ⟨hb, fun h => (by cases h), fun h => (by cases h)⟩
end
section
variable {s : Tb} {k x y : Int}
/-- Whoever waits goes together with all younger ones that hold. -/
theorem wait_young (m : Fine s) (hx : x ∈ supp (s.w k)) (hy : y ∈ supp (s.h k)) (h : x < y) : fl (s.w k) x = false ∧ fl (s.h k) y = false :=
  (m.ok k).yng x _ y _ (wait_some m hx) (hold_some m hy) h
/-- Whoever waits does so for an elder one. -/
theorem wait_elder (m : Fine s) {a : Nat} (hx : (supp (s.w k))[a]? = some x) :
    (∃ (i : Nat) (y : Int), (supp (s.h k))[i]? = some y ∧ y < x ∧ (fl (s.h k) y = true ∨ fl (s.w k) x = true)) ∨ (∃ (i : Nat) (z : Int), i < a ∧ (supp (s.w k))[i]? = some z ∧ (fl (s.w k) z = true ∨ fl (s.w k) x = true)) := by
  obtain ⟨ha, ex⟩ := List.getElem?_eq_some_iff.1 hx
  have hr := List.pairwise_iff_getElem.1 (supp_rises (m.finw k))
  obtain ⟨z, hz⟩ : ∃ z, (supp (s.w k))[0]? = some z := ⟨_, List.getElem?_eq_getElem (by omega)⟩
  obtain ⟨h0, ez⟩ := List.getElem?_eq_some_iff.1 hz
  have hzm := List.mem_of_getElem? hz
  have hzx : z ≤ x := by
    rcases Nat.eq_zero_or_pos a with e | e
    · subst e
      rw [← ex, ← ez]; exact Int.le_refl _
    · have := hr 0 a h0 ha e
      rw [ex, ez] at this
      omega
  have hleast : ∀ y, (s.w k y).isSome = true → z ≤ y := fun y hy => by
    obtain ⟨i, hi⟩ := List.mem_iff_getElem?.1 ((supp_mem (m.finw k) y).2 hy)
    obtain ⟨h1, e1⟩ := List.getElem?_eq_some_iff.1 hi
    rcases Nat.eq_zero_or_pos i with e | e
    · subst e
      rw [← e1, ← ez]; exact Int.le_refl _
    · have := hr 0 i h0 h1 e
      rw [e1, ez] at this
      omega
  obtain ⟨y, c, hyz, hc, hcb⟩ := m.idle k (fun h => h) z _ (wait_some m hzm) hleast
  have hym := hold_in m hc
  have hfl : fl (s.h k) y = c := by unfold fl; rw [hc]; rfl
  have hlt : y < z := by
    rcases Int.lt_trichotomy y z with h | h | h
    · exact h
    · exact absurd h hyz
    · obtain ⟨e1, e2⟩ := wait_young m hzm hym h
      rw [hfl] at e2
      rcases hcb with h2 | h2
      · rw [e2] at h2; cases h2
      · rw [e1] at h2; cases h2
  obtain ⟨i, hi⟩ := List.mem_iff_getElem?.1 hym
  rcases hcb with h | h
  · exact .inl ⟨i, y, hi, by omega, .inl (by rw [hfl]; exact h)⟩
  · rcases Nat.eq_zero_or_pos a with e | e
    · subst e
      have : x = z := by rw [← ex, ← ez]
      subst this
      exact .inl ⟨i, y, hi, by omega, .inr h⟩
    · exact .inr ⟨0, z, e, hz, .inl h⟩
end
end Go.Proofs.Ytcjefigcaifmeaa
