/- Locks: plainly, what the laws ask of those that hold or wait. -/
import Derived.Test.YtcjefigcaifmeaaLokD
namespace Go.Proofs.Ytcjefigcaifmeaa
open Go.RowKit Go.Lk
set_option linter.unusedVariables false

section
variable {s : Tb} {k x y : Int}
theorem hold_some (m : Fine s) (h : x ∈ supp (s.h k)) : s.h k x = some (fl (s.h k) x) := by
  obtain ⟨c, hc⟩ := some_of ((supp_mem (m.finh k) x).1 h)
  unfold fl
  rw [hc]; rfl
theorem wait_some (m : Fine s) (h : x ∈ supp (s.w k)) : s.w k x = some (fl (s.w k) x) := by
  obtain ⟨c, hc⟩ := some_of ((supp_mem (m.finw k) x).1 h)
  unfold fl
  rw [hc]; rfl
theorem hold_in (m : Fine s) {c : Bool} (h : s.h k x = some c) : x ∈ supp (s.h k) := (supp_mem (m.finh k) x).2 (by rw [h]; rfl)
theorem hold64 (m : Fine s) (h : x ∈ supp (s.h k)) : W64 x := by
  have := m.inn64 x (m.hinn (k := k) (by rw [hold_some m h]; rfl))
  unfold W64; omega
theorem wait64 (m : Fine s) (h : x ∈ supp (s.w k)) : W64 x := by
  have := m.inn64 x (m.winn (k := k) (by rw [wait_some m h]; rfl))
  unfold W64; omega
theorem hold_alive (m : Fine s) (h : x ∈ supp (s.h k)) : s.dead x = false := by
  cases e : s.dead x with
  | false => rfl
  | true =>
    have := ((m.dd x e).2 k).1
    rw [hold_some m h] at this; cases this
theorem wait_alive (m : Fine s) (h : x ∈ supp (s.w k)) : s.dead x = false := by
  cases e : s.dead x with
  | false => rfl
  | true =>
    have := ((m.dd x e).2 k).2
    rw [wait_some m h] at this; cases this
theorem hold_read (m : Fine s) (hx : x ∈ supp (s.h k)) (hy : y ∈ supp (s.h k)) (hne : x ≠ y) : fl (s.h k) x = false ∧ fl (s.h k) y = false :=
  (m.ok k).tog x y _ _ hne (hold_some m hx) (hold_some m hy)
/-- The j-th of a row of holds. -/
theorem row_at {w wr : World} {n : Nat} {A : Option Addr} {f : Int → Bool} {l : List Int} (h : Sees w w.heap.size 2 A n (flat (encH f) l)) (hn : n = l.length) (hb : Below w.heap.size w wr) {j : Nat} {x : Int} (hx : l[j]? = some x) :
    ∃ b off, A = some ⟨b, off, none⟩ ∧ Hid (∀ a, Below wr.heap.size wr a → ∀ (j : Nat) (x : Int), l[j]? = some x → a.cell? ⟨b, off + j * 2, none⟩ = some (.int .i64 x) ∧ a.cell? ⟨b, off + j * 2 + 1, none⟩ = some (.bool (f x))) := by
  have hj : j < l.length := by
    rcases Nat.lt_or_ge j l.length with h | h
    · exact h
    · rw [List.getElem?_eq_none h] at hx; cases hx
  obtain ⟨b, off, e, hb1, hc⟩ := h.2 (by omega)
  refine ⟨b, off, e, Lib.hid fun a ha i y hy => ?_⟩
  have hblk : a.heap[b]? = w.heap[b]? := (hb.trans (ha.mono hb.size)).block b hb1
  obtain ⟨b2, off2, e2, -, hi⟩ := h.item (fun x => encH_len f x) (by subst hn; omega) i y hy
  rw [e] at e2
  injection e2 with e2
  injection e2 with e3 e4
  subst e3 e4
  have h0 := hi 0 _ rfl
  have h1 := hi 1 _ rfl
  rw [Nat.add_zero] at h0
  refine ⟨?_, ?_⟩
  · rw [← h0]; simp only [World.cell?, hblk]
  · rw [← h1]; simp only [World.cell?, hblk]
end
end Go.Proofs.Ytcjefigcaifmeaa
