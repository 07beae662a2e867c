/- 'same' of the laws of layer 1; that keys lead back. -/
import Derived.Test.YtjicdbkpklikfaaNumA
namespace Go.Proofs.Ytjicdbkpklikfaa
open Go.RowKit Go.Fl
theorem of_key (x : Nat) (hx : x < 18446744073709551616) : ofOk (key x) = true ∧ (nan x = true → nan (ofBits (key x)) = true) ∧ (nan x = false → ofBits (key x) = x) := by
  rw [nan_dec x hx]
  by_cases h : (9218868437227405312 < x ∧ x < 9223372036854775808) ∨ 18442240474082181120 < x
  · have k : key x = 0 := by unfold key; rw [if_pos h]
    rw [k]
    refine ⟨rfl, fun _ => by decide, fun g => ?_⟩
    rw [decide_eq_true h] at g; cases g
  · have k : key x = if 9223372036854775808 ≤ x then 18446744073709551615 - x else x + 9223372036854775808 := by unfold key; rw [if_neg h]
    have kz : key x ≠ 0 := by rw [k]; split <;> omega
    have kb : ofB (key x) = x := by rw [k]; unfold ofB; (repeat' split) <;> omega
    have n := of_num (key x) kz (key_lt x hx) (by rw [kb, nan_dec x hx, decide_eq_false h])
    refine ⟨n.2, fun g => ?_, fun _ => by rw [n.1, kb]⟩
    rw [decide_eq_false h] at g; cases g

theorem same_any (x y : Nat) (hx : x < 18446744073709551616) (hy : y < 18446744073709551616) (h : x = y ∨ (nan x = true ∧ nan y = true)) (w : World) :
    Calls Try.prog 31 #[.float .f64 x, .float .f64 y] w fun e w' => e = .returned (.bool true) ∧ w' = w := by
  by_cases e : x = y
  · subst e
    go_enter Try.func31, Try.ntmps31
    go_wp2
    go_ret
    exact ⟨rfl, rfl⟩
  · have h1 : nan x = true := by rcases h with h | h; exact absurd h e; exact h.1
    have h2 : nan y = true := by rcases h with h | h; exact absurd h e; exact h.2
    have e1 : ((x : Int) == (y : Int)) = false := by simp; omega
    clear h e
    go_enter Try.func31, Try.ntmps31
    go_wp2_with fail
    refine (none_any x hx _).mono ?_
    rintro e w2 ⟨rfl, rfl⟩
    go_wp2_with fail
    refine (none_any y hy _).mono ?_
    rintro e w2 ⟨rfl, rfl⟩
    go_wp2_with fail
    go_ret
    exact ⟨rfl, rfl⟩

end Go.Proofs.Ytjicdbkpklikfaa
