/- Contracts at layer 6: New; the document's Rated; awake. -/
import Derived.Test.YtjpalcolhagpcaaClkT
namespace Go.Proofs.Ytjpalcolhagpcaa
open Go.RowKit Go.Sp Go.Fl Go.Ck
set_option linter.unusedVariables false
set_option linter.unusedSimpArgs false
set_option maxRecDepth 100000

theorem clk_fresh (w : World) (x : Nat) : Clk (w.alloc (.cells #[.pointer none, .float .f64 x, .int .i64 0, .int .i64 0] 68)) w.heap.size (fresh x) :=
  ⟨none, Whole.fresh w _ _, fun _ => rfl, fun h => by cases h⟩
theorem new_yes (x : Nat) (hx : crated x = true) (w : World) : Calls Try.prog 18 #[.float .f64 x] w fun e w' => e = .returned (.tuple #[ptr w.heap.size, .int .i64 0]) ∧ Below w.heap.size w w' ∧ Clk w' w.heap.size (fresh x) := by
  have HR := Lib.hid (fun w0 => iscrate_any x (crated_num hx) w0)
  rw [hx] at HR
  clear hx
  go_enter Try.func18, Try.ntmps18
  go_wp2_with fail
  refine (HR.out _).mono ?_
  rintro r w1 ⟨rfl, rfl⟩
  go_wp2_with fail
  refine bodyPost_ret (by simp [results, Try.results18, go_sem]; try rfl) rfl ?_
  exact ⟨rfl, (Below.refl _ _).alloc (Nat.le_refl _) _, clk_fresh _ _⟩
theorem new_at (x : Nat) (hx : crated x = true) (w : World) (g : Nat) (hg : g = w.heap.size) : Calls Try.prog 18 #[.float .f64 x] w fun e w' => e = .returned (.tuple #[ptr g, .int .i64 0]) ∧ Below w.heap.size w w' ∧ Clk w' g (fresh x) := by
  subst hg
  exact new_yes x hx w
theorem new_no (x : Nat) (h : x < 18446744073709551616) (hx : crated x = false) (w : World) : Calls Try.prog 18 #[.float .f64 x] w fun e w' => e = .returned (.tuple #[.pointer none, .int .i64 60]) ∧ w' = w := by
  have HR := Lib.hid (fun w0 => iscrate_any x h w0)
  rw [hx] at HR
  clear hx h
  go_enter Try.func18, Try.ntmps18
  go_wp2_with fail
  refine (HR.out _).mono ?_
  rintro r w1 ⟨rfl, rfl⟩
  go_wp2_with fail
  refine bodyPost_ret (by simp [results, Try.results18, go_sem]; try rfl) rfl ?_
  exact ⟨rfl, rfl⟩

theorem rcrated_any (x : Nat) (hx : x < 18446744073709551616) (w : World) : Calls Try.prog 19 #[.float .f64 x] w fun e w' => e = .returned (.bool (crated x)) ∧ w' = w := by
  have HR := Lib.hid (fun w0 => rrated_any x hx w0)
  have key : (rated x = false ∧ crated x = false) ∨ rated x = true := by
    cases h : rated x with
    | true => exact .inr rfl
    | false =>
      refine .inl ⟨rfl, ?_⟩
      cases h2 : crated x with
      | false => rfl
      | true => rw [crated_rated h2] at h; cases h
  rcases key with ⟨e1, e2⟩ | e1
  · rw [e2]
    rw [e1] at HR
    clear e1 e2
    go_enter Try.func19, Try.ntmps19
    go_wp2_with fail
    refine (HR.out _).mono ?_
    rintro r w1 ⟨rfl, rfl⟩
    go_wp2_with fail
    go_ret
    exact ⟨rfl, rfl⟩
  · have hr := e1
    rw [e1] at HR
    clear e1
    have hd : crated x = decide (x < 4576918229304087675 ∨ x = 4576918229304087675 ∨ x = 9223372036854775808) := by
      unfold crated; rw [decide_eq_decide]; omega
    have hr2 : x ≤ 4607182418800017408 ∨ x = 9223372036854775808 := by unfold rated at hr; simpa using hr
    have HH := Lib.hid hd
    clear hr hd
    go_enter Try.func19, Try.ntmps19
    go_wp2_with fail
    refine (HR.out _).mono ?_
    rintro r w1 ⟨rfl, rfl⟩
    go_wp2
    all_goals go_ret
    all_goals
      refine ⟨?_, rfl⟩
      rw [HH.out]
      refine ret_bool ?_
      rw [Bool.eq_iff_iff]
      simp
      omega

theorem r64 (n : Int) (h : -9223372036854775808 ≤ n ∧ n < 9223372036854775808) : R64 n := h

end Go.Proofs.Ytjpalcolhagpcaa
