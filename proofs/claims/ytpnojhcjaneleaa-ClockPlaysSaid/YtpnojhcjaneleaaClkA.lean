/- Contracts at layer 6: New; the document's Rated; awake. -/
import Derived.Test.YtpnojhcjaneleaaClkT
namespace Go.Proofs.Ytpnojhcjaneleaa
open Go.RowKit Go.Sp Go.Fl Go.Ck
set_option linter.unusedVariables false
set_option linter.unusedSimpArgs false
set_option maxRecDepth 100000

theorem clk_fresh (w : World) (x : Nat) : Clk (w.alloc (.cells #[.pointer none, .float .f64 x, .int .i64 0, .int .i64 0] 74)) w.heap.size (fresh x) :=
  ⟨none, Whole.fresh w _ _, fun _ => rfl, fun h => by cases h⟩
theorem new_yes (x : Nat) (hx : crated x = true) (w : World) : Calls Try.prog 10 #[.float .f64 x] w fun e w' => e = .returned (.tuple #[ptr w.heap.size, .int .i64 0]) ∧ Below w.heap.size w w' ∧ Clk w' w.heap.size (fresh x) := by
  have HR := Lib.hid (fun w0 => iscrate_any x (crated_num hx) w0)
  rw [hx] at HR
  clear hx
  go_enter Try.func10, Try.ntmps10
  go_wp2_with fail
  refine (HR.out _).mono ?_
  rintro r w1 ⟨rfl, rfl⟩
  go_wp2_with fail
  refine bodyPost_ret (by simp [results, Try.results10, go_sem]; try rfl) rfl ?_
  exact ⟨rfl, (Below.refl _ _).alloc (Nat.le_refl _) _, clk_fresh _ _⟩
theorem new_at (x : Nat) (hx : crated x = true) (w : World) (g : Nat) (hg : g = w.heap.size) : Calls Try.prog 10 #[.float .f64 x] w fun e w' => e = .returned (.tuple #[ptr g, .int .i64 0]) ∧ Below w.heap.size w w' ∧ Clk w' g (fresh x) := by
  subst hg
  exact new_yes x hx w
theorem new_no (x : Nat) (h : x < 18446744073709551616) (hx : crated x = false) (w : World) : Calls Try.prog 10 #[.float .f64 x] w fun e w' => e = .returned (.tuple #[.pointer none, .int .i64 60]) ∧ w' = w := by
  have HR := Lib.hid (fun w0 => iscrate_any x h w0)
  rw [hx] at HR
  clear hx h
  go_enter Try.func10, Try.ntmps10
  go_wp2_with fail
  refine (HR.out _).mono ?_
  rintro r w1 ⟨rfl, rfl⟩
  go_wp2_with fail
  refine bodyPost_ret (by simp [results, Try.results10, go_sem]; try rfl) rfl ?_
  exact ⟨rfl, rfl⟩

theorem rcrated_any (x : Nat) (hx : x < 18446744073709551616) (w : World) : Calls Try.prog 12 #[.float .f64 x] w fun e w' => e = .returned (.bool (crated x)) ∧ w' = w := by
  have HR := Lib.hid (fun w0 => rrated_any x hx w0)
  have key : (rated x = false ∧ crated x = false) ∨ rated x = true := by
    cases h : rated x with
    | true => exact .inr rfl
    | false =>
      refine .inl ⟨rfl, ?_⟩
      cases h2 : crated x with
      | false => rfl
      | true => rw [crated_rated h2] at h; cases h
  rcases key with ⟨e1, e2⟩ | e1
  · rw [e2]
    rw [e1] at HR
    clear e1 e2
    go_enter Try.func12, Try.ntmps12
    go_wp2_with fail
    refine (HR.out _).mono ?_
    rintro r w1 ⟨rfl, rfl⟩
    go_wp2_with fail
    go_ret
    exact ⟨rfl, rfl⟩
  · have hr := e1
    rw [e1] at HR
    clear e1
    have hd : crated x = decide (x < 4576918229304087675 ∨ x = 4576918229304087675 ∨ x = 9223372036854775808) := by
      unfold crated; rw [decide_eq_decide]; omega
    have hr2 : x ≤ 4607182418800017408 ∨ x = 9223372036854775808 := by unfold rated at hr; simpa using hr
    have HH := Lib.hid hd
    clear hr hd
    go_enter Try.func12, Try.ntmps12
    go_wp2_with fail
    refine (HR.out _).mono ?_
    rintro r w1 ⟨rfl, rfl⟩
    go_wp2
    all_goals go_ret
    all_goals
      refine ⟨?_, rfl⟩
      rw [HH.out]
      refine ret_bool ?_
      rw [Bool.eq_iff_iff]
      simp
      omega

def aw0 : Ck := (fresh 4576918229304087675).set 10 1000 3
def aw1 : Ck := aw0.now 10
def aw2 : Ck := aw1.now 110
theorem aw_facts : (fresh 4576918229304087675).setE 10 1000 3 = 0 ∧ aw0.nowE 10 = 0 ∧ aw0.nowL 10 = 997 ∧ aw0.nowH 10 = 1003 ∧ aw1.nowE 110 = 0 ∧ aw1.nowL 110 = 1095 ∧ aw1.nowH 110 = 1105 ∧ aw2.nowE 110 = 0 ∧ aw2.past 1000 110 = true := by decide +kernel
theorem aw_rate : crated 4576918229304087675 = true := by decide +kernel
theorem aw_ok : Ok aw0 ∧ Ok aw1 ∧ Ok aw2 := ⟨(Ok.fresh aw_rate).set _ _ _, ((Ok.fresh aw_rate).set _ _ _).now _, (((Ok.fresh aw_rate).set _ _ _).now _).now _⟩
theorem r64 (n : Int) (h : -9223372036854775808 ≤ n ∧ n < 9223372036854775808) : R64 n := h

set_option maxHeartbeats 4000000 in
theorem awake_any (w : World) : Calls Try.prog 11 #[] w fun e w' => e = .returned (.bool true) ∧ Below w.heap.size w w' := by
  have A := Lib.hid aw_facts
  go_enter Try.func11, Try.ntmps11
  go_wp2_with fail
  refine (new_yes _ aw_rate _).mono ?_
  rintro e w1 ⟨rfl, hb1, k1⟩
  have H : Hid (Lw w w1 [] w.heap.size (fresh 4576918229304087675)) := Lib.hid ⟨(St.start w).call hb1, k1, Nat.le_refl _, fun r hr => by cases hr⟩
  clear hb1 k1
  go_wp2_with fail
  refine (set_any _ _ 10 1000 3 (r64 _ (by omega)) (r64 _ (by omega)) (r64 _ (by omega)) _ H.out.clk).mono ?_
  rintro e w2 ⟨rfl, hb2, k2⟩
  rw [A.out.1]
  replace H : Hid (Lw w w2 [] w.heap.size aw0) := Lib.hid (H.out.turn hb2 k2)
  clear hb2 k2
  go_wp2_with fail
  refine (now_any _ aw0 aw_ok.1 10 (r64 _ (by omega)) _ H.out.clk).mono ?_
  rintro e w3 ⟨rfl, hb3, k3⟩
  rw [A.out.2.1, A.out.2.2.1, A.out.2.2.2.1]
  replace H : Hid (Lw w w3 [] w.heap.size aw1) := Lib.hid (H.out.turn hb3 k3)
  clear hb3 k3
  go_wp2_with fail
  replace H := Lib.hid (H.out.alloc w3.heap.size rfl 39 #[.int .i64 997, .int .i64 1003])
  refine (now_any _ aw1 aw_ok.2.1 110 (r64 _ (by omega)) _ H.out.clk).mono ?_
  rintro e w4 ⟨rfl, hb4, k4⟩
  rw [A.out.2.2.2.2.1, A.out.2.2.2.2.2.1, A.out.2.2.2.2.2.2.1]
  replace H := Lib.hid (show Lw w w4 _ w.heap.size aw2 from H.out.turn hb4 k4)
  clear hb4 k4
  go_wp2_with fail
  replace H := Lib.hid (H.out.alloc w4.heap.size rfl 39 #[.int .i64 1095, .int .i64 1105])
  refine (past_any _ aw2 aw_ok.2.2 1000 110 (r64 _ (by omega)) _ H.out.clk).mono ?_
  rintro e w5 ⟨rfl, hb5, k5⟩
  rw [A.out.2.2.2.2.2.2.2.1, A.out.2.2.2.2.2.2.2.2]
  replace H := Lib.hid (H.out.turn hb5 k5)
  clear hb5 k5
  obtain ⟨c0, e0, d0, f0, z0⟩ := H.out.st.two 0 w4.heap.size rfl
  obtain ⟨c1, e1, d1, f1, z1⟩ := H.out.st.two 1 w3.heap.size rfl
  go_wp2_with fail
  go_ret
  exact ⟨rfl, H.out.st.below⟩
end Go.Proofs.Ytpnojhcjaneleaa
