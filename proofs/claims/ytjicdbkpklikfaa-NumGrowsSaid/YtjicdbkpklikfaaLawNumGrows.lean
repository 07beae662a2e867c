/- A greater number has no lesser product with a float that is not below 0: NumGrows answers true at every two int64 and float. No condition. -/
import Derived.Test.YtjicdbkpklikfaaNumA
namespace Go.Proofs.Ytjicdbkpklikfaa.numGrows
open Go.ChangeShapes Go.WideShapes Go.ChangeAt Go.RowKit Go.Fl
set_option linter.unusedVariables false

theorem cls_sz (x : Nat) (hx : x < 18446744073709551616) (h : 3 ≤ cls x) : 0 ≤ sz x := by
  unfold sz
  by_cases g : 9223372036854775808 ≤ x
  · rw [if_pos g]
    have : x = 9223372036854775808 := by unfold cls at h; revert h; (repeat' split) <;> omega
    subst this; decide
  · rw [if_neg g]; omega
theorem prod_grows (n m : Int) (x : Nat) (h : n ≤ m) (hs : 0 ≤ sz x) : prodF n x ≤ prodF m x := by
  unfold prodF
  exact Int.ediv_le_ediv (by have := unit_pos; omega) (Int.mul_le_mul_of_nonneg_right h hs)
theorem timesR_val (n : Int) (x : Nat) : ∃ v c : Int, timesR n x = .tuple #[.int .i64 v, .int .i64 c] ∧ (c = 0 → nan x = false ∧ inf x = false ∧ v = prodF n x) := by
  unfold timesR fitV
  cases hn : nan x
  · cases hi : inf x
    · refine ⟨_, _, rfl, fun h => ⟨rfl, rfl, ?_⟩⟩
      revert h; split
      · intro _; rfl
      · intro g; cases g
    · cases h0 : (n == 0)
      · exact ⟨_, _, rfl, fun h => by cases h⟩
      · exact ⟨_, _, rfl, fun h => by cases h⟩
  · exact ⟨_, _, rfl, fun h => by cases h⟩
theorem walk (a0 a1 : Int) (a2 : Nat) (w0 : (Lit.int .i64 a0).wf = true) (w1 : (Lit.int .i64 a1).wf = true) (w2 : (Lit.float .f64 a2).wf = true) (w : World) :
    Calls Try.prog 11 #[.int .i64 a0, .int .i64 a1, .float .f64 a2] w fun e w' => e = .returned (.bool true) ∧ Grown w w' := by
  have h0 := i64_lt w0
  have h1 := i64_lt w1
  have h2 := f64_lt w2
  clear w0 w1 w2
  obtain ⟨v, c, e1, k1⟩ := timesR_val a0 a2
  obtain ⟨v', c', e2, k2⟩ := timesR_val a1 a2
  have K : Hid (a0 ≤ a1 → 3 ≤ cls a2 → c = 0 → c' = 0 → v ≤ v') := Lib.hid fun g s z z' => by
    rw [(k1 z).2.2, (k2 z').2.2]; exact prod_grows _ _ _ g (cls_sz a2 h2 s)
  clear k1 k2
  have E1 := Lib.hid e1
  have E2 := Lib.hid e2
  clear e1 e2
  go_enter Try.func11, Try.ntmps11
  go_wp2_with fail
  refine (awake_any _).mono ?_
  rintro e wa ⟨rfl, hg⟩
  go_wp2_with fail
  · refine (cls_any a2 h2 _).mono ?_
    rintro e w2 ⟨rfl, rfl⟩
    go_wp2_with fail
    · refine (awake_any _).mono ?_
      rintro e w3 ⟨rfl, hg3⟩
      go_wp2_with fail
      go_ret
      exact ⟨rfl, grown_trans hg hg3⟩
    · refine (times_any a0 a2 h2 (by omega) (by omega) _).mono ?_
      rintro e w3 ⟨rfl, hg3⟩
      rw [E1.out]
      go_wp2_with fail
      refine (times_any a1 a2 h2 (by omega) (by omega) _).mono ?_
      rintro e w4 ⟨rfl, hg4⟩
      rw [E2.out]
      have hG := grown_trans hg (grown_trans hg3 hg4)
      have HG := Lib.hid hG
      by_cases z1 : c = 0
      · by_cases z2 : c' = 0
        · have hvv : v ≤ v' := K.out (by omega) (by omega) z1 z2
          subst z1
          subst z2
          go_wp2_with fail
          go_ret
          exact ⟨rfl, HG.out⟩
        · have z2 : (c' != 0) = true := by simpa using z2
          subst z1
          go_wp2_with fail
          go_ret
          exact ⟨rfl, HG.out⟩
      · have z1 : (c != 0) = true := by simpa using z1
        go_wp2_with fail
        go_ret
        exact ⟨rfl, HG.out⟩
  · refine (awake_any _).mono ?_
    rintro e w3 ⟨rfl, hg3⟩
    go_wp2_with fail
    go_ret
    exact ⟨rfl, grown_trans hg hg3⟩
theorem own : ownKnob Try.prog.godebug = none := by kernel_rfl
set_option maxRecDepth 100000 in
theorem lifted (os : Os) (started : os.Started) (H : Type) (enc : TypeId × Value → H) :
    ReturnsInHanded {} Try.checked os 11 .any (Rows.numGrowsSpec.pre6 enc Try.prog Try.f11 Rows.numGrowsRow.domain false) (Rows.numGrowsSpec.post enc Try.prog Try.f11 false true false false) := by
  refine returnsInHanded_of_change (C := Try.checked) own started (by kernel_rfl) Try.func11
    (ChangeSpec.witness6 (enc := enc) (C := Try.checked) false ⟨#[], #[.int .i64 0, .int .i64 0, .float .f64 0], []⟩ 8 (by kernel_rfl) (by kernel_rfl) (by kernel_rfl) (by kernel_rfl)) ?_
  intro W base args ds gs before hval0 hW hcnd _
  have hval : ∀ (j : Nat) t v, Try.f11.params[j]? = some t → args[j]? = some v → Value.okWide Try.prog W .any base t v := hval0
  have hW' := hW
  obtain ⟨p, q, hA0, hV, rfl, hfz, hnd⟩ := hW
  have hA : DataW.TrodAll enc Try.prog W 0 (fun _ => true) true Try.f11.params.toList args.toList ds p := hA0
  rw [Try.params11] at hA hval
  obtain ⟨v0, vs0, d0, ds0, p0, q0, hargs, rfl, rfl, h0, r0⟩ := trodAll_cons hA
  obtain ⟨v1, vs1, d1, ds1, p1, q1, rfl, rfl, rfl, h1, r1⟩ := trodAll_cons r0
  obtain ⟨v2, vs2, d2, ds2, p2, q2, rfl, rfl, rfl, h2, r2⟩ := trodAll_cons r1
  obtain ⟨rfl, rfl, rfl⟩ := trodAll_nil r2
  obtain rfl : args = #[v0, v1, v2] := by cases args; simp_all
  obtain ⟨rfl, rfl⟩ := trodVars_none hV
  obtain ⟨a0, rfl, rfl, rfl, w0⟩ := open_int Try.underlying2 (hval 0 2 v0 rfl rfl) h0
  obtain ⟨a1, rfl, rfl, rfl, w1⟩ := open_int Try.underlying2 (hval 1 2 v1 rfl rfl) h1
  obtain ⟨a2, rfl, rfl, rfl, w2⟩ := open_float Try.underlying22 (hval 2 22 v2 rfl rfl) h2
  clear hA0 hval0
  simp only [List.append_nil] at hW'
  refine (walk a0 a1 a2 w0 w1 w2 W).mono fun e W' ⟨he, hg⟩ => ?_
  subst he
  exact ⟨_, rfl, post_of_same (pa := []) (pv := []) hW' (fun _ _ _ => (trodAll_cons_mk (shut_bool Try.underlying4 _) trodAll_mk0)) (fun sp _ => (trodAll_cons_mk (shut_int Try.underlying2 w0) (trodAll_cons_mk (shut_int Try.underlying2 w1) (trodAll_cons_mk (shut_float Try.underlying22 w2) trodAll_mk0)))) (fun _ _ => rfl) rfl
    (hg.frame _) hg.2.1 (ok_one (by kernel_rfl) rfl (okWide_bool_mk Try.underlying4 _))⟩

theorem proved : Rows.NumGrowsSaid :=
  OpenClaim.holds_of_wide 11 Try.f11 rfl rfl rfl rfl rfl rfl rfl ⟨rfl, rfl, rfl, rfl, rfl⟩ rfl rfl rfl rfl rfl (by kernel_rfl) Try.func11 (by kernel_rfl)
    (of_decide_eq_true (by kernel_rfl)) (by unfold Func.isWrapper; first | (rw [if_pos (by decide +kernel)]; kernel_rfl) | (rw [if_neg (by decide +kernel)]; exact ⟨rfl, rfl⟩))
    (fun os started H enc _ => lifted os started H enc)
#print axioms proved
end Go.Proofs.Ytjicdbkpklikfaa.numGrows
