/- Every product of an int64 and a float is the document's, exact and cut downwards, or refused: NumTimes answers true at every int64 and float. No condition. -/
import Derived.Test.YtjicdbkpklikfaaNumO
namespace Go.Proofs.Ytjicdbkpklikfaa.numTimes
open Go.ChangeShapes Go.WideShapes Go.ChangeAt Go.RowKit Go.Fl
set_option linter.unusedVariables false

theorem walk (a0 : Int) (a1 : Nat) (w0 : (Lit.int .i64 a0).wf = true) (w1 : (Lit.float .f64 a1).wf = true) (w : World) :
    Calls Try.prog 6 #[.int .i64 a0, .float .f64 a1] w fun e w' => e = .returned (.bool true) ∧ Kp w w' := by
  have h0 := i64_lt w0
  have h1 := f64_lt w1
  clear w0 w1
  obtain ⟨v, c, hv⟩ := prodR_shape a0 a1 false
  have HV := Lib.hid hv
  have HW : Hid (timesR a0 a1 = .tuple #[.int .i64 v, .int .i64 c]) := Lib.hid (by rw [← prodR_times, hv])
  clear hv
  go_enter Try.func6, Try.ntmps6
  go_wp2_with fail
  refine (times_any a0 a1 h1 h0.1 h0.2 _).mono ?_
  rintro e w2 ⟨rfl, hg2⟩
  rw [HW.out]
  go_wp2_with fail
  refine (rprod_any a0 a1 false h1 h0.1 h0.2 _).mono ?_
  rintro e w3 ⟨rfl, hg3⟩
  rw [HV.out]
  go_wp2_with fail
  refine (awake_any _).mono ?_
  rintro e wa ⟨rfl, hg⟩
  go_wp2_with fail
  go_ret
  exact ⟨by first | rfl | simp, grown_trans hg2 (grown_trans hg3 hg)⟩
theorem own : ownKnob Try.prog.godebug = none := by kernel_rfl
set_option maxRecDepth 100000 in
theorem lifted (os : Os) (started : os.Started) (H : Type) (enc : TypeId × Value → H) :
    ReturnsInHanded {} Try.checked os 6 .any (Rows.numTimesSpec.pre6 enc Try.prog Try.f6 Rows.numTimesRow.domain false) (Rows.numTimesSpec.post enc Try.prog Try.f6 false true false false) := by
  refine returnsInHanded_of_change (C := Try.checked) own started (by kernel_rfl) Try.func6
    (ChangeSpec.witness6 (enc := enc) (C := Try.checked) false ⟨#[], #[.int .i64 0, .float .f64 0], []⟩ 8 (by kernel_rfl) (by kernel_rfl) (by kernel_rfl) (by kernel_rfl)) ?_
  intro W base args ds gs before hval0 hW hcnd _
  have hval : ∀ (j : Nat) t v, Try.f6.params[j]? = some t → args[j]? = some v → Value.okWide Try.prog W .any base t v := hval0
  have hW' := hW
  obtain ⟨p, q, hA0, hV, rfl, hfz, hnd⟩ := hW
  have hA : DataW.TrodAll enc Try.prog W 0 (fun _ => true) true Try.f6.params.toList args.toList ds p := hA0
  rw [Try.params6] at hA hval
  obtain ⟨v0, vs0, d0, ds0, p0, q0, hargs, rfl, rfl, h0, r0⟩ := trodAll_cons hA
  obtain ⟨v1, vs1, d1, ds1, p1, q1, rfl, rfl, rfl, h1, r1⟩ := trodAll_cons r0
  obtain ⟨rfl, rfl, rfl⟩ := trodAll_nil r1
  obtain rfl : args = #[v0, v1] := by cases args; simp_all
  obtain ⟨rfl, rfl⟩ := trodVars_none hV
  obtain ⟨a0, rfl, rfl, rfl, w0⟩ := open_int Try.underlying2 (hval 0 2 v0 rfl rfl) h0
  obtain ⟨a1, rfl, rfl, rfl, w1⟩ := open_float Try.underlying22 (hval 1 22 v1 rfl rfl) h1
  clear hA0 hval0
  simp only [List.append_nil] at hW'
  refine (walk a0 a1 w0 w1 W).mono fun e W' ⟨he, hg⟩ => ?_
  subst he
  exact ⟨_, rfl, _, _, _, [], _, [], hW', trodAll_mk1 (shut_bool Try.underlying4 _), (trodAll_cons_mk (shut_int Try.underlying2 w0) (trodAll_cons_mk (shut_float Try.underlying22 w1) trodAll_mk0)), rfl, hg.frame _, fun h => by cases h⟩

theorem proved : Rows.NumTimesSaid :=
  OpenClaim.holds_of_wide 6 Try.f6 rfl rfl rfl rfl rfl rfl rfl ⟨rfl, rfl, rfl, rfl, rfl⟩ rfl rfl rfl rfl rfl (by kernel_rfl) Try.func6 (by kernel_rfl)
    (of_decide_eq_true (by kernel_rfl)) (by unfold Func.isWrapper; first | (rw [if_pos (by decide +kernel)]; kernel_rfl) | (rw [if_neg (by decide +kernel)]; exact ⟨rfl, rfl⟩))
    (fun os started H enc _ => lifted os started H enc)
#print axioms proved
end Go.Proofs.Ytjicdbkpklikfaa.numTimes
