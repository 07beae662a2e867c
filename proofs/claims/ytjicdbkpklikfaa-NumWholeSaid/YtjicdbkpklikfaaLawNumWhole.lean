/- Every float is cut to the document's whole number, downwards and upwards, or refused: NumWhole answers true at every float. No condition. -/
import Derived.Test.YtjicdbkpklikfaaNumO
namespace Go.Proofs.Ytjicdbkpklikfaa.numWhole
open Go.ChangeShapes Go.WideShapes Go.ChangeAt Go.RowKit Go.Fl
set_option linter.unusedVariables false

theorem walk (a0 : Nat) (w0 : (Lit.float .f64 a0).wf = true) (w : World) :
    Calls Try.prog 5 #[.float .f64 a0] w fun e w' => e = .returned (.bool true) ∧ Kp w w' := by
  have h0 := f64_lt w0
  clear w0
  obtain ⟨v, c, hv⟩ := wholeR_shape (prodF 1 a0) a0
  obtain ⟨v', c', hv'⟩ := wholeR_shape (ceilP a0) a0
  have HV := Lib.hid hv
  have HV' := Lib.hid hv'
  clear hv hv'
  go_enter Try.func5, Try.ntmps5
  go_wp2_with fail
  refine (floor_any a0 h0 _).mono ?_
  rintro e w2 ⟨rfl, hg2⟩
  rw [HV.out]
  go_wp2_with fail
  refine (rfloor_any a0 h0 _).mono ?_
  rintro e w3 ⟨rfl, hg3⟩
  rw [HV.out]
  go_wp2_with fail
  refine (ceil_any a0 h0 _).mono ?_
  rintro e w4 ⟨rfl, hg4⟩
  rw [HV'.out]
  go_wp2_with fail
  refine (rceil_any a0 h0 _).mono ?_
  rintro e w5 ⟨rfl, hg5⟩
  rw [HV'.out]
  go_wp2_with fail
  refine (awake_any _).mono ?_
  rintro e wa ⟨rfl, hg⟩
  go_wp2_with fail
  go_ret
  exact ⟨by first | rfl | simp, grown_trans hg2 (grown_trans hg3 (grown_trans hg4 (grown_trans hg5 hg)))⟩
theorem own : ownKnob Try.prog.godebug = none := by kernel_rfl
set_option maxRecDepth 100000 in
theorem lifted (os : Os) (started : os.Started) (H : Type) (enc : TypeId × Value → H) :
    ReturnsInHanded {} Try.checked os 5 .any (Rows.numWholeSpec.pre6 enc Try.prog Try.f5 Rows.numWholeRow.domain false) (Rows.numWholeSpec.post enc Try.prog Try.f5 false true false false) := by
  refine returnsInHanded_of_change (C := Try.checked) own started (by kernel_rfl) Try.func5
    (ChangeSpec.witness6 (enc := enc) (C := Try.checked) false ⟨#[], #[.float .f64 0], []⟩ 8 (by kernel_rfl) (by kernel_rfl) (by kernel_rfl) (by kernel_rfl)) ?_
  intro W base args ds gs before hval0 hW hcnd _
  have hval : ∀ (j : Nat) t v, Try.f5.params[j]? = some t → args[j]? = some v → Value.okWide Try.prog W .any base t v := hval0
  have hW' := hW
  obtain ⟨p, q, hA0, hV, rfl, hfz, hnd⟩ := hW
  have hA : DataW.TrodAll enc Try.prog W 0 (fun _ => true) true Try.f5.params.toList args.toList ds p := hA0
  rw [Try.params5] at hA hval
  obtain ⟨v0, vs0, d0, ds0, p0, q0, hargs, rfl, rfl, h0, r0⟩ := trodAll_cons hA
  obtain ⟨rfl, rfl, rfl⟩ := trodAll_nil r0
  obtain rfl : args = #[v0] := by cases args; simp_all
  obtain ⟨rfl, rfl⟩ := trodVars_none hV
  obtain ⟨a0, rfl, rfl, rfl, w0⟩ := open_float Try.underlying22 (hval 0 22 v0 rfl rfl) h0
  clear hA0 hval0
  simp only [List.append_nil] at hW'
  refine (walk a0 w0 W).mono fun e W' ⟨he, hg⟩ => ?_
  subst he
  exact ⟨_, rfl, _, _, _, [], _, [], hW', trodAll_mk1 (shut_bool Try.underlying4 _), (trodAll_cons_mk (shut_float Try.underlying22 w0) trodAll_mk0), rfl, hg.frame _, fun h => by cases h⟩

theorem proved : Rows.NumWholeSaid :=
  OpenClaim.holds_of_wide 5 Try.f5 rfl rfl rfl rfl rfl rfl rfl ⟨rfl, rfl, rfl, rfl, rfl⟩ rfl rfl rfl rfl rfl (by kernel_rfl) Try.func5 (by kernel_rfl)
    (of_decide_eq_true (by kernel_rfl)) (by unfold Func.isWrapper; first | (rw [if_pos (by decide +kernel)]; kernel_rfl) | (rw [if_neg (by decide +kernel)]; exact ⟨rfl, rfl⟩))
    (fun os started H enc _ => lifted os started H enc)
#print axioms proved
end Go.Proofs.Ytjicdbkpklikfaa.numWhole
