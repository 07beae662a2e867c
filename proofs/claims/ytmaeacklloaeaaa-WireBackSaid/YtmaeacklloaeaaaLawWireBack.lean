/- What was packed is unpacked: WireBack answers true at every list of values. No condition. -/
import Derived.Test.YtmaeacklloaeaaaWireZ
namespace Go.Proofs.Ytmaeacklloaeaaa.wireBack
open Go.ChangeShapes Go.WideShapes Go.ChangeAt Go.RowKit Go.Fl Go.Wr
set_option linter.unusedVariables false
set_option linter.unusedSimpArgs false

theorem same_back (l : List Val) : sameL l (l.map nrm) = true := (sameL_iff l _).2 (map_nrm l).symm
theorem nrm_f (l : List Val) (h : ∀ v ∈ l, v.wf) : ∀ v ∈ l.map nrm, v.f < 18446744073709551616 := by
  intro v hv
  obtain ⟨u, hu, rfl⟩ := List.mem_map.1 hv
  exact (nrm_wf (h u hu)).2.2.2.2.2.2.1
theorem wf_f (l : List Val) (h : ∀ v ∈ l, v.wf) : ∀ v ∈ l, v.f < 18446744073709551616 := fun v hv => (h v hv).2.2.2.2.2.2.1

set_option maxHeartbeats 1000000 in
theorem walk (A : Option Addr) (len cap : Nat) (l : List Val) (w : World) (hL : IsL w A len cap l) : Calls Try.prog 5 #[.slice A len cap] w fun e w' => e = .returned (.bool true) ∧ Below w.heap.size w w' := by
  obtain ⟨rfl, hwf, hs, hc1, hc2, -⟩ := hL
  have HF := Lib.hid (few_any w.heap.size A cap l w hs (Nat.le_refl _) hc1 hc2)
  have HW := Lib.hid hwf
  have HS := Lib.hid hs
  clear hs hwf
  cases hfew : fewB l with
  | false =>
    rw [hfew] at HF
    clear hfew
    go_enter Try.func5, Try.ntmps5
    go_wp2_with fail
    refine HF.out.mono ?_
    rintro e w1 ⟨rfl, rfl⟩
    go_wp2_with fail
    refine (awake_any _).mono ?_
    rintro e w2 ⟨rfl, hb2⟩
    have HB2 := Lib.hid hb2
    clear hb2
    go_wp2_with fail
    go_ret
    exact ⟨rfl, HB2.out⟩
  | true =>
    rw [hfew] at HF
    clear hfew
    go_enter Try.func5, Try.ntmps5
    go_wp2_with fail
    refine HF.out.mono ?_
    rintro e w1 ⟨rfl, rfl⟩
    go_wp2_with fail
    refine (pack_any _ A cap l _ HW.out HS.out (Nat.le_refl _) hc1 hc2).mono ?_
    rintro e w1 ⟨v1, rfl, ho1, hb1⟩
    obtain ⟨A1, c1, rfl, hx1, hx2⟩ := ho1.slice
    have HO1 := Lib.hid ho1
    have HB1 := Lib.hid hb1
    clear ho1 hb1
    by_cases hE : packE l = 0
    · have HE := Lib.hid hE
      have hlen := ((packE_zero l).1 hE).1
      have hpb : packB l = encs l := by unfold packB; rw [if_pos hE]
      obtain ⟨m, hm⟩ : ∃ m, m = l.map nrm := ⟨_, rfl⟩
      have hbk := back l (good_of l HW.out hE) hlen
      have hsm := same_back l
      have hmf := nrm_f l HW.out
      rw [← hm] at hbk hsm hmf
      have HBK := Lib.hid hbk
      have HSM := Lib.hid hsm
      have HMF := Lib.hid hmf
      clear hm hbk hsm hmf
      rw [hE]
      rw [hpb] at HO1 hx1 ⊢
      clear hE hpb
      go_wp2_with fail
      refine (awake_any _).mono ?_
      rintro e w2 ⟨rfl, hb2⟩
      have HO2 := Lib.hid (HO1.out.keep hb2 (Nat.le_refl _))
      have HB2 := Lib.hid (HB1.out.trans (hb2.mono HB1.out.size))
      clear hb2
      go_wp2_with fail
      refine (unpack_any _ A1 c1 (encs l) _ (HO2.out.sees rfl) (Nat.le_refl _) hx1 (by unfold maxLen at hx2; exact hx2)).mono ?_
      rintro e w3 ⟨v3, rfl, ho3, hb3⟩
      rw [HBK.out] at ho3 ⊢
      obtain ⟨A3, c3, rfl, hy1, hy2⟩ := ho3.slice
      have HO3 := Lib.hid ho3
      have HB3 := Lib.hid (HB2.out.trans (hb3.mono HB2.out.size))
      have hz3 := HB3.out.size
      clear ho3 hb3
      go_wp2_with fail
      refine (all_any _ _ A A3 cap c3 l m _ (by omega) (wf_f l HW.out) HMF.out (HS.out.below HB3.out) (HO3.out.sees rfl) hz3 (Nat.le_refl _) hc1 hy1 hc2 (by unfold maxLen at hy2; exact hy2)).mono ?_
      rintro e w4 ⟨rfl, hb4⟩
      rw [HSM.out]
      have HB4 := Lib.hid (HB3.out.trans (hb4.mono HB3.out.size))
      clear hb4
      go_wp2_with fail
      go_ret
      exact ⟨rfl, HB4.out⟩
    · have hne : (packE l != 0) = true := by simpa using hE
      clear hE
      generalize packE l = x at *
      go_wp2_with fail
      refine (awake_any _).mono ?_
      rintro e w2 ⟨rfl, hb2⟩
      have HB2 := Lib.hid (HB1.out.trans (hb2.mono HB1.out.size))
      clear hb2
      go_wp2_with fail
      refine (awake_any _).mono ?_
      rintro e w3 ⟨rfl, hb3⟩
      have HB3 := Lib.hid (HB2.out.trans (hb3.mono HB2.out.size))
      clear hb3
      go_wp2_with fail
      go_ret
      exact ⟨rfl, HB3.out⟩

set_option maxRecDepth 100000 in
theorem lifted (os : Os) (started : os.Started) (H : Type) (enc : TypeId × Value → H) :
    ReturnsInHanded {} Try.checked os 5 .any (Rows.wireBackSpec.pre6 enc Try.prog Try.f5 Rows.wireBackRow.domain false) (Rows.wireBackSpec.post enc Try.prog Try.f5 false true false false) := by
  refine returnsInHanded_of_change (C := Try.checked) own started (by kernel_rfl) Try.func5
    (ChangeSpec.witness6 (enc := enc) (C := Try.checked) false ⟨#[], #[.slice none 0 0], []⟩ 8 (by kernel_rfl) (by kernel_rfl) (by kernel_rfl) (by kernel_rfl)) ?_
  intro W base args ds gs before hval0 hW hcnd _
  have hval : ∀ (j : Nat) t v, Try.f5.params[j]? = some t → args[j]? = some v → Value.okWide Try.prog W .any base t v := hval0
  have hW' := hW
  obtain ⟨p, q, hA0, hV, rfl, hfz, hnd⟩ := hW
  have hA : DataW.TrodAll enc Try.prog W 0 (fun _ => true) true Try.f5.params.toList args.toList ds p := hA0
  rw [Try.params5] at hA hval
  obtain ⟨v0, vs0, d0, ds0, p0, q0, hargs, rfl, rfl, h0, r0⟩ := trodAll_cons hA
  obtain ⟨rfl, rfl, rfl⟩ := trodAll_nil r0
  obtain rfl : args = #[v0] := by cases args; simp_all
  obtain ⟨rfl, rfl⟩ := trodVars_none hV
  obtain ⟨A0, len0, cap0, rfl⟩ := okWide_slice Try.underlying22 (hval 0 22 v0 rfl rfl)
  obtain ⟨a0, w0⟩ := open_vals h0
  have lt0 : ∀ x ∈ p0, x.block < W.heap.size := by obtain ⟨m, hm⟩ := h0; exact DataW.trod_lt m _ _ _ hm
  clear hA0 hval0
  simp only [List.append_nil] at hW'
  refine (walk A0 len0 cap0 a0 W w0).mono fun e W' ⟨he, bel⟩ => ?_
  subst he
  exact ⟨_, rfl, _, _, _, [], _, [], hW', trodAll_mk1 (shut_bool Try.underlying4 _), (trodAll_cons_mk (Below.trod laidOut (by kernel_rfl) (of_decide_eq_true (by kernel_rfl)) h0 bel lt0) trodAll_mk0), rfl, bel.frame _, fun h => by cases h⟩

theorem proved : Rows.WireBackSaid :=
  OpenClaim.holds_of_wide 5 Try.f5 rfl rfl rfl rfl rfl rfl rfl ⟨rfl, rfl, rfl, rfl, rfl⟩ rfl rfl rfl rfl rfl (by kernel_rfl) Try.func5 (by kernel_rfl)
    (of_decide_eq_true (by kernel_rfl)) (by unfold Func.isWrapper; first | (rw [if_pos (by decide +kernel)]; kernel_rfl) | (rw [if_neg (by decide +kernel)]; exact ⟨rfl, rfl⟩))
    (fun os started H enc _ => lifted os started H enc)
#print axioms proved
end Go.Proofs.Ytmaeacklloaeaaa.wireBack
