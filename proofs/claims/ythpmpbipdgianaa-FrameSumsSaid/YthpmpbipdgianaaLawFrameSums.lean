/- Every text has the document's sum: FrameSums answers true at every text. No condition. -/
import Derived.Test.YthpmpbipdgianaaFrameZ
namespace Go.Proofs.Ythpmpbipdgianaa.frameSums
open Go.ChangeShapes Go.WideShapes Go.ChangeAt Go.RowKit Go.Fm
set_option linter.unusedVariables false
set_option linter.unusedSimpArgs false

set_option maxHeartbeats 4000000 in
theorem walk (l : List UInt8) (hl : l.length ≤ 9223372036854775807) (w : World) : Calls Try.prog 3 #[.string (txt l)] w fun e w' => e = .returned (.bool true) ∧ Below w.heap.size w w' := by
  have HBY := Lib.hid (bytes_any l 2000 w hl (by omega))
  have htl : (l.take 2000).length ≤ 2000 := by rw [List.length_take]; omega
  generalize l.take 2000 = b at *
  go_enter Try.func3, Try.ntmps3
  go_wp2_with fail
  refine HBY.out.mono ?_
  rintro e w1 ⟨g, c, rfl, hc1, hc2, hsee, hb1, -⟩
  have HB1 := Lib.hid hb1
  have HSE := Lib.hid hsee
  have HCV := Lib.hid (fun w0 (h : Below w1.heap.size w1 w0) => conv_bytes b (some ⟨g, 0, none⟩) c w1.heap.size w0 (hsee.below h))
  have HSU := Lib.hid (fun w0 (h : Below w1.heap.size w1 w0) => sum_any w1.heap.size (some ⟨g, 0, none⟩) c b w0 (hsee.below h) hc1 hc2)
  have HRS := Lib.hid (fun w0 => rsum_any (txt b) w0 (by rw [txt_size]; omega))
  rw [txt_list] at HRS
  clear hb1 hsee
  generalize crc b = q at *
  go_wp2_with fail
  have HD : Hid (∀ w0, Below w1.drew.heap.size w1.drew w0 → Below w1.heap.size w1 w0) := Lib.hid (fun w0 h => (drew_below w1 1).trans h)
  go_region_with (first
    | (go_at_call 12; refine (awake_any _).mono ?_; rintro e w2 ⟨rfl, hb⟩; have HBa := Lib.hid (HD.out _ hb); have hcv := HCV.out _ HBa.out; clear hb)
    | (go_at_call 13; refine (HSU.out _ (by first | exact HBr.out | exact HBa.out)).mono ?_; rintro e w3 ⟨rfl, rfl⟩)
    | (go_at_call 14; refine (HRS.out _).mono ?_; rintro e w4 ⟨rfl, hb⟩; have HBr := Lib.hid (HBa.out.trans (hb.mono HBa.out.size)); have hcv2 := HCV.out _ HBr.out; clear hb))
  all_goals go_wp2
  all_goals go_ret
  all_goals exact ⟨by first | rfl | (simp [go_sem]), HB1.out.trans (HBr.out.mono HB1.out.size)⟩

set_option maxRecDepth 100000 in
theorem lifted (os : Os) (started : os.Started) (H : Type) (enc : TypeId × Value → H) :
    ReturnsInHanded {} Try.checked os 3 .any (Rows.frameSumsSpec.pre6 enc Try.prog Try.f3 Rows.frameSumsRow.domain false) (Rows.frameSumsSpec.post enc Try.prog Try.f3 false true false false) := by
  refine returnsInHanded_of_change (C := Try.checked) own started (by kernel_rfl) Try.func3
    (ChangeSpec.witness6 (enc := enc) (C := Try.checked) false ⟨#[], #[.string ⟨#[]⟩], []⟩ 8 (by kernel_rfl) (by kernel_rfl) (by kernel_rfl) (by kernel_rfl)) ?_
  intro W base args ds gs before hval0 hW hcnd _
  have hval : ∀ (j : Nat) t v, Try.f3.params[j]? = some t → args[j]? = some v → Value.okWide Try.prog W .any base t v := hval0
  have hW' := hW
  obtain ⟨p, q, hA0, hV, rfl, hfz, hnd⟩ := hW
  have hA : DataW.TrodAll enc Try.prog W 0 (fun _ => true) true Try.f3.params.toList args.toList ds p := hA0
  rw [Try.params3] at hA hval
  obtain ⟨v0, vs0, d0, ds0, p0, q0, hargs, rfl, rfl, h0, r0⟩ := trodAll_cons hA
  obtain ⟨rfl, rfl, rfl⟩ := trodAll_nil r0
  obtain rfl : args = #[v0] := by cases args; simp_all
  obtain ⟨rfl, rfl⟩ := trodVars_none hV
  obtain ⟨a0, rfl⟩ := okWide_string Try.underlying9 (hval 0 9 v0 rfl rfl)
  have w0 : a0.size ≤ maxLen := by
    obtain ⟨m, hm⟩ := h0
    obtain ⟨s, hs, _, hl⟩ := DataW.trod_string Try.underlying9 hm
    simp [Value.cells] at hs
    rw [hs]; exact hl
  obtain ⟨l0, rfl⟩ : ∃ l, a0 = txt l := ⟨a0.data.toList, (txt_of _).symm⟩
  rw [txt_size] at w0; unfold maxLen at w0
  have lt0 : ∀ x ∈ p0, x.block < W.heap.size := by obtain ⟨m, hm⟩ := h0; exact DataW.trod_lt m _ _ _ hm
  clear hA0 hval0
  simp only [List.append_nil] at hW'
  refine (walk l0 w0 W ).mono fun e W' ⟨he, bel⟩ => ?_
  subst he
  exact ⟨_, rfl, _, _, _, [], _, [], hW', trodAll_mk1 (shut_bool Try.underlying4 _), (trodAll_cons_mk (Below.trod laidOut (by kernel_rfl) (of_decide_eq_true (by kernel_rfl)) h0 bel lt0) trodAll_mk0), rfl, bel.frame _, fun h => by cases h⟩

theorem proved : Rows.FrameSumsSaid :=
  OpenClaim.holds_of_wide 3 Try.f3 rfl rfl rfl rfl rfl rfl rfl ⟨rfl, rfl, rfl, rfl, rfl⟩ rfl rfl rfl rfl rfl (by kernel_rfl) Try.func3 (by kernel_rfl)
    (of_decide_eq_true (by kernel_rfl)) (by unfold Func.isWrapper; first | (rw [if_pos (by decide +kernel)]; kernel_rfl) | (rw [if_neg (by decide +kernel)]; exact ⟨rfl, rfl⟩))
    (fun os started H enc _ => lifted os started H enc)
#print axioms proved
end Go.Proofs.Ythpmpbipdgianaa.frameSums
