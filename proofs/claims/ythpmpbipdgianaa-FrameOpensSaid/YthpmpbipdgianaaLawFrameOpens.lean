/- Any bytes begin with the document's frame, or are refused for its reason: FrameOpens answers true at every text. No condition. -/
import Derived.Test.YthpmpbipdgianaaFrameZ
namespace Go.Proofs.Ythpmpbipdgianaa.frameOpens
open Go.ChangeShapes Go.WideShapes Go.ChangeAt Go.RowKit Go.Fm
set_option linter.unusedVariables false
set_option linter.unusedSimpArgs false

theorem eq_txt (l : List UInt8) : (l == (txt l).toList) = true := by rw [ByteArray.toList_eq, txt_list]; simp
set_option maxHeartbeats 4000000 in
theorem walk (l : List UInt8) (hl : l.length ≤ 9223372036854775807) (w : World) : Calls Try.prog 5 #[.string (txt l)] w fun e w' => e = .returned (.bool true) ∧ Below w.heap.size w w' := by
  have HBY := Lib.hid (bytes_any l 3000 w hl (by omega))
  have htl : (l.take 3000).length ≤ 3000 := by rw [List.length_take]; omega
  generalize l.take 3000 = b at *
  go_enter Try.func5, Try.ntmps5
  go_wp2_with fail
  refine HBY.out.mono ?_
  rintro e w1 ⟨g, c, rfl, hc1, hc2, hsee, hb1, -⟩
  have HB1 := Lib.hid hb1
  have HX1 := Lib.hid hsee
  have HZ1 := hb1.size
  have hop := open_any _ _ c b w1 hsee (Nat.le_refl _) hc1 hc2
  unfold Opens at hop
  have HOP := Lib.hid hop
  have HRO := Lib.hid (fun w0 => ropen_any b w0 (by omega))
  unfold ROpens at HRO
  have hst := eq_txt (opened b).1
  have hll : (opened b).1.length ≤ 9223372036854775807 := by
    by_cases h : (opened b).2.2 = 0
    · have e : opened b = ((opened b).1, (opened b).2.1, 0) := by rw [← h]
      have := (opened_only e).1
      omega
    · rw [(opened_err b h).1]; simp
  clear hop hb1 hsee
  generalize (opened b).2.2 = E at *
  generalize (opened b).2.1 = N at *
  generalize (opened b).1 = L at *
  go_wp2_with fail
  refine HOP.out.mono ?_
  rintro e w2 ⟨A2, c2, rfl, hc21, hc22, hsee2, hb2⟩
  have HB2 := Lib.hid (HB1.out.trans (hb2.mono HZ1))
  have HZ2 := HB2.out.size
  have HX2 := Lib.hid hsee2
  have hcv := conv_bytes b (some ⟨g, 0, none⟩) c w1.heap.size w2 (HX1.out.below hb2)
  clear hb2 hsee2
  go_wp2_with fail
  refine (HRO.out _).mono ?_
  rintro e w3 ⟨rfl, hb3⟩
  have HB3 := Lib.hid (HB2.out.trans (hb3.mono HZ2))
  have HX3 := Lib.hid (HX2.out.below hb3)
  have hz3 := hb3.size
  clear hcv hb3
  go_wp2_with fail
  refine (awake_any _).mono ?_
  rintro e w4 ⟨rfl, hb4⟩
  have HB4 := Lib.hid (HB3.out.trans (hb4.mono HB3.out.size))
  have hcv2 := conv_bytes L A2 c2 w2.heap.size w4 (HX3.out.below (hb4.mono hz3))
  clear hb4
  go_wp2_with fail
  go_ret
  exact ⟨rfl, HB4.out⟩

set_option maxRecDepth 100000 in
theorem lifted (os : Os) (started : os.Started) (H : Type) (enc : TypeId × Value → H) :
    ReturnsInHanded {} Try.checked os 5 .any (Rows.frameOpensSpec.pre6 enc Try.prog Try.f5 Rows.frameOpensRow.domain false) (Rows.frameOpensSpec.post enc Try.prog Try.f5 false true false false) := by
  refine returnsInHanded_of_change (C := Try.checked) own started (by kernel_rfl) Try.func5
    (ChangeSpec.witness6 (enc := enc) (C := Try.checked) false ⟨#[], #[.string ⟨#[]⟩], []⟩ 8 (by kernel_rfl) (by kernel_rfl) (by kernel_rfl) (by kernel_rfl)) ?_
  intro W base args ds gs before hval0 hW hcnd _
  have hval : ∀ (j : Nat) t v, Try.f5.params[j]? = some t → args[j]? = some v → Value.okWide Try.prog W .any base t v := hval0
  have hW' := hW
  obtain ⟨p, q, hA0, hV, rfl, hfz, hnd⟩ := hW
  have hA : DataW.TrodAll enc Try.prog W 0 (fun _ => true) true Try.f5.params.toList args.toList ds p := hA0
  rw [Try.params5] at hA hval
  obtain ⟨v0, vs0, d0, ds0, p0, q0, hargs, rfl, rfl, h0, r0⟩ := trodAll_cons hA
  obtain ⟨rfl, rfl, rfl⟩ := trodAll_nil r0
  obtain rfl : args = #[v0] := by cases args; simp_all
  obtain ⟨rfl, rfl⟩ := trodVars_none hV
  obtain ⟨a0, rfl⟩ := okWide_string Try.underlying9 (hval 0 9 v0 rfl rfl)
  have w0 : a0.size ≤ maxLen := by
    obtain ⟨m, hm⟩ := h0
    obtain ⟨s, hs, _, hl⟩ := DataW.trod_string Try.underlying9 hm
    simp [Value.cells] at hs
    rw [hs]; exact hl
  obtain ⟨l0, rfl⟩ : ∃ l, a0 = txt l := ⟨a0.data.toList, (txt_of _).symm⟩
  rw [txt_size] at w0; unfold maxLen at w0
  have lt0 : ∀ x ∈ p0, x.block < W.heap.size := by obtain ⟨m, hm⟩ := h0; exact DataW.trod_lt m _ _ _ hm
  clear hA0 hval0
  simp only [List.append_nil] at hW'
  refine (walk l0 w0 W ).mono fun e W' ⟨he, bel⟩ => ?_
  subst he
  exact ⟨_, rfl, _, _, _, [], _, [], hW', trodAll_mk1 (shut_bool Try.underlying4 _), (trodAll_cons_mk (Below.trod laidOut (by kernel_rfl) (of_decide_eq_true (by kernel_rfl)) h0 bel lt0) trodAll_mk0), rfl, bel.frame _, fun h => by cases h⟩

theorem proved : Rows.FrameOpensSaid :=
  OpenClaim.holds_of_wide 5 Try.f5 rfl rfl rfl rfl rfl rfl rfl ⟨rfl, rfl, rfl, rfl, rfl⟩ rfl rfl rfl rfl rfl (by kernel_rfl) Try.func5 (by kernel_rfl)
    (of_decide_eq_true (by kernel_rfl)) (by unfold Func.isWrapper; first | (rw [if_pos (by decide +kernel)]; kernel_rfl) | (rw [if_neg (by decide +kernel)]; exact ⟨rfl, rfl⟩))
    (fun os started H enc _ => lifted os started H enc)
#print axioms proved
end Go.Proofs.Ythpmpbipdgianaa.frameOpens
