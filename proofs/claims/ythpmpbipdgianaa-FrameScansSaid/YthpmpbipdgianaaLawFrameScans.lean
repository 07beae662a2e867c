/- Any bytes have the document's frames, one behind the other: FrameScans answers true at every text. No condition. -/
import Derived.Test.YthpmpbipdgianaaFrameZ
namespace Go.Proofs.Ythpmpbipdgianaa.frameScans
open Go.ChangeShapes Go.WideShapes Go.ChangeAt Go.RowKit Go.Fm
set_option linter.unusedVariables false
set_option linter.unusedSimpArgs false

set_option maxHeartbeats 4000000 in
theorem walk (l : List UInt8) (hl : l.length ≤ 9223372036854775807) (w : World) : Calls Try.prog 6 #[.string (txt l)] w fun e w' => e = .returned (.bool true) ∧ Below w.heap.size w w' := by
  have HBY := Lib.hid (bytes_any l 3000 w hl (by omega))
  have htl : (l.take 3000).length ≤ 3000 := by rw [List.length_take]; omega
  generalize l.take 3000 = b at *
  go_enter Try.func6, Try.ntmps6
  go_wp2_with fail
  refine HBY.out.mono ?_
  rintro e w1 ⟨g, c, rfl, hc1, hc2, hsee, hb1, hg⟩
  have HB1 := Lib.hid hb1
  have HX1 := Lib.hid hsee
  have HZ1 := hb1.size
  have HSC := Lib.hid (scan_any _ g 0 c b w1 hsee hg (Nat.le_refl _) hc1 hc2 (by omega))
  have HRO := Lib.hid (fun w0 => rscan_any b w0 (by omega))
  have hsz := scan_sizes b
  unfold RScans at HRO
  unfold Scans at HSC
  clear hb1 hsee
  generalize (scan b).2 = N at *
  generalize (scan b).1 = ls at *
  go_wp2_with fail
  refine HSC.out.mono ?_
  rintro e w2 ⟨h2, g2, cs, v2, rfl, hsc⟩
  have HB2 := Lib.hid (HB1.out.trans (hsc.below.mono HZ1))
  have HZ2 := HB2.out.size
  have HX2 := Lib.hid (hsc.shows (by omega))
  have hcv := conv_bytes b (some ⟨g, 0, none⟩) c w1.heap.size w2 (HX1.out.below hsc.below)
  clear hsc
  go_wp2_with fail
  refine (HRO.out _).mono ?_
  rintro e w3 ⟨v3, rfl, ho3, hb3⟩
  obtain ⟨A3, c3, rfl, hc31, hc32, -⟩ := own_slice0 ho3
  have HB3 := Lib.hid (HB2.out.trans (hb3.mono HZ2))
  have HZ3 := HB3.out.size
  have HX3 := Lib.hid (HX2.out.below hb3)
  have HY3 := Lib.hid (Sees.own ho3)
  have hz3 := hb3.size
  clear hcv hb3 ho3
  go_wp2_with fail
  refine (awake_any _).mono ?_
  rintro e w4 ⟨rfl, hb4⟩
  have HB4 := Lib.hid (HB3.out.trans (hb4.mono HZ3))
  have HX4 := Lib.hid (HX3.out.below (hb4.mono hz3))
  have HY4 := Lib.hid (HY3.out.below hb4)
  have hz4 := hb4.size
  clear hb4
  go_wp2_with fail
  refine (same_any _ _ _ A3 ls.length c3 ls ls w4 (by omega) HX4.out HY4.out (by omega) hz4).mono ?_
  rintro e w5 ⟨rfl, hb5⟩
  rw [decide_eq_true (rfl : ls = ls)]
  have HB5 := Lib.hid (HB4.out.trans (hb5.mono HB4.out.size))
  clear hb5
  go_wp2_with fail
  go_ret
  exact ⟨rfl, HB5.out⟩

set_option maxRecDepth 100000 in
theorem lifted (os : Os) (started : os.Started) (H : Type) (enc : TypeId × Value → H) :
    ReturnsInHanded {} Try.checked os 6 .any (Rows.frameScansSpec.pre6 enc Try.prog Try.f6 Rows.frameScansRow.domain false) (Rows.frameScansSpec.post enc Try.prog Try.f6 false true false false) := by
  refine returnsInHanded_of_change (C := Try.checked) own started (by kernel_rfl) Try.func6
    (ChangeSpec.witness6 (enc := enc) (C := Try.checked) false ⟨#[], #[.string ⟨#[]⟩], []⟩ 8 (by kernel_rfl) (by kernel_rfl) (by kernel_rfl) (by kernel_rfl)) ?_
  intro W base args ds gs before hval0 hW hcnd _
  have hval : ∀ (j : Nat) t v, Try.f6.params[j]? = some t → args[j]? = some v → Value.okWide Try.prog W .any base t v := hval0
  have hW' := hW
  obtain ⟨p, q, hA0, hV, rfl, hfz, hnd⟩ := hW
  have hA : DataW.TrodAll enc Try.prog W 0 (fun _ => true) true Try.f6.params.toList args.toList ds p := hA0
  rw [Try.params6] at hA hval
  obtain ⟨v0, vs0, d0, ds0, p0, q0, hargs, rfl, rfl, h0, r0⟩ := trodAll_cons hA
  obtain ⟨rfl, rfl, rfl⟩ := trodAll_nil r0
  obtain rfl : args = #[v0] := by cases args; simp_all
  obtain ⟨rfl, rfl⟩ := trodVars_none hV
  obtain ⟨a0, rfl⟩ := okWide_string Try.underlying9 (hval 0 9 v0 rfl rfl)
  have w0 : a0.size ≤ maxLen := by
    obtain ⟨m, hm⟩ := h0
    obtain ⟨s, hs, _, hl⟩ := DataW.trod_string Try.underlying9 hm
    simp [Value.cells] at hs
    rw [hs]; exact hl
  obtain ⟨l0, rfl⟩ : ∃ l, a0 = txt l := ⟨a0.data.toList, (txt_of _).symm⟩
  rw [txt_size] at w0; unfold maxLen at w0
  have lt0 : ∀ x ∈ p0, x.block < W.heap.size := by obtain ⟨m, hm⟩ := h0; exact DataW.trod_lt m _ _ _ hm
  clear hA0 hval0
  simp only [List.append_nil] at hW'
  refine (walk l0 w0 W ).mono fun e W' ⟨he, bel⟩ => ?_
  subst he
  exact ⟨_, rfl, _, _, _, [], _, [], hW', trodAll_mk1 (shut_bool Try.underlying4 _), (trodAll_cons_mk (Below.trod laidOut (by kernel_rfl) (of_decide_eq_true (by kernel_rfl)) h0 bel lt0) trodAll_mk0), rfl, bel.frame _, fun h => by cases h⟩

theorem proved : Rows.FrameScansSaid :=
  OpenClaim.holds_of_wide 6 Try.f6 rfl rfl rfl rfl rfl rfl rfl ⟨rfl, rfl, rfl, rfl, rfl⟩ rfl rfl rfl rfl rfl (by kernel_rfl) Try.func6 (by kernel_rfl)
    (of_decide_eq_true (by kernel_rfl)) (by unfold Func.isWrapper; first | (rw [if_pos (by decide +kernel)]; kernel_rfl) | (rw [if_neg (by decide +kernel)]; exact ⟨rfl, rfl⟩))
    (fun os started H enc _ => lifted os started H enc)
#print axioms proved
end Go.Proofs.Ythpmpbipdgianaa.frameScans
