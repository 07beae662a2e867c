/- What was sealed is opened, whatever stands behind it: FrameBack answers true at every two texts. No condition. -/
import Derived.Test.YthpmpbipdgianaaFrameZ
namespace Go.Proofs.Ythpmpbipdgianaa.frameBack
open Go.ChangeShapes Go.WideShapes Go.ChangeAt Go.RowKit Go.Fm
set_option linter.unusedVariables false
set_option linter.unusedSimpArgs false

set_option maxHeartbeats 4000000 in
theorem walk (l : List UInt8) (hl : l.length ≤ 9223372036854775807) (t : List UInt8) (ht : t.length ≤ 9223372036854775807) (w : World) : Calls Try.prog 7 #[.string (txt l), .string (txt t)] w fun e w' => e = .returned (.bool true) ∧ Below w.heap.size w w' := by
  have HBY := Lib.hid (bytes_any l 2000 w hl (by omega))
  have HBT := Lib.hid (fun w0 => bytes_any t 2000 w0 ht (by omega))
  have htl : (l.take 2000).length ≤ 2000 := by rw [List.length_take]; omega
  have htt : (t.take 2000).length ≤ 2000 := by rw [List.length_take]; omega
  generalize l.take 2000 = b at *
  generalize t.take 2000 = tt at *
  go_enter Try.func7, Try.ntmps7
  go_wp2_with fail
  refine HBY.out.mono ?_
  rintro e w1 ⟨g, c, rfl, hc1, hc2, hsee, hb1, -⟩
  have HB1 := Lib.hid hb1
  have HX1 := Lib.hid hsee
  have HZ1 := hb1.size
  have HSE := Lib.hid (seal_any _ _ c b w1 hsee (Nat.le_refl _) hc1 hc2 (fun h => by cases h) (by omega))
  clear hb1 hsee
  go_wp2_with fail
  refine HSE.out.mono ?_
  rintro e w2 ⟨v2, rfl, ho2, hb2⟩
  have hfl := frame_length b
  obtain ⟨A2, c2, rfl, hc21, hc22, hn2⟩ := own_slice0 ho2
  have HOP : Hid (opened (frame b ++ tt) = (b, 8 + b.length, 0)) := Lib.hid (opened_frame b tt (by omega))
  generalize frame b = fr at *
  rw [hfl] at hc21 ⊢
  have HB2 := Lib.hid (HB1.out.trans (hb2.mono HZ1))
  have HZ2 := HB2.out.size
  have HX2 := Lib.hid (HX1.out.below hb2)
  have hz2 := hb2.size
  have hy2 := fun o => (ho2.sees rfl).alloc (Nat.le_refl _) o
  rw [hfl] at hy2
  have HY2 := Lib.hid hy2
  have HN2 := Lib.hid hn2
  clear hb2 ho2 hy2 hn2
  go_wp2_with (at_builtin; refine wpList_appG rfl (.tmp 19) (.tmp 20) _ 5 _ 1 1 rfl info_byte Try.underlying22 rfl (by decide) w2.heap.size _ 0 [] rfl (own_empty w2 5 1) _ A2 (8 + b.length) c2 (Lib.byteCells fr) rfl (HY2.out _) HN2.out (byte_one _) (by omega) (by omega) (by simp) ?_)
  intro v3 w3 ho3 hg3
  have hb3 : Below w2.heap.size w2 w3 := ((Below.refl w2.heap.size w2).alloc (Nat.le_refl _) _).grown hg3 (by simp) fun k hk => by
    have : some w2.heap.size = some k := hk
    injection this with this; omega
  have ho3' : OwnB w3 w2.heap.size v3 fr := by unfold OwnB; rw [hfl]; simpa using ho3
  have HO3 := Lib.hid ho3'
  have HB3 := Lib.hid (HB2.out.trans (hb3.mono HZ2))
  have HZ3 := HB3.out.size
  have hz3 := hb3.size
  have HX3 := Lib.hid (HX2.out.below (hb3.mono hz2))
  clear ho3 hg3 ho3' hb3
  go_wp2_with fail
  refine (HBT.out _).mono ?_
  rintro e w4 ⟨g4, c4, rfl, hd1, hd2, hsee4, hb4, -⟩
  have HO4 := Lib.hid (HO3.out.keep hb4 (Nat.le_refl _))
  have HB4 := Lib.hid (HB3.out.trans (hb4.mono HZ3))
  have HZ4 := HB4.out.size
  have hz4 := hb4.size
  have HX4 := Lib.hid (HX3.out.below (hb4.mono (by omega)))
  have HY4 := Lib.hid hsee4
  clear hb4 hsee4
  go_wp2_with (at_builtin; refine wpList_appG rfl (.tmp 21) (.tmp 23) _ 5 _ 1 1 rfl info_byte Try.underlying22 rfl (by decide) w2.heap.size _ fr.length (Lib.byteCells fr) rfl HO4.out _ _ tt.length c4 (Lib.byteCells tt) rfl HY4.out (fun h => by cases h) (byte_one _) (by omega) (by omega) (by omega) ?_)
  intro v5 w5 ho5 hg5
  have hb5 : Below w2.heap.size w4 w5 := (Below.refl _ w4).grown hg5 (by omega) fun k hk => (HO4.out.lt k hk).1
  have ho5' : OwnB w5 w2.heap.size v5 (fr ++ tt) := by unfold OwnB; rw [Lib.byteCells_append, List.length_append]; simpa [hfl] using ho5
  obtain ⟨A5, c5, rfl, he1, he2, -⟩ := own_slice0 ho5'
  have hop := open_any _ A5 c5 (fr ++ tt) w5 (ho5'.sees rfl) (Nat.le_refl _) he1 he2
  unfold Opens at hop
  rw [HOP.out] at hop
  have hlt : (fr ++ tt).length = 8 + b.length + tt.length := by rw [List.length_append, hfl]
  rw [hlt] at hop ⊢
  have HOPN := Lib.hid hop
  have HB5 := Lib.hid (HB4.out.trans (hb5.mono HZ2))
  have HZ5 := HB5.out.size
  have HX5 := Lib.hid (HX4.out.below (hb5.mono hz2))
  have hz5 := hb5.size
  clear ho5 hg5 ho5' hb5 hop hlt
  go_wp2_with fail
  refine HOPN.out.mono ?_
  rintro e w6 ⟨A6, c6, rfl, hf1, hf2, hsee6, hb6⟩
  have HB6 := Lib.hid (HB5.out.trans (hb6.mono HZ5))
  have HX6 := Lib.hid (HX5.out.below (hb6.mono (by omega)))
  have HY6 := Lib.hid hsee6
  have hz6 := hb6.size
  clear hb6 hsee6
  go_wp2_with fail
  refine (awake_any _).mono ?_
  rintro e w7 ⟨rfl, hb7⟩
  have HB7 := Lib.hid (HB6.out.trans (hb7.mono HB6.out.size))
  have hcv1 := conv_bytes b (some ⟨g, 0, none⟩) c w1.heap.size w7 (HX6.out.below (hb7.mono (by omega)))
  have hcv2 := conv_bytes b A6 c6 w6.heap.size w7 (HY6.out.below hb7)
  clear hb7
  go_wp2_with fail
  go_ret
  exact ⟨rfl, HB7.out⟩

set_option maxRecDepth 100000 in
theorem lifted (os : Os) (started : os.Started) (H : Type) (enc : TypeId × Value → H) :
    ReturnsInHanded {} Try.checked os 7 .any (Rows.frameBackSpec.pre6 enc Try.prog Try.f7 Rows.frameBackRow.domain false) (Rows.frameBackSpec.post enc Try.prog Try.f7 false true false false) := by
  refine returnsInHanded_of_change (C := Try.checked) own started (by kernel_rfl) Try.func7
    (ChangeSpec.witness6 (enc := enc) (C := Try.checked) false ⟨#[], #[.string ⟨#[]⟩, .string ⟨#[]⟩], []⟩ 8 (by kernel_rfl) (by kernel_rfl) (by kernel_rfl) (by kernel_rfl)) ?_
  intro W base args ds gs before hval0 hW hcnd _
  have hval : ∀ (j : Nat) t v, Try.f7.params[j]? = some t → args[j]? = some v → Value.okWide Try.prog W .any base t v := hval0
  have hW' := hW
  obtain ⟨p, q, hA0, hV, rfl, hfz, hnd⟩ := hW
  have hA : DataW.TrodAll enc Try.prog W 0 (fun _ => true) true Try.f7.params.toList args.toList ds p := hA0
  rw [Try.params7] at hA hval
  obtain ⟨v0, vs0, d0, ds0, p0, q0, hargs, rfl, rfl, h0, r0⟩ := trodAll_cons hA
  obtain ⟨v1, vs1, d1, ds1, p1, q1, rfl, rfl, rfl, h1, r1⟩ := trodAll_cons r0
  obtain ⟨rfl, rfl, rfl⟩ := trodAll_nil r1
  obtain rfl : args = #[v0, v1] := by cases args; simp_all
  obtain ⟨rfl, rfl⟩ := trodVars_none hV
  obtain ⟨a0, rfl⟩ := okWide_string Try.underlying9 (hval 0 9 v0 rfl rfl)
  have w0 : a0.size ≤ maxLen := by
    obtain ⟨m, hm⟩ := h0
    obtain ⟨s, hs, _, hl⟩ := DataW.trod_string Try.underlying9 hm
    simp [Value.cells] at hs
    rw [hs]; exact hl
  obtain ⟨l0, rfl⟩ : ∃ l, a0 = txt l := ⟨a0.data.toList, (txt_of _).symm⟩
  rw [txt_size] at w0; unfold maxLen at w0
  have lt0 : ∀ x ∈ p0, x.block < W.heap.size := by obtain ⟨m, hm⟩ := h0; exact DataW.trod_lt m _ _ _ hm
  obtain ⟨a1, rfl⟩ := okWide_string Try.underlying9 (hval 1 9 v1 rfl rfl)
  have w1 : a1.size ≤ maxLen := by
    obtain ⟨m, hm⟩ := h1
    obtain ⟨s, hs, _, hl⟩ := DataW.trod_string Try.underlying9 hm
    simp [Value.cells] at hs
    rw [hs]; exact hl
  obtain ⟨l1, rfl⟩ : ∃ l, a1 = txt l := ⟨a1.data.toList, (txt_of _).symm⟩
  rw [txt_size] at w1; unfold maxLen at w1
  have lt1 : ∀ x ∈ p1, x.block < W.heap.size := by obtain ⟨m, hm⟩ := h1; exact DataW.trod_lt m _ _ _ hm
  clear hA0 hval0
  simp only [List.append_nil] at hW'
  refine (walk l0 w0 l1 w1 W ).mono fun e W' ⟨he, bel⟩ => ?_
  subst he
  exact ⟨_, rfl, _, _, _, [], _, [], hW', trodAll_mk1 (shut_bool Try.underlying4 _), (trodAll_cons_mk (Below.trod laidOut (by kernel_rfl) (of_decide_eq_true (by kernel_rfl)) h0 bel lt0) (trodAll_cons_mk (Below.trod laidOut (by kernel_rfl) (of_decide_eq_true (by kernel_rfl)) h1 bel lt1) trodAll_mk0)), rfl, bel.frame _, fun h => by cases h⟩

theorem proved : Rows.FrameBackSaid :=
  OpenClaim.holds_of_wide 7 Try.f7 rfl rfl rfl rfl rfl rfl rfl ⟨rfl, rfl, rfl, rfl, rfl⟩ rfl rfl rfl rfl rfl (by kernel_rfl) Try.func7 (by kernel_rfl)
    (of_decide_eq_true (by kernel_rfl)) (by unfold Func.isWrapper; first | (rw [if_pos (by decide +kernel)]; kernel_rfl) | (rw [if_neg (by decide +kernel)]; exact ⟨rfl, rfl⟩))
    (fun os started H enc _ => lifted os started H enc)
#print axioms proved
end Go.Proofs.Ythpmpbipdgianaa.frameBack
