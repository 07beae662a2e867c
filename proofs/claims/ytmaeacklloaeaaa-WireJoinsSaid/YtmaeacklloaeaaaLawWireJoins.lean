/- Two lists one behind the other are one list's bytes: WireJoins answers true at every two lists of values. No condition. -/
import Derived.Test.YtmaeacklloaeaaaWireZ
namespace Go.Proofs.Ytmaeacklloaeaaa.wireJoins
open Go.ChangeShapes Go.WideShapes Go.ChangeAt Go.RowKit Go.Fl Go.Wr
set_option linter.unusedVariables false
set_option linter.unusedSimpArgs false

theorem wf_f (l : List Val) (h : ∀ v ∈ l, v.wf) : ∀ v ∈ l, v.f < 18446744073709551616 := fun v hv => (h v hv).2.2.2.2.2.2.1
theorem nrm_f (l : List Val) (h : ∀ v ∈ l, v.wf) : ∀ v ∈ l.map nrm, v.f < 18446744073709551616 := by
  intro v hv
  obtain ⟨u, hu, rfl⟩ := List.mem_map.1 hv
  exact (nrm_wf (h u hu)).2.2.2.2.2.2.1
theorem back_same (l : List Val) : sameL (l.map nrm) l = true := (sameL_iff _ l).2 (map_nrm l)

set_option maxHeartbeats 2000000 in
theorem walk_few (A : Option Addr) (len cap : Nat) (l : List Val) (A' : Option Addr) (len' cap' : Nat) (m : List Val) (w : World) (hL : IsL w A len cap l) (hM : IsL w A' len' cap' m) (hf : fewB l = false ∨ fewB m = false) :
    Calls Try.prog 8 #[.slice A len cap, .slice A' len' cap'] w fun e w' => e = .returned (.bool true) ∧ Below w.heap.size w w' := by
  obtain ⟨rfl, hwf, hs, hc1, hc2, -⟩ := hL
  obtain ⟨rfl, hwf', hs', hc1', hc2', -⟩ := hM
  have HF := Lib.hid (few_any w.heap.size A cap l w hs (Nat.le_refl _) hc1 hc2)
  have HF' := Lib.hid (few_any w.heap.size A' cap' m w hs' (Nat.le_refl _) hc1' hc2')
  clear hs hwf hs' hwf'
  have fin : ∀ W : World, Calls Try.prog 12 #[] W fun e w' => e = .returned (.bool true) ∧ Below W.heap.size W w' := awake_any
  cases h1 : fewB l with
  | false =>
    rw [h1] at HF
    clear h1 hf
    go_enter Try.func8, Try.ntmps8
    go_wp2_with fail
    refine HF.out.mono ?_
    rintro e w1 ⟨rfl, rfl⟩
    go_wp2_with fail
    refine (awake_any _).mono ?_
    rintro e w2 ⟨rfl, hb2⟩
    have HB2 := Lib.hid hb2
    clear hb2
    go_wp2_with fail
    go_ret
    exact ⟨rfl, HB2.out⟩
  | true =>
    have h2 : fewB m = false := by
      rcases hf with h | h
      · rw [h1] at h; cases h
      · exact h
    rw [h1] at HF
    rw [h2] at HF'
    clear h1 h2 hf
    go_enter Try.func8, Try.ntmps8
    go_wp2_with fail
    refine HF.out.mono ?_
    rintro e w1 ⟨rfl, rfl⟩
    go_wp2_with fail
    refine HF'.out.mono ?_
    rintro e w1 ⟨rfl, rfl⟩
    go_wp2_with fail
    refine (awake_any _).mono ?_
    rintro e w2 ⟨rfl, hb2⟩
    have HB2 := Lib.hid hb2
    clear hb2
    go_wp2_with fail
    go_ret
    exact ⟨rfl, HB2.out⟩

set_option maxHeartbeats 2000000 in
theorem walk_bad (A : Option Addr) (len cap : Nat) (l : List Val) (A' : Option Addr) (len' cap' : Nat) (m : List Val) (w : World) (hL : IsL w A len cap l) (hM : IsL w A' len' cap' m) (hf : fewB l = true ∧ fewB m = true)
    (hE : packE l ≠ 0 ∨ packE m ≠ 0) :
    Calls Try.prog 8 #[.slice A len cap, .slice A' len' cap'] w fun e w' => e = .returned (.bool true) ∧ Below w.heap.size w w' := by
  obtain ⟨rfl, hwf, hs, hc1, hc2, -⟩ := hL
  obtain ⟨rfl, hwf', hs', hc1', hc2', -⟩ := hM
  have HF := Lib.hid (few_any w.heap.size A cap l w hs (Nat.le_refl _) hc1 hc2)
  have HF' := Lib.hid (few_any w.heap.size A' cap' m w hs' (Nat.le_refl _) hc1' hc2')
  rw [hf.1] at HF
  rw [hf.2] at HF'
  have HW := Lib.hid hwf
  have HW' := Lib.hid hwf'
  have HS := Lib.hid hs
  have HS' := Lib.hid hs'
  clear hs hwf hs' hwf' hf
  go_enter Try.func8, Try.ntmps8
  go_wp2_with fail
  refine HF.out.mono ?_
  rintro e w1 ⟨rfl, rfl⟩
  go_wp2_with fail
  refine HF'.out.mono ?_
  rintro e w1 ⟨rfl, rfl⟩
  go_wp2_with fail
  refine (pack_any _ A cap l _ HW.out HS.out (Nat.le_refl _) hc1 hc2).mono ?_
  rintro e w1 ⟨v1, rfl, ho1, hb1⟩
  have HB1 := Lib.hid hb1
  clear ho1 hb1
  go_wp2_with fail
  refine (pack_any _ A' cap' m _ HW'.out (HS'.out.below HB1.out) HB1.out.size hc1' hc2').mono ?_
  rintro e w2 ⟨v2, rfl, ho2, hb2⟩
  have HB2 := Lib.hid (HB1.out.trans (hb2.mono HB1.out.size))
  clear ho2 hb2
  by_cases h1 : packE l = 0
  · have h2 : packE m ≠ 0 := by
      rcases hE with h | h
      · exact absurd h1 h
      · exact h
    rw [h1]
    have hne : (packE m != 0) = true := by simpa using h2
    clear h1 h2 hE
    generalize packE m = x at *
    go_wp2_with fail
    refine (awake_any _).mono ?_
    rintro e w3 ⟨rfl, hb3⟩
    have HB3 := Lib.hid (HB2.out.trans (hb3.mono HB2.out.size))
    clear hb3
    go_wp2_with fail
    refine (awake_any _).mono ?_
    rintro e w4 ⟨rfl, hb4⟩
    have HB4 := Lib.hid (HB3.out.trans (hb4.mono HB3.out.size))
    clear hb4
    go_wp2_with fail
    go_ret
    exact ⟨rfl, HB4.out⟩
  · have hne : (packE l != 0) = true := by simpa using h1
    clear h1 hE
    generalize packE m = y at *
    generalize packE l = x at *
    go_wp2_with fail
    refine (awake_any _).mono ?_
    rintro e w3 ⟨rfl, hb3⟩
    have HB3 := Lib.hid (HB2.out.trans (hb3.mono HB2.out.size))
    clear hb3
    go_wp2_with fail
    refine (awake_any _).mono ?_
    rintro e w4 ⟨rfl, hb4⟩
    have HB4 := Lib.hid (HB3.out.trans (hb4.mono HB3.out.size))
    clear hb4
    go_wp2_with fail
    go_ret
    exact ⟨rfl, HB4.out⟩

set_option maxHeartbeats 4000000 in
theorem walk_good (A : Option Addr) (len cap : Nat) (l : List Val) (A' : Option Addr) (len' cap' : Nat) (m : List Val) (w : World) (hL : IsL w A len cap l) (hM : IsL w A' len' cap' m) (hf : fewB l = true ∧ fewB m = true)
    (hE : packE l = 0 ∧ packE m = 0) :
    Calls Try.prog 8 #[.slice A len cap, .slice A' len' cap'] w fun e w' => e = .returned (.bool true) ∧ Below w.heap.size w w' := by
  obtain ⟨rfl, hwf, hs, hc1, hc2, hn⟩ := hL
  obtain ⟨rfl, hwf', hs', hc1', hc2', hn'⟩ := hM
  have HF := Lib.hid (few_any w.heap.size A cap l w hs (Nat.le_refl _) hc1 hc2)
  have HF' := Lib.hid (few_any w.heap.size A' cap' m w hs' (Nat.le_refl _) hc1' hc2')
  rw [hf.1] at HF
  rw [hf.2] at HF'
  have hl1 := ((packE_zero l).1 hE.1).1
  have hl2 := ((packE_zero m).1 hE.2).1
  have hg1 := good_of l hwf hE.1
  have hg2 := good_of m hwf' hE.2
  have he1 := encs_le l hg1
  have he2 := encs_le m hg2
  have HJ := Lib.hid (joins l m hg1 hg2 hl1 hl2)
  have hP1 : packB l = encs l := by unfold packB; rw [if_pos hE.1]
  have hP2 : packB m = encs m := by unfold packB; rw [if_pos hE.2]
  have HE1 := Lib.hid hE.1
  have HE2 := Lib.hid hE.2
  have HP1 := Lib.hid hP1
  have HP2 := Lib.hid hP2
  have HW := Lib.hid hwf
  have HW' := Lib.hid hwf'
  have HS := Lib.hid hs
  have HS' := Lib.hid hs'
  have HN := Lib.hid hn
  have HN' := Lib.hid hn'
  clear hs hwf hs' hwf' hf hE hP1 hP2 hg1 hg2 hn hn'
  go_enter Try.func8, Try.ntmps8
  go_wp2_with fail
  refine HF.out.mono ?_
  rintro e w1 ⟨rfl, rfl⟩
  go_wp2_with fail
  refine HF'.out.mono ?_
  rintro e w1 ⟨rfl, rfl⟩
  go_wp2_with fail
  refine (pack_any _ A cap l _ HW.out HS.out (Nat.le_refl _) hc1 hc2).mono ?_
  rintro e w1 ⟨v1, rfl, ho1, hb1⟩
  rw [HE1.out]
  rw [HP1.out] at ho1
  obtain ⟨A1, c1, rfl, hx1, hx2, hx3⟩ := ho1.slice0
  have HO1 := Lib.hid ho1
  have HB1 := Lib.hid hb1
  have HX3 := Lib.hid hx3
  clear ho1 hb1 hx3
  go_wp2_with fail
  refine (pack_any _ A' cap' m _ HW'.out (HS'.out.below HB1.out) HB1.out.size hc1' hc2').mono ?_
  rintro e w2 ⟨v2, rfl, ho2, hb2⟩
  rw [HE2.out]
  rw [HP2.out] at ho2
  obtain ⟨A2, c2, rfl, hy1, hy2, hy3⟩ := ho2.slice0
  have HO12 := Lib.hid (HO1.out.keep hb2 (Nat.le_refl _))
  have HO2 := Lib.hid ho2
  have HY3 := Lib.hid hy3
  have HB2 := Lib.hid (HB1.out.trans (hb2.mono HB1.out.size))
  clear ho2 hb2 hy3
  generalize hbs1 : encs l = bs1 at *
  generalize hbs2 : encs m = bs2 at *
  have HBS1 := Lib.hid hbs1
  have HBS2 := Lib.hid hbs2
  clear hbs1 hbs2
  go_wp2_with fail
  refine (awake_any _).mono ?_
  rintro e w3 ⟨rfl, hb3⟩
  have HO13 := Lib.hid (HO12.out.keep hb3 (Nat.le_refl _))
  have HO23 := Lib.hid (HO2.out.keep hb3 (Nat.le_refl _))
  have HB3 := Lib.hid (HB2.out.trans (hb3.mono HB2.out.size))
  have hz3 := HB3.out.size
  clear hb3
  go_wp2_with (at_builtin; refine wpList_appG rfl (.tmp 43) (.tmp 44) _ 5 _ 1 1 rfl info_byte Try.underlying25 rfl (by decide) w3.heap.size _ 0 [] rfl (own_empty w3 5 1) _ A1 bs1.length c1 (Lib.byteCells bs1) rfl ((HO13.out.sees rfl).alloc (Nat.le_refl _) _) HX3.out (byte_one _) (by omega) (by omega) (by simp) ?_)
  intro v4 w4 ho4 hg4
  have hb4 : Below w3.heap.size w3 w4 := ((Below.refl w3.heap.size w3).alloc (Nat.le_refl _) _).grown hg4 (by simp) fun k hk => by
    have : some w3.heap.size = some k := hk
    injection this with this; omega
  have ho4' : OwnB w4 w3.heap.size v4 bs1 := ho4
  have HO24 := Lib.hid (HO23.out.keep hb4 (Nat.le_refl _))
  have HB4 := Lib.hid (HB3.out.trans (hb4.mono hz3))
  have hz4 := hb4.size
  have HO4 := Lib.hid ho4'
  clear ho4 hg4 ho4'
  go_wp2_with (at_builtin; refine wpList_appG rfl (.tmp 45) (.tmp 46) _ 5 _ 1 1 rfl info_byte Try.underlying25 rfl (by decide) w3.heap.size _ bs1.length (Lib.byteCells bs1) rfl HO4.out _ A2 bs2.length c2 (Lib.byteCells bs2) rfl (HO24.out.sees rfl) HY3.out (byte_one _) (by omega) (by omega) hz4 ?_)
  intro v5 w5 ho5 hg5
  have hb5 : Below w3.heap.size w4 w5 := (Below.refl _ w4).grown hg5 hz4 fun k hk => (HO4.out.lt k hk).1
  obtain ⟨bs, hbs⟩ : ∃ bs, bs = bs1 ++ bs2 := ⟨_, rfl⟩
  have ho5' : OwnB w5 w3.heap.size v5 bs := by
    unfold OwnB
    rw [hbs, Lib.byteCells_append, List.length_append]; exact ho5
  have hJ := HJ.out
  rw [← hbs] at hJ
  obtain ⟨A5, c5, rfl, hu1, hu2⟩ := ho5'.slice
  have HB5 := Lib.hid (HB4.out.trans (hb5.mono hz3))
  have HO5 := Lib.hid ho5'
  have HJJ := Lib.hid hJ
  have hz5 := hb5.size
  clear ho5 hg5 ho5' hb5 hbs hJ HJ
  go_wp2_with fail
  refine (unpack_any _ A5 c5 bs _ (HO5.out.sees rfl) (Nat.le_refl _) hu1 (by unfold maxLen at hu2; exact hu2)).mono ?_
  rintro e w6 ⟨v6, rfl, ho6, hb6⟩
  have HB6 := Lib.hid (HB5.out.trans (hb6.mono HB5.out.size))
  have HS6 := Lib.hid (HS.out.below HB6.out)
  have HS6' := Lib.hid (HS'.out.below HB6.out)
  by_cases hmany : l.length + m.length ≤ 1000
  · have hd : decide ((1000 : Int) < (l.length : Int) + (m.length : Int)) = false := by simpa using (by omega : (l.length : Int) + (m.length : Int) ≤ 1000)
    obtain ⟨K, hK⟩ : ∃ K, K = (l ++ m).map nrm := ⟨_, rfl⟩
    obtain ⟨M, hM⟩ : ∃ M, M = l ++ m := ⟨_, rfl⟩
    have hwM : ∀ v ∈ M, v.wf := by
      intro v hv
      rw [hM] at hv
      exact (List.mem_append.1 hv).elim (HW.out v) (HW'.out v)
    have hKM : sameL K M = true := by rw [hK, ← hM]; exact back_same M
    have hKf : ∀ v ∈ K, v.f < 18446744073709551616 := by rw [hK, ← hM]; exact nrm_f M hwM
    have hMf := wf_f M hwM
    have hKl : K.length ≤ 1000 := by rw [hK, List.length_map, List.length_append]; exact hmany
    have hML : M.length ≤ 1000 := by rw [hM, List.length_append]; exact hmany
    have hr : rdAll 0 0 bs = (K, 0, 0) := by rw [HJJ.out, if_pos hmany, hK]
    rw [hr] at ho6 ⊢
    obtain ⟨A6, c6, rfl, ha1, ha2⟩ := ho6.slice
    have HO6 := Lib.hid ho6
    have HMM := Lib.hid hM
    have HKM := Lib.hid hKM
    have HKF := Lib.hid hKf
    have HMF := Lib.hid hMf
    have hz6 := HB6.out.size
    clear ho6 hb6 hK hM hwM hKM hKf hMf hr HJJ
    go_wp2_with (at_builtin; refine wpList_appH (by rfl) (.tmp 69) (.tmp 70) _ 36 _ 5 48 rfl info_value Try.underlying22 rfl (by decide) w6.heap.size _ 0 [] rfl (own_empty w6 36 5) _ A l.length cap (rowV l) rfl ((HS6.out.more hz6).alloc (Nat.le_refl _) _) HN.out (rowV_one _) (by omega) (by omega) (by simp) ?_)
    intro v7 w7 ho7 hg7
    have hb7 : Below w6.heap.size w6 w7 := ((Below.refl w6.heap.size w6).alloc (Nat.le_refl _) _).grown hg7 (by simp) fun k hk => by
      have : some w6.heap.size = some k := hk
      injection this with this; omega
    have ho7' : OwnV w7 w6.heap.size v7 l := ho7
    have HB7 := Lib.hid (HB6.out.trans (hb7.mono hz6))
    have HO67 := Lib.hid (HO6.out.below hb7 (Nat.le_refl _))
    have hz7 := hb7.size
    have HO7 := Lib.hid ho7'
    have HS7' := Lib.hid ((HS6'.out.more hz6).below hb7)
    clear ho7 hg7 ho7'
    go_wp2_with (at_builtin; refine wpList_appH (by rfl) (.tmp 71) (.tmp 72) _ 36 _ 5 48 rfl info_value Try.underlying22 rfl (by decide) w6.heap.size _ l.length (rowV l) rfl HO7.out _ A' m.length cap' (rowV m) rfl HS7'.out HN'.out (rowV_one _) (by omega) (by omega) hz7 ?_)
    intro v8 w8 ho8 hg8
    have hb8 : Below w6.heap.size w7 w8 := (Below.refl _ w7).grown hg8 hz7 fun k hk => (HO7.out.lt k hk).1
    have ho8' : OwnV w8 w6.heap.size v8 M := by
      unfold OwnV
      rw [HMM.out, rowV_append, List.length_append]; exact ho8
    obtain ⟨A8, c8, rfl, hq1, hq2⟩ := ho8'.slice
    have HB8 := Lib.hid (HB7.out.trans (hb8.mono hz6))
    have HO68 := Lib.hid (HO6.out.below (hb7.trans hb8) (Nat.le_refl _))
    have HO8 := Lib.hid ho8'
    clear ho8 hg8 ho8' hb8 hb7
    go_wp2_with fail
    refine (all_any _ _ A6 A8 c6 c8 K M _ (by omega) HKF.out HMF.out (HO68.out.sees rfl) (HO8.out.sees rfl) (Nat.le_refl _) (Nat.le_refl _) ha1 hq1 (by unfold maxLen at ha2; exact ha2) (by unfold maxLen at hq2; exact hq2)).mono ?_
    rintro e w9 ⟨rfl, hb9⟩
    rw [HKM.out]
    have HB9 := Lib.hid (HB8.out.trans (hb9.mono HB8.out.size))
    clear hb9
    go_wp2_with fail
    go_ret
    exact ⟨rfl, HB9.out⟩
  · have hd : decide ((1000 : Int) < (l.length : Int) + (m.length : Int)) = true := by simpa using (by omega : (1000 : Int) < (l.length : Int) + (m.length : Int))
    have hr := HJJ.out
    rw [if_neg hmany] at hr
    generalize (rdAll 0 0 bs).2.1 = p at hr
    rw [hr] at ho6 ⊢
    obtain ⟨A6, c6, rfl, ha1, ha2⟩ := ho6.slice
    clear ho6 hb6 hr HJJ
    go_wp2_with fail
    go_ret
    exact ⟨rfl, HB6.out⟩

theorem walk (A : Option Addr) (len cap : Nat) (l : List Val) (A' : Option Addr) (len' cap' : Nat) (m : List Val) (w : World) (hL : IsL w A len cap l) (hM : IsL w A' len' cap' m) :
    Calls Try.prog 8 #[.slice A len cap, .slice A' len' cap'] w fun e w' => e = .returned (.bool true) ∧ Below w.heap.size w w' := by
  by_cases h : fewB l = true ∧ fewB m = true
  · by_cases hE : packE l = 0 ∧ packE m = 0
    · exact walk_good A len cap l A' len' cap' m w hL hM h hE
    · exact walk_bad A len cap l A' len' cap' m w hL hM h (by
        by_cases h1 : packE l = 0
        · exact .inr fun h2 => hE ⟨h1, h2⟩
        · exact .inl h1)
  · exact walk_few A len cap l A' len' cap' m w hL hM (by
      cases h1 : fewB l with
      | false => exact .inl rfl
      | true =>
        cases h2 : fewB m with
        | false => exact .inr rfl
        | true => exact absurd ⟨h1, h2⟩ h)

set_option maxRecDepth 100000 in
theorem lifted (os : Os) (started : os.Started) (H : Type) (enc : TypeId × Value → H) :
    ReturnsInHanded {} Try.checked os 8 .any (Rows.wireJoinsSpec.pre6 enc Try.prog Try.f8 Rows.wireJoinsRow.domain false) (Rows.wireJoinsSpec.post enc Try.prog Try.f8 false true false false) := by
  refine returnsInHanded_of_change (C := Try.checked) own started (by kernel_rfl) Try.func8
    (ChangeSpec.witness6 (enc := enc) (C := Try.checked) false ⟨#[], #[.slice none 0 0, .slice none 0 0], []⟩ 8 (by kernel_rfl) (by kernel_rfl) (by kernel_rfl) (by kernel_rfl)) ?_
  intro W base args ds gs before hval0 hW hcnd _
  have hval : ∀ (j : Nat) t v, Try.f8.params[j]? = some t → args[j]? = some v → Value.okWide Try.prog W .any base t v := hval0
  have hW' := hW
  obtain ⟨p, q, hA0, hV, rfl, hfz, hnd⟩ := hW
  have hA : DataW.TrodAll enc Try.prog W 0 (fun _ => true) true Try.f8.params.toList args.toList ds p := hA0
  rw [Try.params8] at hA hval
  obtain ⟨v0, vs0, d0, ds0, p0, q0, hargs, rfl, rfl, h0, r0⟩ := trodAll_cons hA
  obtain ⟨v1, vs1, d1, ds1, p1, q1, rfl, rfl, rfl, h1, r1⟩ := trodAll_cons r0
  obtain ⟨rfl, rfl, rfl⟩ := trodAll_nil r1
  obtain rfl : args = #[v0, v1] := by cases args; simp_all
  obtain ⟨rfl, rfl⟩ := trodVars_none hV
  obtain ⟨A0, len0, cap0, rfl⟩ := okWide_slice Try.underlying22 (hval 0 22 v0 rfl rfl)
  obtain ⟨a0, w0⟩ := open_vals h0
  have lt0 : ∀ x ∈ p0, x.block < W.heap.size := by obtain ⟨m, hm⟩ := h0; exact DataW.trod_lt m _ _ _ hm
  obtain ⟨A1, len1, cap1, rfl⟩ := okWide_slice Try.underlying22 (hval 1 22 v1 rfl rfl)
  obtain ⟨a1, w1⟩ := open_vals h1
  have lt1 : ∀ x ∈ p1, x.block < W.heap.size := by obtain ⟨m, hm⟩ := h1; exact DataW.trod_lt m _ _ _ hm
  clear hA0 hval0
  simp only [List.append_nil] at hW'
  refine (walk A0 len0 cap0 a0 A1 len1 cap1 a1 W w0 w1).mono fun e W' ⟨he, bel⟩ => ?_
  subst he
  exact ⟨_, rfl, _, _, _, [], _, [], hW', trodAll_mk1 (shut_bool Try.underlying4 _), (trodAll_cons_mk (Below.trod laidOut (by kernel_rfl) (of_decide_eq_true (by kernel_rfl)) h0 bel lt0) (trodAll_cons_mk (Below.trod laidOut (by kernel_rfl) (of_decide_eq_true (by kernel_rfl)) h1 bel lt1) trodAll_mk0)), rfl, bel.frame _, fun h => by cases h⟩

theorem proved : Rows.WireJoinsSaid :=
  OpenClaim.holds_of_wide 8 Try.f8 rfl rfl rfl rfl rfl rfl rfl ⟨rfl, rfl, rfl, rfl, rfl⟩ rfl rfl rfl rfl rfl (by kernel_rfl) Try.func8 (by kernel_rfl)
    (of_decide_eq_true (by kernel_rfl)) (by unfold Func.isWrapper; first | (rw [if_pos (by decide +kernel)]; kernel_rfl) | (rw [if_neg (by decide +kernel)]; exact ⟨rfl, rfl⟩))
    (fun os started H enc _ => lifted os started H enc)
#print axioms proved
end Go.Proofs.Ytmaeacklloaeaaa.wireJoins
