/- What was told of a time that is closed stays, until it is pruned away; for every input, without conditions (of more calls the first 40 are made, and of those that follow the first 40). -/
import Derived.Test.YtckhddndeojobaaGreatVltB
namespace Go.Proofs.YtckhddndeojobaaGreat.vaultStays
open Go.ChangeShapes Go.WideShapes Go.ChangeAt Go.RowKit Go.Cn Go.So Go.Vt
set_option linter.unusedVariables false
set_option linter.unusedSimpArgs false

set_option maxHeartbeats 16000000 in
set_option maxRecDepth 100000 in
theorem walk (x : Nat) (hx : x < 18446744073709551616) (A : Option Addr) (len cap : Nat) (l : List Op15) (A' : Option Addr) (len' cap' : Nat) (m : List Op15) (w : World) (hL : IsR w A len cap 6 encO GO l) (hM : IsR w A' len' cap' 6 encO GO m) :
    Calls Tryz.prog 3 #[.float .f64 x, .slice A len cap, .slice A' len' cap'] w fun r w' => r = .returned (.bool true) ∧ Below w.heap.size w w' := by
  obtain ⟨hlen, hs, hc1, hc2, hnil, hg⟩ := hL
  subst hlen
  have HMA := Lib.hid (made_any x hx A cap l w hs hc1 hc2 hg)
  clear hs hg hnil hc1 hc2
  obtain ⟨hlen, hs, hc1, hc2, hnil, hg⟩ := hM
  subst hlen
  have HS := Lib.hid hs
  have HGO := Lib.hid hg
  clear hs hg hnil
  go_enter Tryz.func3, Tryz.ntmps3
  go_wp2_with fail
  refine HMA.out.mono ?_
  rintro r w1 (⟨hr, rfl, hb⟩ | ⟨g, hr, rfl, hp⟩)
  · have HB := Lib.hid hb
    clear hb hr HMA
    go_wp2_with fail
    refine (awake_any _).mono ?_
    rintro e w2 ⟨rfl, hb2⟩
    have HB2 := Lib.hid (HB.out.trans (hb2.mono HB.out.size))
    clear hb2
    go_wp2_with fail
    refine (awake_any _).mono ?_
    rintro e w3 ⟨rfl, hb3⟩
    have HB3 := Lib.hid (HB2.out.trans (hb3.mono HB2.out.size))
    clear hb3
    go_wp2_with fail
    go_ret
    exact ⟨rfl, HB3.out⟩
  have H := Lib.hid hp
  clear hp HMA hr
  generalize mk x (l.take 40) = c at *
  go_wp2_with fail
  refine (awake_any _).mono ?_
  rintro r w2 ⟨rfl, hb1⟩
  replace H := Lib.hid (H.out.call hb1)
  clear hb1
  obtain ⟨gz, sg, gc, HCL, -⟩ := H.out.face
  have HTO := Lib.hid (H.out.good.told)
  generalize c.s.closed = u at *
  have HCL := Lib.hid HCL
  go_wp2_with fail
  refine (HCL.out w2 (Below.refl _ _)).mono ?_
  rintro e w16 ⟨rfl, e1⟩
  subst w16
  clear HCL gc gz
  go_wp2_with fail
  refine (vp_snap u H.out).mono ?_
  rintro r w3 ⟨A3, cap3, rfl, hb1, ho⟩
  have hn3 : (snapS c.s u).length ≤ 8192 := by
    unfold snapS
    split
    · exact snap_len c.s u
    · simp
  have HST : Hid (Stay (snapS c.s u) c.s u) := Lib.hid (.inl ⟨HTO.out, by unfold snapS; rw [if_pos HTO.out]⟩)
  have hroom : (snapS c.s u).length ≤ cap3 := by
    obtain ⟨_, _, e, h, _⟩ := own_slice0 ho
    injection e with _ _ e
    omega
  replace H := Lib.hid (H.out.more (Y' := fun b => ∃ a, A3 = some a ∧ b = a.block) hb1 fun b ⟨a, ha, hb⟩ => by
    have := own_block ho ha
    exact .inr ⟨by omega, by omega⟩)
  have HV := Lib.hid (Sees.own ho)
  rw [HTO.out]
  clear hb1 ho HTO
  generalize snapS c.s u = S at *
  go_wp2_with fail
  go_loopw [11] (fun i wr => ∃ (n : Nat) (c' : Vt), n ≤ m.length ∧ n ≤ 40 ∧ i = .int .i64 (n : Int) ∧ Hid (Stay S c'.s u) ∧ Vp w wr g c' (40 + n) (fun b => ∃ a, A3 = some a ∧ b = a.block) ∧ Sees wr wr.heap.size 2 A3 S.length (flat encE S)) (fun i _ => m.length - (intOf i).toNat)
  case atStart => exact ⟨0, c, by omega, by omega, rfl, HST, H.out, HV.out⟩
  case round =>
    obtain ⟨n, c', hn1, hn2, rfl, HI, hp, hv⟩ := hrel
    have HP := Lib.hid hp
    have HVR := Lib.hid hv
    clear hp hv H HST HV
    by_cases hlt : n < m.length ∧ n < 40
    · obtain ⟨h1, h2⟩ := hlt
      obtain ⟨o, ho⟩ : ∃ o, m[n]? = some o := ⟨_, List.getElem?_eq_getElem h1⟩
      obtain ⟨b0, off, rfl, hb, hcc⟩ := (HS.out.below HP.out.bel).item encO_len (by omega) n o ho
      have HONE := Lib.hid (one_any o (HGO.out o (List.mem_of_getElem? ho)) HP.out (by omega))
      have HI2 : Hid (Stay S (oneV c' o).s u) := Lib.hid (stays_one HI.out o)
      have q0 := hcc 0 _ rfl
      have q1 := hcc 1 _ rfl
      have q2 := hcc 2 _ rfl
      have q3 := hcc 3 _ rfl
      have q4 := hcc 4 _ rfl
      have q5 := hcc 5 _ rfl
      rw [Nat.add_zero] at q0
      have i1 : (n : Int) < (m.length : Int) := by omega
      have i2 : (n : Int) < 40 := by omega
      clear hcc ho
      go_wp2_with fail
      refine HONE.out.mono ?_
      rintro e w4 ⟨rfl, hp, hk⟩
      have HP2 := Lib.hid hp
      have HV2 := Lib.hid (sees_keep HVR.out hk fun _ a ha => ⟨a, ha, rfl⟩)
      clear hp hk
      go_wp2_with fail
      go_roundw
      case rel => exact ⟨n + 1, _, by omega, by omega, by go_num, HI2, HP2.out, HV2.out⟩
      case measure => simp [intOf]; omega
    · have hend : ((n : Int) < (m.length : Int) ∧ n = 40) ∨ (¬ (n : Int) < (m.length : Int)) := by omega
      have HSN := Lib.hid (vp_snap u HP.out)
      have hst := stay_end HI.out
      clear HI
      rcases hst with ⟨e1, e2⟩ | ⟨e1, e2, e3⟩
      · rw [e1, e2] at HSN
        clear e1 e2
        rcases hend with ⟨i1, rfl⟩ | i1
        all_goals
          go_wp2_with fail
          refine HSN.out.mono ?_
          rintro r w4 ⟨A4, cap4, rfl, hb, ho⟩
          have hroom4 : S.length ≤ cap4 := by
            obtain ⟨_, _, e, h, _⟩ := own_slice0 ho
            injection e with _ _ e
            omega
          have HSM := Lib.hid (rsame_any A3 cap3 A4 cap4 S w4 ((HVR.out.below hb).more hb.size) (Sees.own ho) hroom hroom4 (by omega))
          have HP4 := Lib.hid (HP.out.call hb)
          clear hb ho HSN
          go_wp2_with fail
          refine HSM.out.mono ?_
          rintro r w5 ⟨rfl, hb⟩
          have HP5 := Lib.hid (HP4.out.call hb)
          clear hb
          go_wp2_with fail
          go_ret
          exact ⟨rfl, HP5.out.bel⟩
      · rw [e1, e2] at HSN
        have HMK := Lib.hid e3
        clear e1 e2 e3
        rcases hend with ⟨i1, rfl⟩ | i1
        all_goals
          go_wp2_with fail
          refine HSN.out.mono ?_
          rintro r w4 ⟨A4, cap4, rfl, hb, ho⟩
          have HP4 := Lib.hid (HP.out.call hb)
          clear hb ho HSN
          obtain ⟨gz, sg, gc, -, HMA⟩ := HP4.out.face
          have HMA := Lib.hid HMA
          have i5 := HMK.out
          go_wp2_with fail
          refine (HMA.out w4 (Below.refl _ _)).mono ?_
          rintro r w5 ⟨rfl, e5⟩
          subst w5
          go_wp2_with fail
          go_ret
          exact ⟨rfl, HP4.out.bel⟩

set_option maxRecDepth 100000 in
theorem lifted (os : Os) (started : os.Started) (H : Type) (enc : TypeId × Value → H) :
    ReturnsInHanded {} Tryz.checked os 3 .any (Rows.vaultStaysSpec.pre6 enc Tryz.prog Tryz.f3 Rows.vaultStaysRow.domain false) (Rows.vaultStaysSpec.post enc Tryz.prog Tryz.f3 false true false false) := by
  refine returnsInHanded_of_change (C := Tryz.checked) own started (by kernel_rfl) Tryz.func3
    (ChangeSpec.witness6 (enc := enc) (C := Tryz.checked) false ⟨#[], #[.float .f64 0, .slice none 0 0, .slice none 0 0], []⟩ 8 (by kernel_rfl) (by kernel_rfl) (by kernel_rfl) (by kernel_rfl)) ?_
  intro W base args ds gs before hval0 hW hcnd _
  have hval : ∀ (j : Nat) t v, Tryz.f3.params[j]? = some t → args[j]? = some v → Value.okWide Tryz.prog W .any base t v := hval0
  have hW' := hW
  obtain ⟨p, q, hA0, hV, rfl, hfz, hnd⟩ := hW
  have hA : DataW.TrodAll enc Tryz.prog W 0 (fun _ => true) true Tryz.f3.params.toList args.toList ds p := hA0
  rw [Tryz.params3] at hA hval
  obtain ⟨v0, vs0, d0, ds0, p0, q0, hargs, rfl, rfl, h0, r0⟩ := trodAll_cons hA
  obtain ⟨v1, vs1, d1, ds1, p1, q1, rfl, rfl, rfl, h1, r1⟩ := trodAll_cons r0
  obtain ⟨v2, vs2, d2, ds2, p2, q2, rfl, rfl, rfl, h2, r2⟩ := trodAll_cons r1
  obtain ⟨rfl, rfl, rfl⟩ := trodAll_nil r2
  obtain rfl : args = #[v0, v1, v2] := by cases args; simp_all
  obtain ⟨rfl, rfl⟩ := trodVars_none hV
  obtain ⟨a0, rfl⟩ := okWide_float Tryz.underlying22 (hval 0 22 v0 rfl rfl)
  have w0 : a0 < 18446744073709551616 := by
    obtain ⟨m, hm⟩ := h0
    obtain ⟨s, hs, hl⟩ := float_of (k := .f64) Tryz.underlying22 hm
    simp [Value.cells] at hs
    rw [hs]; simpa [Lit.wf] using hl
  have lt0 : ∀ x ∈ p0, x.block < W.heap.size := by obtain ⟨m, hm⟩ := h0; exact DataW.trod_lt m _ _ _ hm
  obtain ⟨A1, len1, cap1, rfl⟩ := okWide_slice Tryz.underlying23 (hval 1 23 v1 rfl rfl)
  obtain ⟨l1, w1⟩ := open_ops h1
  have lt1 : ∀ x ∈ p1, x.block < W.heap.size := by obtain ⟨m, hm⟩ := h1; exact DataW.trod_lt m _ _ _ hm
  obtain ⟨A2, len2, cap2, rfl⟩ := okWide_slice Tryz.underlying23 (hval 2 23 v2 rfl rfl)
  obtain ⟨l2, w2⟩ := open_ops h2
  have lt2 : ∀ x ∈ p2, x.block < W.heap.size := by obtain ⟨m, hm⟩ := h2; exact DataW.trod_lt m _ _ _ hm
  clear hA0 hval0
  simp only [List.append_nil] at hW'
  refine (walk a0 w0 A1 len1 cap1 l1 A2 len2 cap2 l2 W w1 w2).mono fun e W' ⟨he, bel⟩ => ?_
  subst he
  exact ⟨_, rfl, _, _, _, [], _, [], hW', trodAll_mk1 (shut_bool Tryz.underlying4 _), (trodAll_cons_mk (Below.trod laidOut (by kernel_rfl) (of_decide_eq_true (by kernel_rfl)) h0 bel lt0) (trodAll_cons_mk (Below.trod laidOut (by kernel_rfl) (of_decide_eq_true (by kernel_rfl)) h1 bel lt1) (trodAll_cons_mk (Below.trod laidOut (by kernel_rfl) (of_decide_eq_true (by kernel_rfl)) h2 bel lt2) trodAll_mk0))), rfl, bel.frame _, fun h => by cases h⟩

theorem proved : Rows.VaultStaysSaid :=
  OpenClaim.holds_of_wide 3 Tryz.f3 rfl rfl rfl rfl rfl rfl rfl ⟨rfl, rfl, rfl, rfl, rfl⟩ rfl rfl rfl rfl rfl (by kernel_rfl) Tryz.func3 (by kernel_rfl)
    (of_decide_eq_true (by kernel_rfl)) (by unfold Func.isWrapper; first | (rw [if_pos (by decide +kernel)]; kernel_rfl) | (rw [if_neg (by decide +kernel)]; exact ⟨rfl, rfl⟩))
    (fun os started H enc _ => lifted os started H enc)
#print axioms proved
end Go.Proofs.YtckhddndeojobaaGreat.vaultStays
