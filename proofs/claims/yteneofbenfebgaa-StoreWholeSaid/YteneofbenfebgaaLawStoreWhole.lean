/- Of what was put at one stamp a time sees all, or nothing; for every input, without conditions (of more calls the first 30 are made, of more entries the first 120 are put). -/
import Derived.Test.YteneofbenfebgaaStoL
namespace Go.Proofs.Yteneofbenfebgaa.storeWhole
open Go.ChangeShapes Go.WideShapes Go.ChangeAt Go.RowKit Go.Cn Go.So
set_option linter.unusedVariables false
set_option linter.unusedSimpArgs false

theorem whole_op (a b c v : Value) (x : World) : (Instr.field 33 (.agg #[a, b, c, v]) 3).run Try.prog x = .ok v x := by kernel_rfl
set_option maxHeartbeats 16000000 in
set_option maxRecDepth 100000 in
theorem walk (A : Option Addr) (len cap : Nat) (l : List Op12) (t : Int) (A' : Option Addr) (cap' : Nat) (en : List En) (u : Int) (hu0 : -9223372036854775808 ≤ u ∧ u ≤ 9223372036854775807) (w : World) (hL : IsR w A len cap 4 encO (GO w) l) (hE : W64 t ∧ Er w A' cap' en ∧ (A' = none → cap' = 0)) :
    Calls Try.prog 5 #[.slice A len cap, .agg #[.int .i64 t, .slice A' en.length cap'], .int .i64 u] w fun r w' => r = .returned (.bool true) ∧ Below w.heap.size w w' := by
  obtain ⟨ht, her, hnil⟩ := hE
  have HNIL := Lib.hid hnil
  clear hnil
  have HB0 := Lib.hid ((Below.refl w.heap.size w).alloc (Nat.le_refl _) (.cells #[.int .i64 t, .slice A' en.length cap'] 52))
  have HBX := Lib.hid (Whole.fresh w 52 #[.int .i64 t, .slice A' en.length cap'])
  have HER := Lib.hid (her.call HB0.out)
  have HMA := Lib.hid (made_any A len cap l _ (isr_call hL HB0.out) _ rfl)
  have hroom := her.room
  have hcap := her.top
  clear hL her
  have HO : Hid (∀ W, Er W A' cap' en → Er W A' cap' (en.take 120)) := Lib.hid fun W h => (GO.few (o := ⟨0, 0, 0, A', cap', en⟩) ⟨w64s 0 (by simp), w64s 0 (by simp), w64s 0 (by simp), h, HNIL.out⟩).row
  have HFEW := Lib.hid (fun w0 => few_any ⟨0, 0, 0, A', cap', en⟩ w0 hroom hcap)
  have HF2 : Hid (aggO (few12 ⟨0, 0, 0, A', cap', en⟩) = .agg #[.int .i64 0, .int .i64 0, .int .i64 0, .slice A' (en.take 120).length cap']) := Lib.hid rfl
  rw [HF2.out] at HFEW
  replace HFEW : Hid (∀ w0, Calls Try.prog 12 #[.agg #[.int .i64 0, .int .i64 0, .int .i64 0, .slice A' en.length cap']] w0 fun e w' => e = .returned (.agg #[.int .i64 0, .int .i64 0, .int .i64 0, .slice A' (en.take 120).length cap']) ∧ Below w0.heap.size w0 w') := HFEW
  replace HER := Lib.hid (HO.out _ HER.out)
  clear HF2 HO
  have hbx := HBX.out
  have b0 := hbx.cell 0
  have b1 := hbx.cell 1
  have bz := hbx.lt
  clear hbx
  have HFR : Hid ((en.take 120).length ≤ cap') := Lib.hid HER.out.room
  generalize hfl : en.take 120 = fl at *
  clear hfl
  have HBW0 := Lib.hid HB0.out
  clear HB0
  generalize hW : w.alloc (.cells #[.int .i64 t, .slice A' en.length cap'] 52) = W at *
  have HW := Lib.hid hW
  clear hW
  generalize W.heap.size + 1 = g at *
  go_enter Try.func5, Try.ntmps5
  go_wp2_with fail
  rw [HW.out]
  refine HMA.out.mono ?_
  rintro r w1 ⟨rfl, hp⟩
  have H := Lib.hid hp
  clear hp HMA
  generalize mk l (min l.length 30) = c at *
  go_wp2_with fail
  refine (awake_any _).mono ?_
  rintro r w2 ⟨rfl, hb1⟩
  replace H := Lib.hid (H.out.call hb1)
  clear hb1 b0 b1 bz
  have hbx := HBX.out.below H.out.st.below HBX.out.lt
  have b0 := hbx.cell 0
  have b1 := hbx.cell 1
  have bz := hbx.lt
  clear hbx
  go_wp2_with fail
  refine (HFEW.out _).mono ?_
  rintro r w3 ⟨rfl, hb1⟩
  replace H := Lib.hid ((H.out.call hb1).alloc w3.heap.size rfl 33 #[.int .i64 0, .int .i64 0, .int .i64 0, .slice A' fl.length cap'])
  clear hb1 b0 b1 bz HFEW
  have hbx := HBX.out.below H.out.st.below HBX.out.lt
  have b0 := hbx.cell 0
  have b1 := hbx.cell 1
  have bz := hbx.lt
  clear hbx
  have hq := H.out.st.knows.at 0 rfl
  have o3 := hq.cell 3
  have oz := hq.lt
  clear hq
  have HPUT := Lib.hid (pput t H.out (HER.out.old H.out) fun hn a ha => .inl (er_far HER.out hn a ha))
  have HFN := Lib.hid H.out.fine
  by_cases e0 : putSE c t fl = 0
  case neg =>
    have e1 : (putSE c t fl == 0) = false := by simpa using e0
    have e5 : (putSE c t fl != 0) = true := by simpa using e0
    generalize putSE c t fl = E at *
    go_wp2_with fail
    refine HPUT.out.mono ?_
    rintro r w4 ⟨rfl, hp, -⟩
    have HP4 := Lib.hid hp
    clear hp HPUT
    go_wp2_with fail
    go_ret
    exact ⟨rfl, HBW0.out.trans (HP4.out.st.below.mono (by have := HBW0.out.size; omega))⟩
  have HE0 := Lib.hid e0
  rw [e0] at HPUT
  clear e0
  go_wp2_with fail
  refine HPUT.out.mono ?_
  rintro r w4 ⟨rfl, hp, -⟩
  replace H := Lib.hid hp
  clear hp HPUT b0 b1 bz o3 oz
  have HCL := Lib.hid (pclose u H.out)
  by_cases e1 : closeSE u = 0
  case neg =>
    have e2 : (closeSE u == 0) = false := by simpa using e1
    have e5 : (closeSE u != 0) = true := by simpa using e1
    generalize closeSE u = E at *
    go_wp2_with fail
    refine HCL.out.mono ?_
    rintro r w5 ⟨rfl, hp, -⟩
    have HP5 := Lib.hid hp
    clear hp HCL
    go_wp2_with fail
    go_ret
    exact ⟨rfl, HBW0.out.trans (HP5.out.st.below.mono (by have := HBW0.out.size; omega))⟩
  have HE1 := Lib.hid e1
  rw [e1] at HCL
  clear e1
  go_wp2_with fail
  refine HCL.out.mono ?_
  rintro r w5 ⟨rfl, hp, -⟩
  replace H := Lib.hid hp
  clear hp HCL
  go_wp2_with fail
  refine (pmark H.out).mono ?_
  rintro r w6 ⟨rfl, e6⟩
  subst w6
  by_cases e3 : u < (closeS (putS c t fl) u).mark
  case pos =>
    generalize (closeS (putS c t fl) u).mark = M at *
    go_wp2_with fail
    go_ret
    exact ⟨rfl, HBW0.out.trans (H.out.st.below.mono (by have := HBW0.out.size; omega))⟩
  have HG : Hid (∀ e ∈ fl, (t ≤ u ∧ getSE (closeS (putS c t fl) u) e.1 u = 0 ∧ getSV (closeS (putS c t fl) u) e.1 u = (t, e.2)) ∨ (u < t ∧ (getSE (closeS (putS c t fl) u) e.1 u = 127 ∨ getSE (closeS (putS c t fl) u) e.1 u = 0 ∧ (getSV (closeS (putS c t fl) u) e.1 u).1 ≠ t))) :=
    Lib.hid fun e he => get_whole HFN.out HE0.out HE1.out (by omega) he
  generalize closeS (putS c t fl) u = S at *
  have e4 : ¬ u < S.mark := e3
  clear e3 HE0 HE1 HFN
  generalize S.mark = M at *
  go_wp2_with fail
  have hflr := HFR.out
  go_loopw [9] (fun i wr => ∃ n : Nat, n ≤ fl.length ∧ i = .int .i64 (n : Int) ∧ Ps W wr [(w3.heap.size, 33, #[.int .i64 0, .int .i64 0, .int .i64 0, .slice A' fl.length cap'])] g S (fun _ => False)) (fun i _ => fl.length - (intOf i).toNat)
  case atStart => exact ⟨0, by omega, rfl, H.out⟩
  case round =>
    obtain ⟨n, hn1, rfl, hp⟩ := hrel
    have HP := Lib.hid hp
    clear hp H
    have hq := HP.out.st.knows.at 0 rfl
    have o3 := hq.cell 3
    have oz := hq.lt
    clear hq
    by_cases hlt : n < fl.length
    · obtain ⟨e, he⟩ : ∃ e, fl[n]? = some e := ⟨_, List.getElem?_eq_getElem hlt⟩
      obtain ⟨b0, off, rfl, hb, hcc⟩ := (HER.out.old HP.out).sees.item encE_len (by omega) n e he
      have q0 := hcc 0 _ rfl
      have q1 := hcc 1 _ rfl
      rw [Nat.add_zero] at q0
      have HV := Lib.hid he
      have HGE := Lib.hid (HG.out e (List.mem_of_getElem? he))
      have HGT := Lib.hid (pget e.1 u HP.out)
      have i1 : (n : Int) < (fl.length : Int) := by omega
      clear hcc he
      generalize getSE S e.1 u = E at *
      generalize getSV S e.1 u = V at *
      obtain ⟨V1, V2⟩ := V
      simp only at HGE
      go_wp2_with fail
      refine HGT.out.mono ?_
      rintro r w7 ⟨rfl, hb7⟩
      have HPV := Lib.hid ((HP.out.call hb7).alloc w7.heap.size rfl 36 #[.int .i64 V1, .int .i64 V2])
      clear hb7 HGT o3 oz q0 q1
      have hbx := HBX.out.below HPV.out.st.below HBX.out.lt
      have b0' := hbx.cell 0
      have bz := hbx.lt
      have v0 := (HPV.out.st.knows.at 0 rfl).cell 0
      have v1 := (HPV.out.st.knows.at 0 rfl).cell 1
      clear hbx
      rcases HGE.out with ⟨h1, h2, h3⟩ | ⟨h1, h2⟩
      · subst h2
        have j1 : (t ≤ u) = True := eq_true h1
        have j5 : (V1 == t) = true := by injection h3 with h3 h4; simpa using h3
        have j6 : (V2 == e.2) = true := by injection h3 with h3 h4; simpa using h4
        clear HGE h3
        obtain ⟨C, hC, HCc, HCf⟩ := below_class (w7.alloc (.cells #[.int .i64 V1, .int .i64 V2] 36))
        go_wp2_with fail
        refine region_in C hC (by kernel_rfl) (by kernel_rfl) ?_
        iterate 20
          (refine WQ.step (fun K hK => ?_)
           go_simp
           try simp only [j1, j5, j6, if_true, if_false, decide_true, decide_false, Bool.or_false, Bool.and_false, Bool.true_and, bne_self_eq_false, beq_self_eq_true, Bool.not_true, Bool.not_false]
           first
             | (refine hK _ ?_; clear hK K)
             | (apply Exists.intro
                refine ⟨fun x hx => ?_, hK _ ?_⟩
                · first
                    | rfl
                    | (have hp := HPV.out.call (HCf.out _ hx); have v0 := (hp.st.knows.at 0 rfl).cell 0; have v1 := (hp.st.knows.at 0 rfl).cell 1; have o3 := (hp.st.knows.at 1 rfl).cell 3; have b0 := (HBX.out.below hp.st.below HBX.out.lt).cell 0; obtain ⟨bb, oo, hA, -, hcc⟩ := (HER.out.old hp).sees.item encE_len (by omega) n e HV.out; injection hA with hA; injection hA with e1 e2; subst e1 e2; have g1 := hcc 1 _ rfl; go_simp; rfl)
                clear hK K))
        refine WQ.nil ?_
        intro w8 hw
        have HBW := Lib.hid (HCf.out _ hw)
        clear hw hC HCc HCf C
        have HP8 := Lib.hid ((HPV.out.call HBW.out).few (L' := [(w3.heap.size, 33, #[.int .i64 0, .int .i64 0, .int .i64 0, .slice (some ⟨b0, off, none⟩) fl.length cap'])]) (by simp))
        go_wp2_with fail
        go_roundw
        case rel => exact ⟨n + 1, by omega, by go_num, HP8.out⟩
        case measure => simp [intOf]; omega
      · have j1 : (t ≤ u) = False := eq_false (by omega)
        rcases h2 with h2 | ⟨h2, h3⟩
        · subst h2
          clear HGE
          obtain ⟨C, hC, HCc, HCf⟩ := below_class (w7.alloc (.cells #[.int .i64 V1, .int .i64 V2] 36))
          go_wp2_with fail
          refine region_in C hC (by kernel_rfl) (by kernel_rfl) ?_
          iterate 20
            (refine WQ.step (fun K hK => ?_)
             go_simp
             try simp only [j1, if_true, if_false, decide_true, decide_false, Bool.or_false, Bool.and_false, Bool.true_and, bne_self_eq_false, beq_self_eq_true, Bool.not_true, Bool.not_false]
             first
               | (refine hK _ ?_; clear hK K)
               | (apply Exists.intro
                  refine ⟨fun x hx => ?_, hK _ ?_⟩
                  · first
                      | rfl
                      | (have hp := HPV.out.call (HCf.out _ hx); have v0 := (hp.st.knows.at 0 rfl).cell 0; have v1 := (hp.st.knows.at 0 rfl).cell 1; have o3 := (hp.st.knows.at 1 rfl).cell 3; have b0 := (HBX.out.below hp.st.below HBX.out.lt).cell 0; obtain ⟨bb, oo, hA, -, hcc⟩ := (HER.out.old hp).sees.item encE_len (by omega) n e HV.out; injection hA with hA; injection hA with e1 e2; subst e1 e2; have g1 := hcc 1 _ rfl; go_simp; rfl)
                  clear hK K))
          refine WQ.nil ?_
          intro w8 hw
          have HBW := Lib.hid (HCf.out _ hw)
          clear hw hC HCc HCf C
          have HP8 := Lib.hid ((HPV.out.call HBW.out).few (L' := [(w3.heap.size, 33, #[.int .i64 0, .int .i64 0, .int .i64 0, .slice (some ⟨b0, off, none⟩) fl.length cap'])]) (by simp))
          go_wp2_with fail
          go_roundw
          case rel => exact ⟨n + 1, by omega, by go_num, HP8.out⟩
          case measure => simp [intOf]; omega
        · subst h2
          have j3 : (V1 == t) = false := by simpa using h3
          clear HGE
          obtain ⟨C, hC, HCc, HCf⟩ := below_class (w7.alloc (.cells #[.int .i64 V1, .int .i64 V2] 36))
          go_wp2_with fail
          refine region_in C hC (by kernel_rfl) (by kernel_rfl) ?_
          iterate 20
            (refine WQ.step (fun K hK => ?_)
             go_simp
             try simp only [j1, j3, if_true, if_false, decide_true, decide_false, Bool.or_false, Bool.and_false, Bool.true_and, bne_self_eq_false, beq_self_eq_true, Bool.not_true, Bool.not_false]
             first
               | (refine hK _ ?_; clear hK K)
               | (apply Exists.intro
                  refine ⟨fun x hx => ?_, hK _ ?_⟩
                  · first
                      | rfl
                      | (have hp := HPV.out.call (HCf.out _ hx); have v0 := (hp.st.knows.at 0 rfl).cell 0; have v1 := (hp.st.knows.at 0 rfl).cell 1; have o3 := (hp.st.knows.at 1 rfl).cell 3; have b0 := (HBX.out.below hp.st.below HBX.out.lt).cell 0; obtain ⟨bb, oo, hA, -, hcc⟩ := (HER.out.old hp).sees.item encE_len (by omega) n e HV.out; injection hA with hA; injection hA with e1 e2; subst e1 e2; have g1 := hcc 1 _ rfl; go_simp; rfl)
                  clear hK K))
          refine WQ.nil ?_
          intro w8 hw
          have HBW := Lib.hid (HCf.out _ hw)
          clear hw hC HCc HCf C
          have HP8 := Lib.hid ((HPV.out.call HBW.out).few (L' := [(w3.heap.size, 33, #[.int .i64 0, .int .i64 0, .int .i64 0, .slice (some ⟨b0, off, none⟩) fl.length cap'])]) (by simp))
          go_wp2_with fail
          go_roundw
          case rel => exact ⟨n + 1, by omega, by go_num, HP8.out⟩
          case measure => simp [intOf]; omega
    · obtain rfl : n = fl.length := by omega
      go_wp2_with fail
      go_ret
      exact ⟨rfl, HBW0.out.trans (HP.out.st.below.mono (by have := HBW0.out.size; omega))⟩

set_option maxRecDepth 100000 in
theorem lifted (os : Os) (started : os.Started) (H : Type) (enc : TypeId × Value → H) :
    ReturnsInHanded {} Try.checked os 5 .any (Rows.storeWholeSpec.pre6 enc Try.prog Try.f5 Rows.storeWholeRow.domain false) (Rows.storeWholeSpec.post enc Try.prog Try.f5 false true false false) := by
  refine returnsInHanded_of_change (C := Try.checked) own started (by kernel_rfl) Try.func5
    (ChangeSpec.witness6 (enc := enc) (C := Try.checked) false ⟨#[], #[.slice none 0 0, .agg #[.int .i64 0, .slice none 0 0], .int .i64 0], []⟩ 8 (by kernel_rfl) (by kernel_rfl) (by kernel_rfl) (by kernel_rfl)) ?_
  intro W base args ds gs before hval0 hW hcnd _
  have hval : ∀ (j : Nat) t v, Try.f5.params[j]? = some t → args[j]? = some v → Value.okWide Try.prog W .any base t v := hval0
  have hW' := hW
  obtain ⟨p, q, hA0, hV, rfl, hfz, hnd⟩ := hW
  have hA : DataW.TrodAll enc Try.prog W 0 (fun _ => true) true Try.f5.params.toList args.toList ds p := hA0
  rw [Try.params5] at hA hval
  obtain ⟨v0, vs0, d0, ds0, p0, q0, hargs, rfl, rfl, h0, r0⟩ := trodAll_cons hA
  obtain ⟨v1, vs1, d1, ds1, p1, q1, rfl, rfl, rfl, h1, r1⟩ := trodAll_cons r0
  obtain ⟨v2, vs2, d2, ds2, p2, q2, rfl, rfl, rfl, h2, r2⟩ := trodAll_cons r1
  obtain ⟨rfl, rfl, rfl⟩ := trodAll_nil r2
  obtain rfl : args = #[v0, v1, v2] := by cases args; simp_all
  obtain ⟨rfl, rfl⟩ := trodVars_none hV
  obtain ⟨A0, len0, cap0, rfl⟩ := okWide_slice Try.underlying22 (hval 0 22 v0 rfl rfl)
  obtain ⟨l0, w0⟩ := open_ops h0
  have lt0 : ∀ x ∈ p0, x.block < W.heap.size := by obtain ⟨m, hm⟩ := h0; exact DataW.trod_lt m _ _ _ hm
  obtain ⟨t1, A1, c1, l1, rfl, w1⟩ := open_stamped (hval 1 52 v1 rfl rfl) h1
  have lt1 : ∀ x ∈ p1, x.block < W.heap.size := by obtain ⟨m, hm⟩ := h1; exact DataW.trod_lt m _ _ _ hm
  obtain ⟨a2, rfl⟩ := okWide_int Try.underlying2 (hval 2 2 v2 rfl rfl)
  have w2 : -9223372036854775808 ≤ a2 ∧ a2 ≤ 9223372036854775807 := by
    obtain ⟨m, hm⟩ := h2
    obtain ⟨s, hs, _, hl⟩ := DataW.trod_int Try.underlying2 hm
    simp [Value.cells] at hs
    rw [hs]; have := bounds_i64 hl; omega
  have lt2 : ∀ x ∈ p2, x.block < W.heap.size := by obtain ⟨m, hm⟩ := h2; exact DataW.trod_lt m _ _ _ hm
  clear hA0 hval0
  simp only [List.append_nil] at hW'
  refine (walk A0 len0 cap0 l0 t1 A1 c1 l1 a2 w2 W w0 w1).mono fun e W' ⟨he, bel⟩ => ?_
  subst he
  exact ⟨_, rfl, _, _, _, [], _, [], hW', trodAll_mk1 (shut_bool Try.underlying4 _), (trodAll_cons_mk (Below.trod laidOut (by kernel_rfl) (of_decide_eq_true (by kernel_rfl)) h0 bel lt0) (trodAll_cons_mk (Below.trod laidOut (by kernel_rfl) (of_decide_eq_true (by kernel_rfl)) h1 bel lt1) (trodAll_cons_mk (Below.trod laidOut (by kernel_rfl) (of_decide_eq_true (by kernel_rfl)) h2 bel lt2) trodAll_mk0))), rfl, bel.frame _, fun h => by cases h⟩

theorem proved : Rows.StoreWholeSaid :=
  OpenClaim.holds_of_wide 5 Try.f5 rfl rfl rfl rfl rfl rfl rfl ⟨rfl, rfl, rfl, rfl, rfl⟩ rfl rfl rfl rfl rfl (by kernel_rfl) Try.func5 (by kernel_rfl)
    (of_decide_eq_true (by kernel_rfl)) (by unfold Func.isWrapper; first | (rw [if_pos (by decide +kernel)]; kernel_rfl) | (rw [if_neg (by decide +kernel)]; exact ⟨rfl, rfl⟩))
    (fun os started H enc _ => lifted os started H enc)
#print axioms proved
end Go.Proofs.Yteneofbenfebgaa.storeWhole
