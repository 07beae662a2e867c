/- What a snapshot told of a time once it tells always, whatever is put, closed and pruned later, until that time is pruned away; for every input, without conditions (of more calls the first 30 are made, and then the first 30). -/
import Derived.Test.YteneofbenfebgaaStoL
namespace Go.Proofs.Yteneofbenfebgaa.storeStays
open Go.ChangeShapes Go.WideShapes Go.ChangeAt Go.RowKit Go.Cn Go.So
set_option linter.unusedVariables false
set_option linter.unusedSimpArgs false

set_option maxHeartbeats 16000000 in
set_option maxRecDepth 100000 in
theorem walk (A : Option Addr) (len cap : Nat) (l : List Op12) (A' : Option Addr) (len' cap' : Nat) (m : List Op12) (s : Int) (hs0 : -9223372036854775808 ≤ s ∧ s ≤ 9223372036854775807) (w : World) (hL : IsR w A len cap 4 encO (GO w) l) (hM : IsR w A' len' cap' 4 encO (GO w) m) :
    Calls Try.prog 4 #[.slice A len cap, .slice A' len' cap', .int .i64 s] w fun r w' => r = .returned (.bool true) ∧ Below w.heap.size w w' := by
  have HMA := Lib.hid (made_any A len cap l w hL _ rfl)
  obtain ⟨hlen, hs, hc1, hc2, hnil, hg⟩ := hM
  subst hlen
  have HS := Lib.hid hs
  have HGO := Lib.hid hg
  clear hs hg hnil hL
  generalize w.heap.size + 1 = g at *
  go_enter Try.func4, Try.ntmps4
  go_wp2_with fail
  refine HMA.out.mono ?_
  rintro r w1 ⟨rfl, hp⟩
  have H := Lib.hid hp
  clear hp HMA
  generalize mk l (min l.length 30) = c at *
  go_wp2_with fail
  refine (awake_any _).mono ?_
  rintro r w2 ⟨rfl, hb1⟩
  replace H := Lib.hid (H.out.call hb1)
  clear hb1
  go_wp2_with fail
  refine (psnap s H.out).mono ?_
  rintro r w3 ⟨A3, cap3, rfl, hb1, ho⟩
  have hn3 : (snapS c s).length ≤ 8192 := by
    unfold snapS
    split
    · exact snap_len c s
    · simp
  have HST : Hid (tellsE c s = 0 → Stay (snapS c s) c s) := Lib.hid fun h0 => .inl ⟨h0, by unfold snapS; rw [if_pos h0]⟩
  have hzero : tellsE c s ≠ 0 → (snapS c s).length = 0 := fun h0 => by unfold snapS; rw [if_neg h0]; rfl
  have HZ := Lib.hid hzero
  have hroom : (snapS c s).length ≤ cap3 := by
    obtain ⟨_, _, e, h, _⟩ := own_slice0 ho
    injection e with _ _ e
    omega
  replace H := Lib.hid (H.out.more (Y' := fun b => ∃ a, A3 = some a ∧ b = a.block) hb1 fun b ⟨a, ha, hb⟩ => by
    have := own_block ho ha
    exact .inr ⟨by omega, by omega⟩)
  have HV := Lib.hid (Sees.own ho)
  clear hb1 ho hzero
  generalize snapS c s = S at *
  generalize tellsE c s = E at *
  go_wp2_with fail
  go_loopw [10] (fun i wr => ∃ (n : Nat) (c' : Sto), n ≤ m.length ∧ n ≤ 30 ∧ i = .int .i64 (n : Int) ∧ Hid (E = 0 → Stay S c' s) ∧ Ps w wr [] g c' (fun b => ∃ a, A3 = some a ∧ b = a.block) ∧ Sees wr wr.heap.size 2 A3 S.length (flat encE S)) (fun i _ => m.length - (intOf i).toNat)
  case atStart => exact ⟨0, c, by omega, by omega, rfl, HST, H.out, HV.out⟩
  case round =>
    obtain ⟨n, c', hn1, hn2, rfl, HI, hp, hv⟩ := hrel
    have HP := Lib.hid hp
    have HVR := Lib.hid hv
    clear hp hv H HST HV
    by_cases hlt : n < m.length ∧ n < 30
    · obtain ⟨h1, h2⟩ := hlt
      obtain ⟨o, ho⟩ : ∃ o, m[n]? = some o := ⟨_, List.getElem?_eq_getElem h1⟩
      obtain ⟨b0, off, rfl, hb, hcc⟩ := (HS.out.below HP.out.st.below).item encO_len (by omega) n o ho
      have HONE := Lib.hid (one_any o (HGO.out o (List.mem_of_getElem? ho)) HP.out)
      have HI2 : Hid (E = 0 → Stay S (run1 c' o) s) := Lib.hid fun h0 => stay_run (HI.out h0) o
      have q0 := hcc 0 _ rfl
      have q1 := hcc 1 _ rfl
      have q2 := hcc 2 _ rfl
      have q3 := hcc 3 _ rfl
      rw [Nat.add_zero] at q0
      have i1 : (n : Int) < (m.length : Int) := by omega
      have i2 : (n : Int) < 30 := by omega
      clear hcc ho
      go_wp2_with fail
      refine HONE.out.mono ?_
      rintro e w4 ⟨rfl, hp, hk⟩
      have HP2 := Lib.hid hp
      have HV2 := Lib.hid (sees_keep HVR.out hk fun _ a ha => ⟨a, ha, rfl⟩)
      clear hp hk
      go_wp2_with fail
      go_roundw
      case rel => exact ⟨n + 1, _, by omega, by omega, by go_num, HI2, HP2.out, HV2.out⟩
      case measure => simp [intOf]; omega
    · have hend : ((n : Int) < (m.length : Int) ∧ n = 30) ∨ (¬ (n : Int) < (m.length : Int)) := by omega
      have HSN := Lib.hid (psnap s HP.out)
      by_cases h0 : E = 0
      · have hst := stay_end (HI.out h0)
        subst h0
        clear HI HZ
        rcases hst with ⟨e1, e2⟩ | ⟨e1, e2, e3⟩
        · rw [e1, e2] at HSN
          clear e1 e2
          rcases hend with ⟨i1, rfl⟩ | i1
          all_goals
            go_wp2_with fail
            refine HSN.out.mono ?_
            rintro r w4 ⟨A4, cap4, rfl, hb, ho⟩
            have hroom4 : S.length ≤ cap4 := by
              obtain ⟨_, _, e, h, _⟩ := own_slice0 ho
              injection e with _ _ e
              omega
            have HSM := Lib.hid (rsame_any A3 cap3 A4 cap4 S w4 ((HVR.out.below hb).more hb.size) (Sees.own ho) hroom hroom4 (by omega))
            have HP4 := Lib.hid (HP.out.call hb)
            clear hb ho HSN
            go_wp2_with fail
            refine HSM.out.mono ?_
            rintro r w5 ⟨rfl, hb⟩
            have HP5 := Lib.hid (HP4.out.call hb)
            clear hb
            go_wp2_with fail
            go_ret
            exact ⟨rfl, HP5.out.st.below⟩
        · rw [e1, e2] at HSN
          have HMK := Lib.hid e3
          clear e1 e2 e3
          rcases hend with ⟨i1, rfl⟩ | i1
          all_goals
            go_wp2_with fail
            refine HSN.out.mono ?_
            rintro r w4 ⟨A4, cap4, rfl, hb, ho⟩
            have HP4 := Lib.hid (HP.out.call hb)
            clear hb ho HSN
            go_wp2_with fail
            refine (pmark HP4.out).mono ?_
            rintro r w5 ⟨rfl, e5⟩
            subst w5
            have i5 := HMK.out
            go_wp2_with fail
            go_ret
            exact ⟨rfl, HP4.out.st.below⟩
      · have h1 : (E == 0) = false := by simpa using h0
        have h2 : ((S.length : Int) == 0) = true := by rw [HZ.out h0]; rfl
        have h3 : S.length = 0 := HZ.out h0
        clear HI HZ h0
        rcases hend with ⟨i1, rfl⟩ | i1
        all_goals
          go_wp2_with fail
          refine HSN.out.mono ?_
          rintro r w4 ⟨A4, cap4, rfl, hb, ho⟩
          have HP4 := Lib.hid (HP.out.call hb)
          clear hb ho HSN
          go_wp2_with fail
          go_ret
          exact ⟨rfl, HP4.out.st.below⟩

set_option maxRecDepth 100000 in
theorem lifted (os : Os) (started : os.Started) (H : Type) (enc : TypeId × Value → H) :
    ReturnsInHanded {} Try.checked os 4 .any (Rows.storeStaysSpec.pre6 enc Try.prog Try.f4 Rows.storeStaysRow.domain false) (Rows.storeStaysSpec.post enc Try.prog Try.f4 false true false false) := by
  refine returnsInHanded_of_change (C := Try.checked) own started (by kernel_rfl) Try.func4
    (ChangeSpec.witness6 (enc := enc) (C := Try.checked) false ⟨#[], #[.slice none 0 0, .slice none 0 0, .int .i64 0], []⟩ 8 (by kernel_rfl) (by kernel_rfl) (by kernel_rfl) (by kernel_rfl)) ?_
  intro W base args ds gs before hval0 hW hcnd _
  have hval : ∀ (j : Nat) t v, Try.f4.params[j]? = some t → args[j]? = some v → Value.okWide Try.prog W .any base t v := hval0
  have hW' := hW
  obtain ⟨p, q, hA0, hV, rfl, hfz, hnd⟩ := hW
  have hA : DataW.TrodAll enc Try.prog W 0 (fun _ => true) true Try.f4.params.toList args.toList ds p := hA0
  rw [Try.params4] at hA hval
  obtain ⟨v0, vs0, d0, ds0, p0, q0, hargs, rfl, rfl, h0, r0⟩ := trodAll_cons hA
  obtain ⟨v1, vs1, d1, ds1, p1, q1, rfl, rfl, rfl, h1, r1⟩ := trodAll_cons r0
  obtain ⟨v2, vs2, d2, ds2, p2, q2, rfl, rfl, rfl, h2, r2⟩ := trodAll_cons r1
  obtain ⟨rfl, rfl, rfl⟩ := trodAll_nil r2
  obtain rfl : args = #[v0, v1, v2] := by cases args; simp_all
  obtain ⟨rfl, rfl⟩ := trodVars_none hV
  obtain ⟨A0, len0, cap0, rfl⟩ := okWide_slice Try.underlying22 (hval 0 22 v0 rfl rfl)
  obtain ⟨l0, w0⟩ := open_ops h0
  have lt0 : ∀ x ∈ p0, x.block < W.heap.size := by obtain ⟨m, hm⟩ := h0; exact DataW.trod_lt m _ _ _ hm
  obtain ⟨A1, len1, cap1, rfl⟩ := okWide_slice Try.underlying22 (hval 1 22 v1 rfl rfl)
  obtain ⟨l1, w1⟩ := open_ops h1
  have lt1 : ∀ x ∈ p1, x.block < W.heap.size := by obtain ⟨m, hm⟩ := h1; exact DataW.trod_lt m _ _ _ hm
  obtain ⟨a2, rfl⟩ := okWide_int Try.underlying2 (hval 2 2 v2 rfl rfl)
  have w2 : -9223372036854775808 ≤ a2 ∧ a2 ≤ 9223372036854775807 := by
    obtain ⟨m, hm⟩ := h2
    obtain ⟨s, hs, _, hl⟩ := DataW.trod_int Try.underlying2 hm
    simp [Value.cells] at hs
    rw [hs]; have := bounds_i64 hl; omega
  have lt2 : ∀ x ∈ p2, x.block < W.heap.size := by obtain ⟨m, hm⟩ := h2; exact DataW.trod_lt m _ _ _ hm
  clear hA0 hval0
  simp only [List.append_nil] at hW'
  refine (walk A0 len0 cap0 l0 A1 len1 cap1 l1 a2 w2 W w0 w1).mono fun e W' ⟨he, bel⟩ => ?_
  subst he
  exact ⟨_, rfl, _, _, _, [], _, [], hW', trodAll_mk1 (shut_bool Try.underlying4 _), (trodAll_cons_mk (Below.trod laidOut (by kernel_rfl) (of_decide_eq_true (by kernel_rfl)) h0 bel lt0) (trodAll_cons_mk (Below.trod laidOut (by kernel_rfl) (of_decide_eq_true (by kernel_rfl)) h1 bel lt1) (trodAll_cons_mk (Below.trod laidOut (by kernel_rfl) (of_decide_eq_true (by kernel_rfl)) h2 bel lt2) trodAll_mk0))), rfl, bel.frame _, fun h => by cases h⟩

theorem proved : Rows.StoreStaysSaid :=
  OpenClaim.holds_of_wide 4 Try.f4 rfl rfl rfl rfl rfl rfl rfl ⟨rfl, rfl, rfl, rfl, rfl⟩ rfl rfl rfl rfl rfl (by kernel_rfl) Try.func4 (by kernel_rfl)
    (of_decide_eq_true (by kernel_rfl)) (by unfold Func.isWrapper; first | (rw [if_pos (by decide +kernel)]; kernel_rfl) | (rw [if_neg (by decide +kernel)]; exact ⟨rfl, rfl⟩))
    (fun os started H enc _ => lifted os started H enc)
#print axioms proved
end Go.Proofs.Yteneofbenfebgaa.storeStays
