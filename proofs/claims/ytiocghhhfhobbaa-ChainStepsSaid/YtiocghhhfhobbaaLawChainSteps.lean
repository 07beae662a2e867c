/- Versions rise, what counts at a time is the last one that isn't above it, and of those that aren't above the mark one is left at most; for every input, without conditions (of more calls the first 60 are made). -/
import Derived.Test.YtiocghhhfhobbaaChnL
namespace Go.Proofs.Ytiocghhhfhobbaa.chainSteps
open Go.ChangeShapes Go.WideShapes Go.ChangeAt Go.RowKit Go.Cn
set_option linter.unusedVariables false
set_option linter.unusedSimpArgs false

set_option maxHeartbeats 16000000 in
set_option maxRecDepth 100000 in
theorem walk (A : Option Addr) (len cap : Nat) (l : List Op11) (s : Int) (hs0 : -9223372036854775808 ≤ s ∧ s ≤ 9223372036854775807) (w : World) (hL : IsR w A len cap 3 encO GO l) :
    Calls Try.prog 5 #[.slice A len cap, .int .i64 s] w fun r w' => r = .returned (.bool true) ∧ Below w.heap.size w w' := by
  have HMA := Lib.hid (made_any A len cap l w hL w.heap.size rfl)
  clear hL
  go_enter Try.func5, Try.ntmps5
  go_wp2_with fail
  refine HMA.out.mono ?_
  rintro r w1 ⟨rfl, hp⟩
  have H := Lib.hid hp
  have hok := hp.ok
  clear hp HMA
  generalize mk l (min l.length 60) = c at *
  have HK := Lib.hid hok
  have hfew := hok.few
  clear hok
  go_wp2_with fail
  refine (cawake_any _).mono ?_
  rintro r w2 ⟨rfl, hb1⟩
  replace H := Lib.hid (H.out.call hb1)
  clear hb1
  go_wp2_with fail
  refine (pget s H.out).mono ?_
  rintro r w3 ⟨rfl, hb1⟩
  replace H := Lib.hid ((H.out.call hb1).alloc w3.heap.size rfl 34 #[.int .i64 (getV c s).1, .int .i64 (getV c s).2])
  clear hb1
  have HG := Lib.hid (get_cases c s)
  have HN := Lib.hid (fun h v hv => get_none HK.out s h v hv)
  generalize getE c s = E at *
  generalize getV c s = V at *
  go_wp2_with fail
  refine (plist H.out).mono ?_
  rintro r w4 ⟨A4, c4, rfl, hb1, ho⟩
  replace H := Lib.hid (H.out.call hb1)
  have HR := Lib.hid (Rv.own ho rfl)
  have hroom := HR.out.room
  have htop := HR.out.top
  clear hb1 ho
  go_wp2_with fail
  go_loopw [9] (fun i wr => ∃ n : Nat, n ≤ c.l.length ∧ i = .int .i64 (n : Int) ∧ Below w4.heap.size w4 wr) (fun i _ => c.l.length - (intOf i).toNat)
  case atStart => exact ⟨0, by omega, rfl, Below.refl _ _⟩
  case round =>
    obtain ⟨n, hn, rfl, hb⟩ := hrel
    have HP := Lib.hid (H.out.call hb)
    have HR2 := Lib.hid (HR.out.call hb)
    have HB := Lib.hid hb
    clear hb
    by_cases hlt : n < c.l.length
    · obtain ⟨v, hv⟩ : ∃ v, c.l[n]? = some v := ⟨_, List.getElem?_eq_getElem hlt⟩
      obtain ⟨b0, off, rfl, hb0, g0, g1⟩ := HR2.out.cell n v hv
      obtain ⟨r0, r1⟩ := HK.out.range v (List.mem_of_getElem? hv)
      have i1 : (n : Int) < (c.l.length : Int) := by omega
      have hMK := Lib.hid (fun w0 (h : Pl w w0 [(w3.heap.size, 34, #[.int .i64 V.1, .int .i64 V.2])] w.heap.size c none 0 []) => pmark h)
      have HV := Lib.hid hv
      have j1 : (v.1 < 1) = False := eq_false (by omega)
      have j2 : (1125899906842624 < v.1) = False := eq_false (by omega)
      clear hv
      by_cases h0 : n = 0
      · have j0 : (0 < n) = False := eq_false (by omega)
        clear h0
        obtain ⟨C, hC, HCc, HCf⟩ := HP.out.class
        go_wp2_with fail
        refine region_in C hC (by kernel_rfl) (by kernel_rfl) ?_
        iterate 46
          (refine WQ.step (fun K hK => ?_)
           go_simp
           try simp only [j0, j1, j2, if_true, if_false, decide_true, decide_false, Bool.or_false, Bool.and_false]
           first
             | (refine hK _ ?_; clear hK K)
             | (apply Exists.intro
                refine ⟨fun x hx => ?_, hK _ ?_⟩
                · first
                    | rfl
                    | (go_at_call 15; refine (pmark (HCf.out _ hx).1).mono ?_; rintro e x1 ⟨rfl, rfl⟩; exact ⟨rfl, hx⟩)
                    | (obtain ⟨-, k0, k1⟩ := ((HR2.out.call (HCf.out _ hx).2)).cellAt n v HV.out; go_simp; rfl)
                clear hK K))
        refine WQ.nil ?_
        intro w5 hw5
        have HP5 := Lib.hid (HCf.out _ hw5).1
        have HB5 := Lib.hid (HB.out.trans ((HCf.out _ hw5).2.mono HB.out.size))
        clear hw5 hC HCc HCf C
        go_wp2_with fail
        go_roundw
        case rel => exact ⟨n + 1, by omega, by go_num, HB5.out⟩
        case measure => simp [intOf]; omega
      · obtain ⟨m, hm⟩ : ∃ m, n = m + 1 := ⟨n - 1, by omega⟩
        obtain ⟨v0, hv0⟩ : ∃ v, c.l[m]? = some v := ⟨_, List.getElem?_eq_getElem (by omega)⟩
        have HV0 := Lib.hid hv0
        have hr := HK.out.rise m n v0 v (by omega) hv0 HV.out
        have j3 : (v.1 ≤ v0.1) = False := eq_false (by omega)
        have j4 : (v.1 ≤ c.mark) = False := by
          have := HK.out.one m v (by rw [← hm]; exact HV.out)
          exact eq_false (by omega)
        have j0 : (0 < n) = True := eq_true (by omega)
        have q2 : (n : Int) - 1 = (m : Int) := by omega
        have i0 : (m : Int) < (c.l.length : Int) := by omega
        have q3 : IntKind.i64.wrap ((n : Int) - 1) = (m : Int) := by rw [IntKind.wrap_i64]; omega
        clear q2
        clear h0 hm hv0 hr
        obtain ⟨C, hC, HCc, HCf⟩ := HP.out.class
        go_wp2_with fail
        refine region_in C hC (by kernel_rfl) (by kernel_rfl) ?_
        iterate 46
          (refine WQ.step (fun K hK => ?_)
           go_simp
           try simp only [q3, j0, j1, j2, j3, j4, if_true, if_false, decide_true, decide_false, Bool.or_false, Bool.and_false, Bool.true_and]
           first
             | (refine hK _ ?_; clear hK K)
             | (apply Exists.intro
                refine ⟨fun x hx => ?_, hK _ ?_⟩
                · first
                    | rfl
                    | (go_at_call 15; refine (pmark (HCf.out _ hx).1).mono ?_; rintro e x1 ⟨rfl, rfl⟩; exact ⟨rfl, hx⟩)
                    | (obtain ⟨-, k0, k1⟩ := ((HR2.out.call (HCf.out _ hx).2)).cellAt n v HV.out; go_simp; rfl)
                    | (obtain ⟨-, k0, k1⟩ := ((HR2.out.call (HCf.out _ hx).2)).cellAt m v0 HV0.out; go_simp; rfl)
                clear hK K))
        refine WQ.nil ?_
        intro w5 hw5
        have HP5 := Lib.hid (HCf.out _ hw5).1
        have HB5 := Lib.hid (HB.out.trans ((HCf.out _ hw5).2.mono HB.out.size))
        clear hw5 hC HCc HCf C
        go_wp2_with fail
        go_roundw
        case rel => exact ⟨n + 1, by omega, by go_num, HB5.out⟩
        case measure => simp [intOf]; omega
    · obtain rfl : n = c.l.length := by omega
      obtain ⟨c0, c1, d0, d1, z0⟩ := HP.out.st.knows.two 0 w3.heap.size rfl
      have hb9 := HP.out.st.below
      rcases HG.out with ⟨-, rfl, rfl⟩ | ⟨-, -, rfl, rfl⟩ | ⟨-, -, -, rfl, rfl⟩ | ⟨hT, hmk, nn, hu, hnl, hV, rfl⟩
      · go_wp2_with fail
        go_ret
        exact ⟨rfl, hb9⟩
      · go_wp2_with fail
        go_ret
        exact ⟨rfl, hb9⟩
      · by_cases hz : c.l.length = 0
        · have hzi : ((c.l.length : Int) == 0) = true := by rw [beq_iff_eq]; omega
          clear hz
          go_wp2_with fail
          go_ret
          exact ⟨rfl, hb9⟩
        · have hzi : ((c.l.length : Int) == 0) = false := by rw [beq_eq_false_iff_ne]; omega
          obtain ⟨v, hv⟩ : ∃ v, c.l[0]? = some v := ⟨_, List.getElem?_eq_getElem (by omega)⟩
          obtain ⟨b0, off, rfl, hb0, g0, g1⟩ := HR2.out.cell 0 v hv
          have hs := HN.out rfl v hv
          have hi : (0 : Int) < (c.l.length : Int) := by omega
          rw [Nat.zero_mul, Nat.add_zero] at g0
          clear hz hv
          go_wp2_with fail
          go_ret
          exact ⟨rfl, hb9⟩
      · have HLT := Lib.hid (fun k v hv => lt_upTo HK.out.rise s k v hv)
        rw [hu] at HLT
        have HV3 := Lib.hid hV
        have hxs := (HLT.out nn V hV).2 (by omega)
        clear hu hT hmk hV
        go_wp2_with fail
        go_loopw [10, 11] (fun fo i wq => ∃ k : Nat, k ≤ c.l.length ∧ i = .int .i64 (k : Int) ∧ fo = .bool (decide (nn < k)) ∧ Below wr.heap.size wr wq) (fun _ i _ => c.l.length - (intOf i).toNat)
        case atStart => exact ⟨0, by omega, rfl, rfl, Below.refl _ _⟩
        case round =>
          obtain ⟨k, hk, rfl, rfl, hb2⟩ := hrel
          have HP2 := Lib.hid (HP.out.call hb2)
          have HR3 := Lib.hid (HR2.out.call hb2)
          have HB2 := Lib.hid hb2
          clear hb2
          by_cases hkl : k < c.l.length
          · obtain ⟨v, hv⟩ : ∃ v, c.l[k]? = some v := ⟨_, List.getElem?_eq_getElem hkl⟩
            obtain ⟨b0, off, rfl, hb0, g0, g1⟩ := HR3.out.cell k v hv
            have i1 : (k : Int) < (c.l.length : Int) := by omega
            have HV2 := Lib.hid hv
            clear hv hb0 g0 g1
            rcases Nat.lt_trichotomy k nn with hc | hc | hc
            · have hd : (nn < k) = False := eq_false (by omega)
              have hvx := HK.out.rise k nn v V hc HV2.out HV3.out
              have hq1 : (v.1 = V.1) = False := eq_false (by omega)
              have hq2 : (v.1 == V.1) = false := by rw [beq_eq_false_iff_ne]; omega
              have hq3 : (V.1 < v.1) = False := eq_false (by omega)
              obtain ⟨C, hC, HCc, HCf⟩ := HP2.out.class
              go_wp2_with fail
              refine region_in C hC (by kernel_rfl) (by kernel_rfl) ?_
              iterate 10
                (refine WQ.step (fun K hK => ?_)
                 go_simp
                 try simp only [hd, hq1, hq2, if_true, if_false, decide_true, decide_false, Bool.or_false, Bool.and_false, Bool.true_and, Bool.not_true, Bool.not_false, Bool.true_or, Bool.false_or, Bool.or_true]
                 first
                   | (refine hK _ ?_; clear hK K)
                   | (apply Exists.intro
                      refine ⟨fun x hx => ?_, hK _ ?_⟩
                      · first
                          | rfl
                          | (obtain ⟨-, k0, k1⟩ := ((HR3.out.call (HCf.out _ hx).2)).cellAt k v HV2.out; go_simp; rfl)
                          | (obtain ⟨c0, c1, d0, d1, z0⟩ := (HCf.out _ hx).1.st.knows.two 0 w3.heap.size rfl; go_simp; rfl)
                      clear hK K))
              refine WQ.nil ?_
              intro w5 hw5
              replace HP2 := Lib.hid (HCf.out _ hw5).1
              replace HR3 := Lib.hid (HR3.out.call (HCf.out _ hw5).2)
              replace HB2 := Lib.hid (HB2.out.trans ((HCf.out _ hw5).2.mono HB2.out.size))
              clear hw5 hC HCc HCf C
              obtain ⟨C, hC, HCc, HCf⟩ := HP2.out.class
              go_wp2_with fail
              refine region_in C hC (by kernel_rfl) (by kernel_rfl) ?_
              iterate 17
                (refine WQ.step (fun K hK => ?_)
                 go_simp
                 try simp only [hd, hq3, if_true, if_false, decide_true, decide_false, Bool.or_false, Bool.and_false, Bool.true_and, Bool.not_true, Bool.not_false, Bool.true_or, Bool.false_or, Bool.or_true]
                 first
                   | (refine hK _ ?_; clear hK K)
                   | (apply Exists.intro
                      refine ⟨fun x hx => ?_, hK _ ?_⟩
                      · first
                          | rfl
                          | (obtain ⟨-, k0, k1⟩ := ((HR3.out.call (HCf.out _ hx).2)).cellAt k v HV2.out; go_simp; rfl)
                          | (obtain ⟨c0, c1, d0, d1, z0⟩ := (HCf.out _ hx).1.st.knows.two 0 w3.heap.size rfl; go_simp; rfl)
                      clear hK K))
              refine WQ.nil ?_
              intro w5 hw5
              replace HP2 := Lib.hid (HCf.out _ hw5).1
              replace HR3 := Lib.hid (HR3.out.call (HCf.out _ hw5).2)
              replace HB2 := Lib.hid (HB2.out.trans ((HCf.out _ hw5).2.mono HB2.out.size))
              clear hw5 hC HCc HCf C
              go_wp2_with fail
              go_roundw
              case rel => exact ⟨k + 1, by omega, by go_num, by rw [show decide (nn < k + 1) = false by first | (simp; done) | (simp; omega)], HB2.out⟩
              case measure => simp [intOf]; omega
            · subst hc
              have hvx : v = V := by have := HV2.out.symm.trans HV3.out; injection this
              subst hvx
              have hd : (k < k) = False := eq_false (by omega)
              have hq3 : (v.1 < v.1) = False := eq_false (by omega)
              obtain ⟨C, hC, HCc, HCf⟩ := HP2.out.class
              go_wp2_with fail
              refine region_in C hC (by kernel_rfl) (by kernel_rfl) ?_
              iterate 10
                (refine WQ.step (fun K hK => ?_)
                 go_simp
                 try simp only [hd, beq_self_eq_true, if_true, if_false, decide_true, decide_false, Bool.or_false, Bool.and_false, Bool.true_and, Bool.not_true, Bool.not_false, Bool.true_or, Bool.false_or, Bool.or_true]
                 first
                   | (refine hK _ ?_; clear hK K)
                   | (apply Exists.intro
                      refine ⟨fun x hx => ?_, hK _ ?_⟩
                      · first
                          | rfl
                          | (obtain ⟨-, k0, k1⟩ := ((HR3.out.call (HCf.out _ hx).2)).cellAt k v HV2.out; go_simp; rfl)
                          | (obtain ⟨c0, c1, d0, d1, z0⟩ := (HCf.out _ hx).1.st.knows.two 0 w3.heap.size rfl; go_simp; rfl)
                      clear hK K))
              refine WQ.nil ?_
              intro w5 hw5
              replace HP2 := Lib.hid (HCf.out _ hw5).1
              replace HR3 := Lib.hid (HR3.out.call (HCf.out _ hw5).2)
              replace HB2 := Lib.hid (HB2.out.trans ((HCf.out _ hw5).2.mono HB2.out.size))
              clear hw5 hC HCc HCf C
              obtain ⟨C, hC, HCc, HCf⟩ := HP2.out.class
              go_wp2_with fail
              refine region_in C hC (by kernel_rfl) (by kernel_rfl) ?_
              iterate 17
                (refine WQ.step (fun K hK => ?_)
                 go_simp
                 try simp only [hd, hq3, if_true, if_false, decide_true, decide_false, Bool.or_false, Bool.and_false, Bool.true_and, Bool.not_true, Bool.not_false, Bool.true_or, Bool.false_or, Bool.or_true]
                 first
                   | (refine hK _ ?_; clear hK K)
                   | (apply Exists.intro
                      refine ⟨fun x hx => ?_, hK _ ?_⟩
                      · first
                          | rfl
                          | (obtain ⟨-, k0, k1⟩ := ((HR3.out.call (HCf.out _ hx).2)).cellAt k v HV2.out; go_simp; rfl)
                          | (obtain ⟨c0, c1, d0, d1, z0⟩ := (HCf.out _ hx).1.st.knows.two 0 w3.heap.size rfl; go_simp; rfl)
                      clear hK K))
              refine WQ.nil ?_
              intro w5 hw5
              replace HP2 := Lib.hid (HCf.out _ hw5).1
              replace HR3 := Lib.hid (HR3.out.call (HCf.out _ hw5).2)
              replace HB2 := Lib.hid (HB2.out.trans ((HCf.out _ hw5).2.mono HB2.out.size))
              clear hw5 hC HCc HCf C
              go_wp2_with fail
              go_roundw
              case rel => exact ⟨k + 1, by omega, by go_num, by rw [show decide (k < k + 1) = true by first | (simp; done) | (simp; omega)], HB2.out⟩
              case measure => simp [intOf]; omega
            · have hd : (nn < k) = True := eq_true hc
              have hvx := HK.out.rise nn k V v hc HV3.out HV2.out
              have hq3 : (V.1 < v.1) = True := eq_true hvx
              have hq4 : (v.1 ≤ s) = False := eq_false (fun h => by have := (HLT.out k v HV2.out).1 h; omega)
              obtain ⟨C, hC, HCc, HCf⟩ := HP2.out.class
              go_wp2_with fail
              refine region_in C hC (by kernel_rfl) (by kernel_rfl) ?_
              iterate 10
                (refine WQ.step (fun K hK => ?_)
                 go_simp
                 try simp only [hd, if_true, if_false, decide_true, decide_false, Bool.or_false, Bool.and_false, Bool.true_and, Bool.not_true, Bool.not_false, Bool.true_or, Bool.false_or, Bool.or_true]
                 first
                   | (refine hK _ ?_; clear hK K)
                   | (apply Exists.intro
                      refine ⟨fun x hx => ?_, hK _ ?_⟩
                      · first
                          | rfl
                          | (obtain ⟨-, k0, k1⟩ := ((HR3.out.call (HCf.out _ hx).2)).cellAt k v HV2.out; go_simp; rfl)
                          | (obtain ⟨c0, c1, d0, d1, z0⟩ := (HCf.out _ hx).1.st.knows.two 0 w3.heap.size rfl; go_simp; rfl)
                      clear hK K))
              refine WQ.nil ?_
              intro w5 hw5
              replace HP2 := Lib.hid (HCf.out _ hw5).1
              replace HR3 := Lib.hid (HR3.out.call (HCf.out _ hw5).2)
              replace HB2 := Lib.hid (HB2.out.trans ((HCf.out _ hw5).2.mono HB2.out.size))
              clear hw5 hC HCc HCf C
              obtain ⟨C, hC, HCc, HCf⟩ := HP2.out.class
              go_wp2_with fail
              refine region_in C hC (by kernel_rfl) (by kernel_rfl) ?_
              iterate 17
                (refine WQ.step (fun K hK => ?_)
                 go_simp
                 try simp only [hd, hq3, hq4, if_true, if_false, decide_true, decide_false, Bool.or_false, Bool.and_false, Bool.true_and, Bool.not_true, Bool.not_false, Bool.true_or, Bool.false_or, Bool.or_true]
                 first
                   | (refine hK _ ?_; clear hK K)
                   | (apply Exists.intro
                      refine ⟨fun x hx => ?_, hK _ ?_⟩
                      · first
                          | rfl
                          | (obtain ⟨-, k0, k1⟩ := ((HR3.out.call (HCf.out _ hx).2)).cellAt k v HV2.out; go_simp; rfl)
                          | (obtain ⟨c0, c1, d0, d1, z0⟩ := (HCf.out _ hx).1.st.knows.two 0 w3.heap.size rfl; go_simp; rfl)
                      clear hK K))
              refine WQ.nil ?_
              intro w5 hw5
              replace HP2 := Lib.hid (HCf.out _ hw5).1
              replace HR3 := Lib.hid (HR3.out.call (HCf.out _ hw5).2)
              replace HB2 := Lib.hid (HB2.out.trans ((HCf.out _ hw5).2.mono HB2.out.size))
              clear hw5 hC HCc HCf C
              go_wp2_with fail
              go_roundw
              case rel => exact ⟨k + 1, by omega, by go_num, by rw [show decide (nn < k + 1) = true by first | (simp; done) | (simp; omega)], HB2.out⟩
              case measure => simp [intOf]; omega
          · obtain rfl : k = c.l.length := by omega
            obtain ⟨c0, c1, d0, d1, z0⟩ := HP2.out.st.knows.two 0 w3.heap.size rfl
            have hd : decide (nn < c.l.length) = true := by simpa using hnl
            have hb9 := HP2.out.st.below
            go_wp2_with fail
            go_ret
            exact ⟨rfl, hb9⟩

set_option maxRecDepth 100000 in
theorem lifted (os : Os) (started : os.Started) (H : Type) (enc : TypeId × Value → H) :
    ReturnsInHanded {} Try.checked os 5 .any (Rows.chainStepsSpec.pre6 enc Try.prog Try.f5 Rows.chainStepsRow.domain false) (Rows.chainStepsSpec.post enc Try.prog Try.f5 false true false false) := by
  refine returnsInHanded_of_change (C := Try.checked) own started (by kernel_rfl) Try.func5
    (ChangeSpec.witness6 (enc := enc) (C := Try.checked) false ⟨#[], #[.slice none 0 0, .int .i64 0], []⟩ 8 (by kernel_rfl) (by kernel_rfl) (by kernel_rfl) (by kernel_rfl)) ?_
  intro W base args ds gs before hval0 hW hcnd _
  have hval : ∀ (j : Nat) t v, Try.f5.params[j]? = some t → args[j]? = some v → Value.okWide Try.prog W .any base t v := hval0
  have hW' := hW
  obtain ⟨p, q, hA0, hV, rfl, hfz, hnd⟩ := hW
  have hA : DataW.TrodAll enc Try.prog W 0 (fun _ => true) true Try.f5.params.toList args.toList ds p := hA0
  rw [Try.params5] at hA hval
  obtain ⟨v0, vs0, d0, ds0, p0, q0, hargs, rfl, rfl, h0, r0⟩ := trodAll_cons hA
  obtain ⟨v1, vs1, d1, ds1, p1, q1, rfl, rfl, rfl, h1, r1⟩ := trodAll_cons r0
  obtain ⟨rfl, rfl, rfl⟩ := trodAll_nil r1
  obtain rfl : args = #[v0, v1] := by cases args; simp_all
  obtain ⟨rfl, rfl⟩ := trodVars_none hV
  obtain ⟨A0, len0, cap0, rfl⟩ := okWide_slice Try.underlying22 (hval 0 22 v0 rfl rfl)
  obtain ⟨l0, w0⟩ := open_ops h0
  have lt0 : ∀ x ∈ p0, x.block < W.heap.size := by obtain ⟨m, hm⟩ := h0; exact DataW.trod_lt m _ _ _ hm
  obtain ⟨a1, rfl⟩ := okWide_int Try.underlying2 (hval 1 2 v1 rfl rfl)
  have w1 : -9223372036854775808 ≤ a1 ∧ a1 ≤ 9223372036854775807 := by
    obtain ⟨m, hm⟩ := h1
    obtain ⟨s, hs, _, hl⟩ := DataW.trod_int Try.underlying2 hm
    simp [Value.cells] at hs
    rw [hs]; have := bounds_i64 hl; omega
  have lt1 : ∀ x ∈ p1, x.block < W.heap.size := by obtain ⟨m, hm⟩ := h1; exact DataW.trod_lt m _ _ _ hm
  clear hA0 hval0
  simp only [List.append_nil] at hW'
  refine (walk A0 len0 cap0 l0 a1 w1 W w0).mono fun e W' ⟨he, bel⟩ => ?_
  subst he
  exact ⟨_, rfl, _, _, _, [], _, [], hW', trodAll_mk1 (shut_bool Try.underlying4 _), (trodAll_cons_mk (Below.trod laidOut (by kernel_rfl) (of_decide_eq_true (by kernel_rfl)) h0 bel lt0) (trodAll_cons_mk (Below.trod laidOut (by kernel_rfl) (of_decide_eq_true (by kernel_rfl)) h1 bel lt1) trodAll_mk0)), rfl, bel.frame _, fun h => by cases h⟩

theorem proved : Rows.ChainStepsSaid :=
  OpenClaim.holds_of_wide 5 Try.f5 rfl rfl rfl rfl rfl rfl rfl ⟨rfl, rfl, rfl, rfl, rfl⟩ rfl rfl rfl rfl rfl (by kernel_rfl) Try.func5 (by kernel_rfl)
    (of_decide_eq_true (by kernel_rfl)) (by unfold Func.isWrapper; first | (rw [if_pos (by decide +kernel)]; kernel_rfl) | (rw [if_neg (by decide +kernel)]; exact ⟨rfl, rfl⟩))
    (fun os started H enc _ => lifted os started H enc)
#print axioms proved
end Go.Proofs.Ytiocghhhfhobbaa.chainSteps
