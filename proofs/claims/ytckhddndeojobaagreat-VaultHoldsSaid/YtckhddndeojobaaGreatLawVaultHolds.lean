/- An account has one part that is held at most, and a vault isn't closed up to where one is; for every input, without conditions (of more calls the first 40 are made). -/
import Derived.Test.YtckhddndeojobaaGreatVltZ
namespace Go.Proofs.YtckhddndeojobaaGreat.vaultHolds
open Go.ChangeShapes Go.WideShapes Go.ChangeAt Go.RowKit Go.Cn Go.So Go.Vt
set_option linter.unusedVariables false
set_option linter.unusedSimpArgs false

set_option maxHeartbeats 16000000 in
set_option maxRecDepth 100000 in
theorem walk (x : Nat) (hx : x < 18446744073709551616) (A : Option Addr) (len cap : Nat) (l : List Op15) (o : Op15) (hO : GO o) (w : World) (hL : IsR w A len cap 6 encO GO l) :
    Calls Tryz.prog 5 #[.float .f64 x, .slice A len cap, aggO o] w fun r w' => r = .returned (.bool true) ∧ Below w.heap.size w w' := by
  obtain ⟨hlen, hs, hc1, hc2, hnil, hg⟩ := hL
  subst hlen
  have hb0 := (Below.refl w.heap.size w).alloc (Nat.le_refl _) (.cells #[.int .i64 o.k, .int .i64 o.id, .int .i64 o.acc, .int .i64 o.t, .int .i64 o.n, .bool o.pays] 41)
  have HW := Lib.hid (Whole.fresh w 41 #[.int .i64 o.k, .int .i64 o.id, .int .i64 o.acc, .int .i64 o.t, .int .i64 o.n, .bool o.pays])
  have HMA := Lib.hid (made_any x hx A cap l (w.alloc (.cells #[.int .i64 o.k, .int .i64 o.id, .int .i64 o.acc, .int .i64 o.t, .int .i64 o.n, .bool o.pays] 41)) ((hs.below hb0).more hb0.size) hc1 hc2 hg)
  have HB0 := Lib.hid hb0
  have HO := Lib.hid hO
  clear hs hg hnil hc1 hc2 hO hb0
  obtain ⟨ok, oi, oa, ot, nn, op⟩ := o
  dsimp only at *
  go_enter Tryz.func5, Tryz.ntmps5
  go_upto_region 1 with fail
  generalize hw0 : w.alloc (.cells #[.int .i64 ok, .int .i64 oi, .int .i64 oa, .int .i64 ot, .int .i64 nn, .bool op] 41) = w0 at *
  have HQ : Hid (w.heap.size < w0.heap.size) := Lib.hid (by rw [← hw0]; simp)
  clear hw0
  go_wp2_with fail
  refine HMA.out.mono ?_
  rintro r w1 (⟨hr, rfl, hb⟩ | ⟨g, hr, rfl, hp⟩)
  · have HB := Lib.hid (HB0.out.trans (hb.mono HB0.out.size))
    clear hb hr HMA
    go_wp2_with fail
    refine (awake_any _).mono ?_
    rintro e w2 ⟨rfl, hb2⟩
    have HB2 := Lib.hid (HB.out.trans (hb2.mono HB.out.size))
    clear hb2
    go_wp2_with fail
    refine (awake_any _).mono ?_
    rintro e w3 ⟨rfl, hb3⟩
    have HB3 := Lib.hid (HB2.out.trans (hb3.mono HB2.out.size))
    clear hb3
    go_wp2_with fail
    go_ret
    exact ⟨rfl, HB3.out⟩
  have H := Lib.hid hp
  clear hp HMA hr
  generalize mk x (l.take 40) = c at *
  go_wp2_with fail
  refine (awake_any _).mono ?_
  rintro r w2 ⟨rfl, hb1⟩
  replace H := Lib.hid (H.out.call hb1)
  clear hb1
  have HG := Lib.hid (H.out.good)
  have HNM := Lib.hid (H.out.num)
  have HIL := Lib.hid (ids_len HG.out)
  go_wp2_with fail
  refine (vp_held H.out).mono ?_
  rintro r w3 ⟨A3, cap3, rfl, hb1, ho⟩
  have hroom : (Go.Lk.supp (byId c)).length ≤ cap3 := by
    obtain ⟨_, _, e, h, _⟩ := own_slice0 ho
    injection e with _ _ e
    omega
  replace H := Lib.hid (H.out.more (Y' := fun b => ∃ a, A3 = some a ∧ b = a.block) hb1 fun b ⟨a, ha, hb⟩ => by
    have := own_block ho ha
    exact .inr ⟨by omega, by omega⟩)
  have HV := Lib.hid (Sees.own ho)
  have HIT := Lib.hid (fun id (h : id ∈ Go.Lk.supp (byId c)) => item_of HG.out h)
  have HRI := Lib.hid (Go.Lk.supp_rises (byId_fin HG.out))
  have hsl : (Go.Lk.supp (byId c)).length ≤ 1000000 := by have := HIL.out; have := HNM.out.1; omega
  clear hb1 ho HIL HNM
  generalize Go.Lk.supp (byId c) = S at *
  go_wp2_with fail
  go_loopw [9] (fun i wr => ∃ n : Nat, n ≤ S.length ∧ i = .int .i64 (n : Int) ∧ Vp w0 wr g c 40 (fun b => ∃ a, A3 = some a ∧ b = a.block) ∧ Sees wr wr.heap.size 6 A3 S.length (flat (encI c) S)) (fun i _ => S.length - (intOf i).toNat)
  case atStart => exact ⟨0, by omega, rfl, H.out, HV.out⟩
  case round =>
    obtain ⟨n, hn1, rfl, hp, hv⟩ := hrel
    have HP := Lib.hid hp
    have HVR := Lib.hid hv
    clear hp hv H HV
    by_cases hlt : n < S.length
    · obtain ⟨id, hid⟩ : ∃ id, S[n]? = some id := ⟨_, List.getElem?_eq_getElem hlt⟩
      obtain ⟨q, hq⟩ := HIT.out id (List.mem_of_getElem? hid)
      obtain ⟨b0, off, rfl, hb, hcc⟩ := HVR.out.item (encI_len c) (by omega) n id hid
      have q0 := hcc 0 _ rfl
      have q1 := hcc 1 _ rfl
      have q2 := hcc 2 _ rfl
      have q3 := hcc 3 _ rfl
      have q4 := hcc 4 _ rfl
      have q5 := hcc 5 _ rfl
      rw [Nat.add_zero] at q0
      rw [hq.byq] at q1 q2 q3 q4 q5
      have HI := Lib.hid hq
      have h64 := HP.out.item64 hq
      have ht := hq.time
      have htop := HP.out.good.top
      obtain ⟨hf1, hf2⟩ := hq.is_
      have hcl := hq.close
      have HID := Lib.hid hid
      have i1 : (n : Int) < (S.length : Int) := by omega
      have HFT := Lib.hid (fun z (hz : Vp w0 z g c 40 fun b => (∃ a, some (⟨b0, off, none⟩ : Addr) = some a ∧ b = a.block) ∨ b = wr.heap.size) => vp_fate id h64 hz)
      rw [hf1, hf2] at HFT
      clear hcc hid hq hf1 hf2
      obtain ⟨⟨qi, qa, qn, qp⟩, qt, qf⟩ := q
      dsimp only at *
      have hqi : qi = id := HI.out.idq
      have HCL0 := Lib.hid hcl
      have HPx := Lib.hid (Vp.more (Y' := fun b => (∃ a, some (⟨b0, off, none⟩ : Addr) = some a ∧ b = a.block) ∨ b = wr.heap.size) HP.out ((Below.refl _ _).alloc (Nat.le_refl _) (.cells #[.int .i64 id, .int .i64 qa, .int .i64 qn, .bool qp, .int .i64 qt, .int .i64 qf] 54)) (fun b hb2 => by
        rcases hb2 with h | h
        · exact .inl h
        · exact .inr (by subst h; simp)))
      have HBX := Lib.hid (Whole.fresh wr 54 #[.int .i64 id, .int .i64 qa, .int .i64 qn, .bool qp, .int .i64 qt, .int .i64 qf])
      have HVX := Lib.hid ((HVR.out.alloc (Nat.le_refl _) (.cells #[.int .i64 id, .int .i64 qa, .int .i64 qn, .bool qp, .int .i64 qt, .int .i64 qf] 54)).more (show wr.heap.size ≤ (wr.alloc (.cells #[.int .i64 id, .int .i64 qa, .int .i64 qn, .bool qp, .int .i64 qt, .int .i64 qf] 54)).heap.size by simp))
      clear hcl hqi
      go_upto_region 9 with fail
      have HPW : Hid (w0.heap.size ≤ wr.heap.size) := Lib.hid HP.out.bel.size
      clear q0 q1 q2 q3 q4 q5 HP HVR
      generalize hwb : wr.alloc (.cells #[.int .i64 id, .int .i64 qa, .int .i64 qn, .bool qp, .int .i64 qt, .int .i64 qf] 54) = wb at *
      clear hwb
      generalize wr.heap.size = hk at *
      obtain ⟨t0, t4⟩ := (show wb.cell? ⟨hk, 0, none⟩ = some (.int .i64 id) ∧ hk < wb.heap.size from ⟨HBX.out.cell 0, HBX.out.lt⟩)
      go_wp2_with fail
      refine (HFT.out wb HPx.out).mono ?_
      rintro r w5 ⟨rfl, hb5⟩
      have HP5 := Lib.hid (HPx.out.call hb5)
      have HB5 := Lib.hid (HBX.out.below hb5 HBX.out.lt)
      have HV5 := Lib.hid ((HVX.out.below hb5).more hb5.size)
      clear hb5 t0 t4 HFT HPx HBX HVX
      obtain ⟨gz, sg, gc, HCL, -⟩ := HP5.out.face
      have HCL := Lib.hid HCL
      have HGC := Lib.hid gc
      have HGZ := Lib.hid gz
      clear gc gz
      have u1 : (qt ≤ c.s.closed) = False := by simp; omega
      have u2 : (qt > c.top) = False := by simp; omega
      by_cases hn0 : n = 0
      · skip
        subst hn0
        simp only [Nat.zero_mul, Nat.add_zero] at *
        obtain ⟨C, hC, HCc, HCf⟩ := HP5.out.class
        go_upto_region 10 with fail
        refine region_in C hC (by kernel_rfl) (by kernel_rfl) ?_
        iterate 42
          (refine WQ.step (fun K hK => ?_)
           go_simp
           first
             | (refine hK _ ?_; clear hK K)
             | (apply Exists.intro
                refine ⟨fun x hx => ?_, hK _ ?_⟩
                · first
                    | rfl
                    | (go_invoke; go_simp; go_at_call 133; refine (HCL.out _ (HCf.out _ hx).2).mono ?_; rintro e z2 ⟨rfl, e2⟩; subst e2; exact ⟨rfl, hx⟩)
                    | (go_at_call 16; refine (vp_top (HCf.out _ hx).1).mono ?_; rintro e z2 ⟨rfl, e2⟩; subst e2; exact ⟨rfl, hx⟩)
                    | (have ky := HB5.out.below (HCf.out _ hx).2 HB5.out.lt
                       have k0 := ky.cell 0
                       have k1 := ky.cell 1
                       have k4 := ky.cell 4
                       have kz := ky.lt
                       simp only [List.getElem?_toArray, List.getElem?_cons_zero, List.getElem?_cons_succ] at k0 k1 k4
                       clear ky
                       have gc := ((HCf.out _ hx).2.cell (p := ⟨g, 0, none⟩) HGZ.out).trans HGC.out
                       have gz := Nat.lt_of_lt_of_le HGZ.out (HCf.out _ hx).2.size
                       go_simp
                       rfl)
                clear hK K))
        refine WQ.nil ?_
        intro w6 hw
        have HP6 := Lib.hid (HCf.out _ hw).1
        have HB6 := Lib.hid (HB5.out.below (HCf.out _ hw).2 HB5.out.lt)
        have HV6 := Lib.hid ((HV5.out.below (HCf.out _ hw).2).more (HCf.out _ hw).2.size)
        clear hw hC HCc HCf C HP5 HB5 HV5 HCL HGC HGZ
        have hbz := HB6.out.lt
        go_wp2_with fail
        go_loopw [13] (fun j wx => ∃ y : Nat, y ≤ 0 ∧ j = .int .i64 (y : Int) ∧ Vp w0 wx g c 40 (fun b => (∃ a, some (⟨b0, off, none⟩ : Addr) = some a ∧ b = a.block) ∨ b = hk) ∧ Whole wx hk 54 #[.int .i64 id, .int .i64 qa, .int .i64 qn, .bool qp, .int .i64 qt, .int .i64 qf] ∧ Sees wx wx.heap.size 6 (some ⟨b0, off, none⟩) S.length (flat (encI c) S)) (fun j _ => 0 - (intOf j).toNat)
        case atStart => exact ⟨0, by omega, rfl, HP6.out, HB6.out, HV6.out⟩
        case round =>
          obtain ⟨y, hy, rfl, hp, hbx, hv⟩ := hrel
          have HP7 := Lib.hid hp
          have HB7 := Lib.hid hbx
          have HV7 := Lib.hid hv
          clear hp hbx hv HP6 HB6 HV6 hbz
          have ky := HB7.out
          have k0 := ky.cell 0
          have k1 := ky.cell 1
          have k4 := ky.cell 4
          have kz := ky.lt
          simp only [List.getElem?_toArray, List.getElem?_cons_zero, List.getElem?_cons_succ] at k0 k1 k4
          clear ky
          by_cases hyn : y < 0
          · omega
          · obtain rfl : y = 0 := by omega
            go_wp2_with fail
            refine (vp_close qt HP7.out).mono ?_
            rintro r w8 ⟨rfl, hp, hk⟩
            rw [HCL0.out.1]
            rw [HCL0.out.2] at hp
            have HP8 := Lib.hid hp
            have HB8 := Lib.hid (Whole.keep HB7.out hk (.inr rfl))
            have HV8 := Lib.hid (sees_keep HV7.out hk fun _ a ha => .inl ⟨a, ha, rfl⟩)
            have HW8 := Lib.hid (HW.out.below HP8.out.bel HQ.out)
            clear hp hk HP7 HB7 HV7 k0 k1 k4 kz
            have ky := HW8.out
            have k0 := ky.cell 0
            have k1 := ky.cell 1
            have k2 := ky.cell 2
            have k3 := ky.cell 3
            have k4 := ky.cell 4
            have k5 := ky.cell 5
            have kz := ky.lt
            simp only [List.getElem?_toArray, List.getElem?_cons_zero, List.getElem?_cons_succ] at k0 k1 k2 k3 k4 k5
            clear ky
            go_wp2_with fail
            refine (part_any ⟨ok, oi, oa, ot, nn, op⟩ w8).mono ?_
            rintro r w9 ⟨rfl, hb9⟩
            have HP9 := Lib.hid (HP8.out.call hb9)
            have HB9 := Lib.hid (HB8.out.below hb9 HB8.out.lt)
            have HV9 := Lib.hid ((HV8.out.below hb9).more hb9.size)
            have HW9 := Lib.hid (HW8.out.below hb9 HW8.out.lt)
            clear hb9 HP8 HB8 HV8 HW8 k0 k1 k2 k3 k4 k5 kz
            dsimp only [partOf]
            go_upto_region 20 with fail
            have HP10 := Lib.hid (Vp.more (Y' := fun b => ((∃ a, some (⟨b0, off, none⟩ : Addr) = some a ∧ b = a.block) ∨ b = hk) ∨ b = w9.heap.size) HP9.out ((Below.refl _ _).alloc (Nat.le_refl _) (.cells #[.int .i64 oi, .int .i64 oa, .int .i64 nn, .bool op] 52)) (fun b hb2 => by
              rcases hb2 with h | h
              · exact .inl h
              · exact .inr (by subst h; simp)))
            have HWP := Lib.hid (Whole.fresh w9 52 #[.int .i64 oi, .int .i64 oa, .int .i64 nn, .bool op])
            have HB10 := Lib.hid (HB9.out.alloc (.cells #[.int .i64 oi, .int .i64 oa, .int .i64 nn, .bool op] 52))
            have HV10 := Lib.hid (HV9.out.alloc (Nat.le_refl _) (.cells #[.int .i64 oi, .int .i64 oa, .int .i64 nn, .bool op] 52))
            have HW10 := Lib.hid (HW9.out.alloc (.cells #[.int .i64 oi, .int .i64 oa, .int .i64 nn, .bool op] 52))
            have HNE : Hid (hk ≠ w9.heap.size ∧ w.heap.size ≠ w9.heap.size ∧ w0.heap.size ≤ w9.heap.size) := Lib.hid ⟨Nat.ne_of_lt HB9.out.lt, Nat.ne_of_lt HW9.out.lt, HP9.out.bel.size⟩
            clear HP9 HB9 HW9 HV9
            generalize hwa : w9.alloc (.cells #[.int .i64 oi, .int .i64 oa, .int .i64 nn, .bool op] 52) = w10 at *
            clear hwa
            generalize w9.heap.size = hp at *
            have HP11 := Lib.hid (HP10.out.set (p := ⟨hp, 1, none⟩) (.inr rfl) HNE.out.2.2 (.int .i64 qa))
            have HWQ : Hid (Whole (w10.setCell ⟨hp, 1, none⟩ (.int .i64 qa)) hp 52 #[.int .i64 oi, .int .i64 qa, .int .i64 nn, .bool op]) := Lib.hid (by have := HWP.out.set 1 (.int .i64 qa); simpa using this)
            have HW11 := Lib.hid (HW10.out.away (p := ⟨hp, 1, none⟩) HNE.out.2.1 (.int .i64 qa))
            have HV11 := Lib.hid ((HV10.out.set (p := ⟨hp, 1, none⟩) (Nat.le_refl _) (.int .i64 qa)).more (show hp ≤ (w10.setCell ⟨hp, 1, none⟩ (.int .i64 qa)).heap.size by simp; exact Nat.le_of_lt HWP.out.lt))
            have k1 := HB10.out.cell 1
            have kz := HB10.out.lt
            have m1 := HWP.out.cell 1
            have f1 := HWP.out.free 1
            have mz := HWP.out.lt
            simp only [List.getElem?_toArray, List.getElem?_cons_zero, List.getElem?_cons_succ] at k1 m1
            clear HP10 HV10 HW10 HB10 HWP
            go_upto_region 21 with fail
            clear k1 kz m1 f1 mz
            generalize hwc : w10.setCell ⟨hp, 1, none⟩ (.int .i64 qa) = w11 at *
            clear hwc
            have k3 := HW11.out.cell 3
            have kz := HW11.out.lt
            have m0 := HWQ.out.cell 0
            have m1 := HWQ.out.cell 1
            have m2 := HWQ.out.cell 2
            have m3 := HWQ.out.cell 3
            have mz := HWQ.out.lt
            simp only [List.getElem?_toArray, List.getElem?_cons_zero, List.getElem?_cons_succ] at k3 m0 m1 m2 m3
            have HHL := Lib.hid (vp_hold ot ⟨oi, qa, nn, op⟩ HO.out.id (show W64 qa from by have h9 : 0 ≤ qa ∧ qa < 4096 := HI.out.acc; unfold W64; omega) HO.out.n HP11.out)
            obtain ⟨u3, u4⟩ := HI.out.hold ot ⟨oi, qa, nn, op⟩ rfl
            rw [u4] at HHL
            have u5 : (holdE c ot ⟨oi, qa, nn, op⟩ == 0) = false := by simpa using u3
            generalize holdE c ot ⟨oi, qa, nn, op⟩ = EE at *
            clear u3 u4
            go_wp2_with fail
            refine HHL.out.mono ?_
            rintro r w12 ⟨rfl, hp12, hk12⟩
            have HP12 := Lib.hid ((hp12.re HG.out).less (Y' := fun b => ∃ a, some (⟨b0, off, none⟩ : Addr) = some a ∧ b = a.block) fun b hb2 => .inl (.inl hb2))
            have HV12 := Lib.hid (sees_keep HV11.out hk12 fun _ a ha => .inl (.inl ⟨a, ha, rfl⟩))
            clear hp12 hk12 HHL
            go_wp2_with fail
            go_roundw
            case rel => exact ⟨0 + 1, by omega, by go_num, HP12.out, HV12.out⟩
            case measure => simp [intOf]; omega
      · skip
        obtain ⟨m, rfl⟩ : ∃ m, n = m + 1 := ⟨n - 1, by omega⟩
        obtain ⟨id2, hid2⟩ : ∃ id2, S[m]? = some id2 := ⟨_, List.getElem?_eq_getElem (by omega)⟩
        obtain ⟨b9, off9, hA9, hb9, hcc⟩ := HV5.out.item (encI_len c) (by omega) m id2 hid2
        injection hA9 with hA9; injection hA9 with e1 e2; subst e1 e2
        have r0 := hcc 0 _ rfl
        rw [Nat.add_zero] at r0
        have HR0 := Lib.hid r0
        have HRB := Lib.hid hb9
        have g1 : (id2 ≥ id) = False := by
          have h1 := (List.getElem?_eq_some_iff.1 hid2)
          have h3 := (List.getElem?_eq_some_iff.1 HID.out)
          have := List.pairwise_iff_getElem.1 HRI.out m (m + 1) h1.1 h3.1 (by omega)
          rw [h1.2, h3.2] at this
          simp; omega
        have g5 : ((m : Int) + 1 > 0) := by omega
        have g6 : (0 : Int) ≤ (m : Int) + 1 := by omega
        have hw1 : IntKind.i64.wrap (m : Int) = m := by rw [IntKind.wrap_i64]; omega
        have g7 : (m : Int) < (S.length : Int) := by omega
        clear hcc hid2 r0 hb9
        obtain ⟨C, hC, HCc, HCf⟩ := HP5.out.class
        go_upto_region 10 with fail
        refine region_in C hC (by kernel_rfl) (by kernel_rfl) ?_
        iterate 42
          (refine WQ.step (fun K hK => ?_)
           go_simp
           first
             | (refine hK _ ?_; clear hK K)
             | (apply Exists.intro
                refine ⟨fun x hx => ?_, hK _ ?_⟩
                · first
                    | rfl
                    | (go_invoke; go_simp; go_at_call 133; refine (HCL.out _ (HCf.out _ hx).2).mono ?_; rintro e z2 ⟨rfl, e2⟩; subst e2; exact ⟨rfl, hx⟩)
                    | (go_at_call 16; refine (vp_top (HCf.out _ hx).1).mono ?_; rintro e z2 ⟨rfl, e2⟩; subst e2; exact ⟨rfl, hx⟩)
                    | (have ky := HB5.out.below (HCf.out _ hx).2 HB5.out.lt
                       have k0 := ky.cell 0
                       have k1 := ky.cell 1
                       have k4 := ky.cell 4
                       have kz := ky.lt
                       simp only [List.getElem?_toArray, List.getElem?_cons_zero, List.getElem?_cons_succ] at k0 k1 k4
                       clear ky
                       have gc := ((HCf.out _ hx).2.cell (p := ⟨g, 0, none⟩) HGZ.out).trans HGC.out
                       have gz := Nat.lt_of_lt_of_le HGZ.out (HCf.out _ hx).2.size
                       have r0 := ((HCf.out _ hx).2.cell (p := ⟨b0, off + m * 6, none⟩) HRB.out).trans HR0.out
                       go_simp
                       rfl)
                clear hK K))
        refine WQ.nil ?_
        intro w6 hw
        have HP6 := Lib.hid (HCf.out _ hw).1
        have HB6 := Lib.hid (HB5.out.below (HCf.out _ hw).2 HB5.out.lt)
        have HV6 := Lib.hid ((HV5.out.below (HCf.out _ hw).2).more (HCf.out _ hw).2.size)
        clear hw hC HCc HCf C HP5 HB5 HV5 HCL HGC HGZ
        clear g1 g5 g6 g7 hw1 HR0 HRB
        have hbz := HB6.out.lt
        go_wp2_with fail
        go_loopw [13] (fun j wx => ∃ y : Nat, y ≤ (m + 1) ∧ j = .int .i64 (y : Int) ∧ Vp w0 wx g c 40 (fun b => (∃ a, some (⟨b0, off, none⟩ : Addr) = some a ∧ b = a.block) ∨ b = hk) ∧ Whole wx hk 54 #[.int .i64 id, .int .i64 qa, .int .i64 qn, .bool qp, .int .i64 qt, .int .i64 qf] ∧ Sees wx wx.heap.size 6 (some ⟨b0, off, none⟩) S.length (flat (encI c) S)) (fun j _ => (m + 1) - (intOf j).toNat)
        case atStart => exact ⟨0, by omega, rfl, HP6.out, HB6.out, HV6.out⟩
        case round =>
          obtain ⟨y, hy, rfl, hp, hbx, hv⟩ := hrel
          have HP7 := Lib.hid hp
          have HB7 := Lib.hid hbx
          have HV7 := Lib.hid hv
          clear hp hbx hv HP6 HB6 HV6 hbz
          have ky := HB7.out
          have k0 := ky.cell 0
          have k1 := ky.cell 1
          have k4 := ky.cell 4
          have kz := ky.lt
          simp only [List.getElem?_toArray, List.getElem?_cons_zero, List.getElem?_cons_succ] at k0 k1 k4
          clear ky
          by_cases hyn : y < (m + 1)
          · obtain ⟨id2, hid2⟩ : ∃ id, S[y]? = some id := ⟨_, List.getElem?_eq_getElem (by omega)⟩
            obtain ⟨q2, hq2⟩ := HIT.out id2 (List.mem_of_getElem? hid2)
            obtain ⟨b9, off9, hA9, -, hcc⟩ := HV7.out.item (encI_len c) (by omega) y id2 hid2
            injection hA9 with hA9; injection hA9 with e1 e2; subst e1 e2
            have r1 := hcc 1 _ rfl
            rw [hq2.byq] at r1
            have hne : q2.p.acc ≠ qa := HI.out.apart hq2 (by
              have h1 := List.getElem?_eq_some_iff.1 hid2
              have h3 := List.getElem?_eq_some_iff.1 HID.out
              have := List.pairwise_iff_getElem.1 HRI.out y _ h1.1 h3.1 (by omega)
              rw [h1.2, h3.2] at this
              exact this)
            generalize q2.p.acc = a2 at *
            have i7 : (a2 == qa) = false := by simpa using hne
            have i8 : (y : Int) < ((m + 1 : Nat) : Int) := by omega
            have i9 : (y : Int) < (S.length : Int) := by omega
            clear hcc hid2 hq2
            go_wp2_with fail
            go_quiet (fail)
            go_wp2_with fail
            go_roundw
            case rel => exact ⟨y + 1, by omega, by go_num, HP7.out.drewN _, HB7.out.drewN _, HV7.out.drewN _⟩
            case measure => simp [intOf]; omega
          · obtain rfl : y = (m + 1) := by omega
            go_wp2_with fail
            refine (vp_close qt HP7.out).mono ?_
            rintro r w8 ⟨rfl, hp, hk⟩
            rw [HCL0.out.1]
            rw [HCL0.out.2] at hp
            have HP8 := Lib.hid hp
            have HB8 := Lib.hid (Whole.keep HB7.out hk (.inr rfl))
            have HV8 := Lib.hid (sees_keep HV7.out hk fun _ a ha => .inl ⟨a, ha, rfl⟩)
            have HW8 := Lib.hid (HW.out.below HP8.out.bel HQ.out)
            clear hp hk HP7 HB7 HV7 k0 k1 k4 kz
            have ky := HW8.out
            have k0 := ky.cell 0
            have k1 := ky.cell 1
            have k2 := ky.cell 2
            have k3 := ky.cell 3
            have k4 := ky.cell 4
            have k5 := ky.cell 5
            have kz := ky.lt
            simp only [List.getElem?_toArray, List.getElem?_cons_zero, List.getElem?_cons_succ] at k0 k1 k2 k3 k4 k5
            clear ky
            go_wp2_with fail
            refine (part_any ⟨ok, oi, oa, ot, nn, op⟩ w8).mono ?_
            rintro r w9 ⟨rfl, hb9⟩
            have HP9 := Lib.hid (HP8.out.call hb9)
            have HB9 := Lib.hid (HB8.out.below hb9 HB8.out.lt)
            have HV9 := Lib.hid ((HV8.out.below hb9).more hb9.size)
            have HW9 := Lib.hid (HW8.out.below hb9 HW8.out.lt)
            clear hb9 HP8 HB8 HV8 HW8 k0 k1 k2 k3 k4 k5 kz
            dsimp only [partOf]
            go_upto_region 20 with fail
            have HP10 := Lib.hid (Vp.more (Y' := fun b => ((∃ a, some (⟨b0, off, none⟩ : Addr) = some a ∧ b = a.block) ∨ b = hk) ∨ b = w9.heap.size) HP9.out ((Below.refl _ _).alloc (Nat.le_refl _) (.cells #[.int .i64 oi, .int .i64 oa, .int .i64 nn, .bool op] 52)) (fun b hb2 => by
              rcases hb2 with h | h
              · exact .inl h
              · exact .inr (by subst h; simp)))
            have HWP := Lib.hid (Whole.fresh w9 52 #[.int .i64 oi, .int .i64 oa, .int .i64 nn, .bool op])
            have HB10 := Lib.hid (HB9.out.alloc (.cells #[.int .i64 oi, .int .i64 oa, .int .i64 nn, .bool op] 52))
            have HV10 := Lib.hid (HV9.out.alloc (Nat.le_refl _) (.cells #[.int .i64 oi, .int .i64 oa, .int .i64 nn, .bool op] 52))
            have HW10 := Lib.hid (HW9.out.alloc (.cells #[.int .i64 oi, .int .i64 oa, .int .i64 nn, .bool op] 52))
            have HNE : Hid (hk ≠ w9.heap.size ∧ w.heap.size ≠ w9.heap.size ∧ w0.heap.size ≤ w9.heap.size) := Lib.hid ⟨Nat.ne_of_lt HB9.out.lt, Nat.ne_of_lt HW9.out.lt, HP9.out.bel.size⟩
            clear HP9 HB9 HW9 HV9
            generalize hwa : w9.alloc (.cells #[.int .i64 oi, .int .i64 oa, .int .i64 nn, .bool op] 52) = w10 at *
            clear hwa
            generalize w9.heap.size = hp at *
            have HP11 := Lib.hid (HP10.out.set (p := ⟨hp, 1, none⟩) (.inr rfl) HNE.out.2.2 (.int .i64 qa))
            have HWQ : Hid (Whole (w10.setCell ⟨hp, 1, none⟩ (.int .i64 qa)) hp 52 #[.int .i64 oi, .int .i64 qa, .int .i64 nn, .bool op]) := Lib.hid (by have := HWP.out.set 1 (.int .i64 qa); simpa using this)
            have HW11 := Lib.hid (HW10.out.away (p := ⟨hp, 1, none⟩) HNE.out.2.1 (.int .i64 qa))
            have HV11 := Lib.hid ((HV10.out.set (p := ⟨hp, 1, none⟩) (Nat.le_refl _) (.int .i64 qa)).more (show hp ≤ (w10.setCell ⟨hp, 1, none⟩ (.int .i64 qa)).heap.size by simp; exact Nat.le_of_lt HWP.out.lt))
            have k1 := HB10.out.cell 1
            have kz := HB10.out.lt
            have m1 := HWP.out.cell 1
            have f1 := HWP.out.free 1
            have mz := HWP.out.lt
            simp only [List.getElem?_toArray, List.getElem?_cons_zero, List.getElem?_cons_succ] at k1 m1
            clear HP10 HV10 HW10 HB10 HWP
            go_upto_region 21 with fail
            clear k1 kz m1 f1 mz
            generalize hwc : w10.setCell ⟨hp, 1, none⟩ (.int .i64 qa) = w11 at *
            clear hwc
            have k3 := HW11.out.cell 3
            have kz := HW11.out.lt
            have m0 := HWQ.out.cell 0
            have m1 := HWQ.out.cell 1
            have m2 := HWQ.out.cell 2
            have m3 := HWQ.out.cell 3
            have mz := HWQ.out.lt
            simp only [List.getElem?_toArray, List.getElem?_cons_zero, List.getElem?_cons_succ] at k3 m0 m1 m2 m3
            have HHL := Lib.hid (vp_hold ot ⟨oi, qa, nn, op⟩ HO.out.id (show W64 qa from by have h9 : 0 ≤ qa ∧ qa < 4096 := HI.out.acc; unfold W64; omega) HO.out.n HP11.out)
            obtain ⟨u3, u4⟩ := HI.out.hold ot ⟨oi, qa, nn, op⟩ rfl
            rw [u4] at HHL
            have u5 : (holdE c ot ⟨oi, qa, nn, op⟩ == 0) = false := by simpa using u3
            generalize holdE c ot ⟨oi, qa, nn, op⟩ = EE at *
            clear u3 u4
            go_wp2_with fail
            refine HHL.out.mono ?_
            rintro r w12 ⟨rfl, hp12, hk12⟩
            have HP12 := Lib.hid ((hp12.re HG.out).less (Y' := fun b => ∃ a, some (⟨b0, off, none⟩ : Addr) = some a ∧ b = a.block) fun b hb2 => .inl (.inl hb2))
            have HV12 := Lib.hid (sees_keep HV11.out hk12 fun _ a ha => .inl (.inl ⟨a, ha, rfl⟩))
            clear hp12 hk12 HHL
            go_wp2_with fail
            go_roundw
            case rel => exact ⟨(m + 1) + 1, by omega, by go_num, HP12.out, HV12.out⟩
            case measure => simp [intOf]; omega
    · have hend : ¬ (n : Int) < (S.length : Int) := by omega
      go_wp2_with fail
      go_ret
      exact ⟨rfl, HB0.out.trans (HP.out.bel.mono HB0.out.size)⟩

set_option maxRecDepth 100000 in
theorem lifted (os : Os) (started : os.Started) (H : Type) (enc : TypeId × Value → H) :
    ReturnsInHanded {} Tryz.checked os 5 .any (Rows.vaultHoldsSpec.pre6 enc Tryz.prog Tryz.f5 Rows.vaultHoldsRow.domain false) (Rows.vaultHoldsSpec.post enc Tryz.prog Tryz.f5 false true false false) := by
  refine returnsInHanded_of_change (C := Tryz.checked) own started (by kernel_rfl) Tryz.func5
    (ChangeSpec.witness6 (enc := enc) (C := Tryz.checked) false ⟨#[], #[.float .f64 0, .slice none 0 0, .agg #[.int .i64 0, .int .i64 0, .int .i64 0, .int .i64 0, .int .i64 0, .bool false]], []⟩ 8 (by kernel_rfl) (by kernel_rfl) (by kernel_rfl) (by kernel_rfl)) ?_
  intro W base args ds gs before hval0 hW hcnd _
  have hval : ∀ (j : Nat) t v, Tryz.f5.params[j]? = some t → args[j]? = some v → Value.okWide Tryz.prog W .any base t v := hval0
  have hW' := hW
  obtain ⟨p, q, hA0, hV, rfl, hfz, hnd⟩ := hW
  have hA : DataW.TrodAll enc Tryz.prog W 0 (fun _ => true) true Tryz.f5.params.toList args.toList ds p := hA0
  rw [Tryz.params5] at hA hval
  obtain ⟨v0, vs0, d0, ds0, p0, q0, hargs, rfl, rfl, h0, r0⟩ := trodAll_cons hA
  obtain ⟨v1, vs1, d1, ds1, p1, q1, rfl, rfl, rfl, h1, r1⟩ := trodAll_cons r0
  obtain ⟨v2, vs2, d2, ds2, p2, q2, rfl, rfl, rfl, h2, r2⟩ := trodAll_cons r1
  obtain ⟨rfl, rfl, rfl⟩ := trodAll_nil r2
  obtain rfl : args = #[v0, v1, v2] := by cases args; simp_all
  obtain ⟨rfl, rfl⟩ := trodVars_none hV
  obtain ⟨a0, rfl⟩ := okWide_float Tryz.underlying22 (hval 0 22 v0 rfl rfl)
  have w0 : a0 < 18446744073709551616 := by
    obtain ⟨m, hm⟩ := h0
    obtain ⟨s, hs, hl⟩ := float_of (k := .f64) Tryz.underlying22 hm
    simp [Value.cells] at hs
    rw [hs]; simpa [Lit.wf] using hl
  have lt0 : ∀ x ∈ p0, x.block < W.heap.size := by obtain ⟨m, hm⟩ := h0; exact DataW.trod_lt m _ _ _ hm
  obtain ⟨A1, len1, cap1, rfl⟩ := okWide_slice Tryz.underlying23 (hval 1 23 v1 rfl rfl)
  obtain ⟨l1, w1⟩ := open_ops h1
  have lt1 : ∀ x ∈ p1, x.block < W.heap.size := by obtain ⟨m, hm⟩ := h1; exact DataW.trod_lt m _ _ _ hm
  obtain ⟨o2, rfl, w2⟩ := open_op (hval 2 41 v2 rfl rfl) h2
  have lt2 : ∀ x ∈ p2, x.block < W.heap.size := by obtain ⟨m, hm⟩ := h2; exact DataW.trod_lt m _ _ _ hm
  clear hA0 hval0
  simp only [List.append_nil] at hW'
  refine (walk a0 w0 A1 len1 cap1 l1 o2 w2 W w1).mono fun e W' ⟨he, bel⟩ => ?_
  subst he
  exact ⟨_, rfl, _, _, _, [], _, [], hW', trodAll_mk1 (shut_bool Tryz.underlying4 _), (trodAll_cons_mk (Below.trod laidOut (by kernel_rfl) (of_decide_eq_true (by kernel_rfl)) h0 bel lt0) (trodAll_cons_mk (Below.trod laidOut (by kernel_rfl) (of_decide_eq_true (by kernel_rfl)) h1 bel lt1) (trodAll_cons_mk (Below.trod laidOut (by kernel_rfl) (of_decide_eq_true (by kernel_rfl)) h2 bel lt2) trodAll_mk0))), rfl, bel.frame _, fun h => by cases h⟩

theorem proved : Rows.VaultHoldsSaid :=
  OpenClaim.holds_of_wide 5 Tryz.f5 rfl rfl rfl rfl rfl rfl rfl ⟨rfl, rfl, rfl, rfl, rfl⟩ rfl rfl rfl rfl rfl (by kernel_rfl) Tryz.func5 (by kernel_rfl)
    (of_decide_eq_true (by kernel_rfl)) (by unfold Func.isWrapper; first | (rw [if_pos (by decide +kernel)]; kernel_rfl) | (rw [if_neg (by decide +kernel)]; exact ⟨rfl, rfl⟩))
    (fun os started H enc _ => lifted os started H enc)
#print axioms proved
end Go.Proofs.YtckhddndeojobaaGreat.vaultHolds
