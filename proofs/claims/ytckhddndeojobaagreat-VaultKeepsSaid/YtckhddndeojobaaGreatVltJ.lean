/- Vaults: contracts: Hold. -/
import Derived.Test.YtckhddndeojobaaGreatVltHp
namespace Go.Proofs.YtckhddndeojobaaGreat
open Go.RowKit Go.Cn Go.So Go.Vt
open Go.Lk (upd supp Fin1 upd_same upd_other)
set_option linter.unusedVariables false
set_option linter.unusedSimpArgs false
set_option maxRecDepth 100000
set_option maxHeartbeats 4000000 in
theorem vhold_any {w : World} {g sg hb fb : Nat} {v : Vt} {Fs F : Nat → Prop} {m : Nat} (t : Int) (p : Pt) (h1 : W64 p.id) (h2 : W64 p.acc) (h3 : W64 p.n) (hg : Vt.Good v m) (hn : (supp v.fates).length ≤ 1000000) (hn2 : (supp v.held).length ≤ 1000000) (x : Vx w g sg hb fb v Fs F) :
    Calls Tryz.prog 19 #[ptr g, .int .i64 t, ptE p] w fun e w' => e = .returned (.int .i64 (holdE v t p)) ∧ WentV F w w' g (holdV v t p) := by
  have hal := (Below.refl w.heap.size w).alloc (Nat.le_refl _) (.cells #[.int .i64 p.id, .int .i64 p.acc, .int .i64 p.n, .bool p.pays] 52)
  have HB0 := Lib.hid hal
  have HX0 := Lib.hid (x.call hal)
  have HX := Lib.hid x
  have HWB0 := Lib.hid (Whole.fresh w 52 #[.int .i64 p.id, .int .i64 p.acc, .int .i64 p.n, .bool p.pays])
  have HO := Lib.hid (fun z (x : Vx z g sg hb fb v Fs F) => vorder_any t x)
  have HU := Lib.hid (fun z (x : Vx z g sg hb fb v Fs F) => vunknown_any p.id h1 x)
  have HC := Lib.hid (fun z (x : Vx z g sg hb fb v Fs F) => vcharge_any p h1 h2 h3 hg x)
  have HE : Hid (holdE v t p = if orderE v t = 0 then (if unknownE v p.id = 0 then chargeE v p else unknownE v p.id) else orderE v t) := Lib.hid rfl
  have HV : Hid (holdV v t p = if holdE v t p = 0 then { v with held := upd v.held p.acc (some ⟨p, t, chg v p⟩), fates := upd v.fates p.id (some ⟨1, t, p.acc⟩), top := t } else v) := Lib.hid rfl
  have HCN : Hid (chargeE v p = 0 → chN v p = chg v p) := Lib.hid fun h => by unfold chN; rw [if_pos h]
  clear x hal hg
  generalize chN v p = cn at *
  generalize chg v p = cg at *
  generalize chargeE v p = ce at *
  generalize orderE v t = oe at *
  obtain ⟨p1, p2, p3, p4⟩ := p
  dsimp only at *
  generalize unknownE v p1 = ue at *
  by_cases e1 : oe = 0
  · subst e1
    rw [if_pos rfl] at HE
    by_cases e2 : ue = 0
    · subst e2
      rw [if_pos rfl] at HE
      by_cases e3 : ce = 0
      · subst e3
        have hcn := HCN.out rfl
        subst hcn
        have HV2 : Hid (holdV v t ⟨p1, p2, p3, p4⟩ = { v with held := upd v.held p2 (some ⟨⟨p1, p2, p3, p4⟩, t, cn⟩), fates := upd v.fates p1 (some ⟨1, t, p2⟩), top := t }) := Lib.hid (by rw [HV.out, if_pos HE.out])
        clear HV HCN
        go_enter Tryz.func19, Tryz.ntmps19
        go_upto_region 1 with fail
        generalize hw0 : w.alloc (.cells #[.int .i64 p1, .int .i64 p2, .int .i64 p3, .bool p4] 52) = w0 at *
        clear hw0
        go_wp2_with fail
        refine (HO.out w0 HX0.out).mono ?_
        rintro e w1 ⟨rfl, hb1⟩
        have HX1 := Lib.hid (HX0.out.call hb1)
        have HB1 := Lib.hid (HB0.out.trans (hb1.mono HB0.out.size))
        have HWB1 := Lib.hid (HWB0.out.below hb1 HWB0.out.lt)
        clear hb1
        have ky := HWB1.out
        have k0 := ky.cell 0
        have kz := ky.lt
        simp only [List.getElem?_toArray, List.getElem?_cons_zero, List.getElem?_cons_succ] at k0
        clear ky
        go_wp2_with fail
        refine (HU.out w1 HX1.out).mono ?_
        rintro e w2 ⟨rfl, hb1⟩
        have HX2 := Lib.hid (HX1.out.call hb1)
        have HB2 := Lib.hid (HB1.out.trans (hb1.mono HB1.out.size))
        have HWB2 := Lib.hid (HWB1.out.below hb1 HWB1.out.lt)
        clear hb1 k0 kz
        have ky := HWB2.out
        have k0 := ky.cell 0
        have k1 := ky.cell 1
        have k2 := ky.cell 2
        have k3 := ky.cell 3
        have kz := ky.lt
        simp only [List.getElem?_toArray, List.getElem?_cons_zero, List.getElem?_cons_succ] at k0 k1 k2 k3
        clear ky
        go_wp2_with fail
        refine (HC.out w2 HX2.out).mono ?_
        rintro e w3 ⟨rfl, hb1⟩
        have HX3 := Lib.hid (HX2.out.call hb1)
        have HB3 := Lib.hid (HB2.out.trans (hb1.mono HB2.out.size))
        have HWB3 := Lib.hid (HWB2.out.below hb1 HWB2.out.lt)
        clear hb1 k0 k1 k2 k3 kz
        go_upto_region 10 with fail
        obtain ⟨C, hC, HCc, HCf⟩ := vbelow_class w3
        refine region_inT 10 C hC (by kernel_rfl) (by kernel_rfl) ?_
        simp only [List.take_succ_cons, List.take_zero, List.drop_succ_cons, List.drop_zero]
        iterate 10
          (refine WQ.step (fun K hK => ?_)
           go_simp
           first
             | (refine hK _ ?_; clear hK K)
             | (apply Exists.intro
                refine ⟨fun z hz => ?_, hK _ ?_⟩
                · first
                    | rfl
                    | (obtain ⟨c0, c1, c2, c3, c4, c5, cf, cz⟩ := (HX3.out.call (HCf.out _ hz)).cells
                       have ky := HWB3.out.below (HCf.out _ hz) HWB3.out.lt
                       have k0 := ky.cell 0
                       have k1 := ky.cell 1
                       have k2 := ky.cell 2
                       have k3 := ky.cell 3
                       have kz := ky.lt
                       simp only [List.getElem?_toArray, List.getElem?_cons_zero, List.getElem?_cons_succ] at k0 k1 k2 k3
                       clear ky
                       go_simp
                       rfl)
                clear hK K))
        refine WQ.nil ?_
        intro w4 hw
        have HX4 := Lib.hid (HX3.out.call (HCf.out _ hw))
        have HB4 := Lib.hid (HB3.out.trans ((HCf.out _ hw).mono HB3.out.size))
        have HWB4 := Lib.hid (HWB3.out.below (HCf.out _ hw) HWB3.out.lt)
        clear hw hC HCc HCf C
        go_wp2_with (at_mapUpdate; refine wpList_put_mv _ hvE_inj rfl _ _ _ 31 rfl 54 Tryz.underlying31 hb v.held rfl HX4.out.held p2 rfl h2 (⟨⟨p1, p2, p3, p4⟩, t, cn⟩ : Hv) rfl (by omega) ?_)
        intro w5 hm5 ho5 hs5
        have HX5 := Lib.hid (HX4.out.setHeld ho5 hm5)
        have HO5 := Lib.hid ((Off.of HB4.out F).trans (HX4.out.offH ho5))
        have HWB5 : Hid (Whole w5 w.heap.size 52 #[.int .i64 p1, .int .i64 p2, .int .i64 p3, .bool p4]) := Lib.hid (ho5.whole HWB4.out fun e => (HX4.out.held.notCells HWB4.out) e.symm)
        clear hm5 ho5 hs5
        go_upto_region 11 with fail
        obtain ⟨C, hC, HCc, HCf⟩ := vbelow_class w5
        refine region_inT 10 C hC (by kernel_rfl) (by kernel_rfl) ?_
        simp only [List.take_succ_cons, List.take_zero, List.drop_succ_cons, List.drop_zero]
        iterate 10
          (refine WQ.step (fun K hK => ?_)
           go_simp
           first
             | (refine hK _ ?_; clear hK K)
             | (apply Exists.intro
                refine ⟨fun z hz => ?_, hK _ ?_⟩
                · first
                    | rfl
                    | (obtain ⟨c0, c1, c2, c3, c4, c5, cf, cz⟩ := (HX5.out.call (HCf.out _ hz)).cells
                       have ky := HWB5.out.below (HCf.out _ hz) HWB5.out.lt
                       have k0 := ky.cell 0
                       have k1 := ky.cell 1
                       have k2 := ky.cell 2
                       have k3 := ky.cell 3
                       have kz := ky.lt
                       simp only [List.getElem?_toArray, List.getElem?_cons_zero, List.getElem?_cons_succ] at k0 k1 k2 k3
                       clear ky
                       go_simp
                       rfl)
                clear hK K))
        refine WQ.nil ?_
        intro w6 hw
        have HX6 := Lib.hid (HX5.out.call (HCf.out _ hw))
        have HO6 := Lib.hid (HO5.out.trans (Off.of (HCf.out _ hw) F))
        clear hw hC HCc HCf C
        go_wp2_with (at_mapUpdate; refine wpList_put_mv _ ftE_inj rfl _ _ _ 32 rfl 69 Tryz.underlying32 fb v.fates rfl HX6.out.fates p1 rfl h1 (⟨1, t, p2⟩ : Ft) rfl (by omega) ?_)
        intro w7 hm7 ho7 hs7
        have HX7 := Lib.hid (HX6.out.setFate ho7 hm7)
        have HO7 := Lib.hid (HO6.out.trans (HX6.out.offF ho7))
        clear hm7 ho7 hs7
        obtain ⟨c0, c1, c2, c3, c4, c5, cf, cz⟩ := HX7.out.cells
        have HX8 := Lib.hid (HX7.out.setTop t)
        have HO8 := Lib.hid (HO7.out.trans (HX7.out.offG 5 (.int .i64 t)))
        dsimp only at c0 c1 c2 c3 c4 c5
        go_wp2_with fail
        go_ret
        exact ⟨by rw [HE.out]; rfl, by rw [HV2.out]; exact ⟨HO8.out, F, fun b h => .inl h, sg, hb, fb, Fs, HX8.out⟩⟩
      · have HV2 : Hid (holdV v t ⟨p1, p2, p3, p4⟩ = v) := Lib.hid (by rw [HV.out, HE.out, if_neg e3])
        have i3 : (ce == 0) = false := by simpa using e3
        have i4 : (ce != 0) = true := by simpa using e3
        clear HV HCN
        go_enter Tryz.func19, Tryz.ntmps19
        go_upto_region 1 with fail
        generalize hw0 : w.alloc (.cells #[.int .i64 p1, .int .i64 p2, .int .i64 p3, .bool p4] 52) = w0 at *
        clear hw0
        go_wp2_with fail
        refine (HO.out w0 HX0.out).mono ?_
        rintro e w1 ⟨rfl, hb1⟩
        have HX1 := Lib.hid (HX0.out.call hb1)
        have HB1 := Lib.hid (HB0.out.trans (hb1.mono HB0.out.size))
        have HWB1 := Lib.hid (HWB0.out.below hb1 HWB0.out.lt)
        clear hb1
        have ky := HWB1.out
        have k0 := ky.cell 0
        have kz := ky.lt
        simp only [List.getElem?_toArray, List.getElem?_cons_zero, List.getElem?_cons_succ] at k0
        clear ky
        go_wp2_with fail
        refine (HU.out w1 HX1.out).mono ?_
        rintro e w2 ⟨rfl, hb1⟩
        have HX2 := Lib.hid (HX1.out.call hb1)
        have HB2 := Lib.hid (HB1.out.trans (hb1.mono HB1.out.size))
        have HWB2 := Lib.hid (HWB1.out.below hb1 HWB1.out.lt)
        clear hb1 k0 kz
        have ky := HWB2.out
        have k0 := ky.cell 0
        have k1 := ky.cell 1
        have k2 := ky.cell 2
        have k3 := ky.cell 3
        have kz := ky.lt
        simp only [List.getElem?_toArray, List.getElem?_cons_zero, List.getElem?_cons_succ] at k0 k1 k2 k3
        clear ky
        go_wp2_with fail
        refine (HC.out w2 HX2.out).mono ?_
        rintro e w3 ⟨rfl, hb1⟩
        have HB3 := Lib.hid (HB2.out.trans (hb1.mono HB2.out.size))
        clear hb1 k0 k1 k2 k3 kz
        go_wp2_with fail
        go_ret
        exact ⟨by rw [HE.out]; rfl, by rw [HV2.out]; exact .same HX.out HB3.out⟩
    · rw [if_neg e2] at HE
      have HV2 : Hid (holdV v t ⟨p1, p2, p3, p4⟩ = v) := Lib.hid (by rw [HV.out, HE.out, if_neg e2])
      have i3 : (ue == 0) = false := by simpa using e2
      have i4 : (ue != 0) = true := by simpa using e2
      clear HV HCN
      go_enter Tryz.func19, Tryz.ntmps19
      go_upto_region 1 with fail
      generalize hw0 : w.alloc (.cells #[.int .i64 p1, .int .i64 p2, .int .i64 p3, .bool p4] 52) = w0 at *
      clear hw0
      go_wp2_with fail
      refine (HO.out w0 HX0.out).mono ?_
      rintro e w1 ⟨rfl, hb1⟩
      have HX1 := Lib.hid (HX0.out.call hb1)
      have HB1 := Lib.hid (HB0.out.trans (hb1.mono HB0.out.size))
      have HWB1 := Lib.hid (HWB0.out.below hb1 HWB0.out.lt)
      clear hb1
      have ky := HWB1.out
      have k0 := ky.cell 0
      have kz := ky.lt
      simp only [List.getElem?_toArray, List.getElem?_cons_zero, List.getElem?_cons_succ] at k0
      clear ky
      go_wp2_with fail
      refine (HU.out w1 HX1.out).mono ?_
      rintro e w2 ⟨rfl, hb1⟩
      have HB2 := Lib.hid (HB1.out.trans (hb1.mono HB1.out.size))
      clear hb1 k0 kz
      go_wp2_with fail
      go_ret
      exact ⟨by rw [HE.out]; rfl, by rw [HV2.out]; exact .same HX.out HB2.out⟩
  · rw [if_neg e1] at HE
    have HV2 : Hid (holdV v t ⟨p1, p2, p3, p4⟩ = v) := Lib.hid (by rw [HV.out, HE.out, if_neg e1])
    have i3 : (oe == 0) = false := by simpa using e1
    have i4 : (oe != 0) = true := by simpa using e1
    clear HV HCN
    go_enter Tryz.func19, Tryz.ntmps19
    go_upto_region 1 with fail
    generalize hw0 : w.alloc (.cells #[.int .i64 p1, .int .i64 p2, .int .i64 p3, .bool p4] 52) = w0 at *
    clear hw0
    go_wp2_with fail
    refine (HO.out w0 HX0.out).mono ?_
    rintro e w1 ⟨rfl, hb1⟩
    have HB1 := Lib.hid (HB0.out.trans (hb1.mono HB0.out.size))
    clear hb1
    go_wp2_with fail
    go_ret
    exact ⟨by rw [HE.out]; rfl, by rw [HV2.out]; exact .same HX.out HB1.out⟩
end Go.Proofs.YtckhddndeojobaaGreat
