/- Vaults: contracts: Prune, Has, Snap, Drop. (Written by gvltq.py.) -/
import Derived.Test.YtckhddndeojobaaGreatVltP
namespace Go.Proofs.YtckhddndeojobaaGreat
open Go.RowKit Go.Cn Go.So Go.Vt
open Go.Lk (upd supp Fin1 upd_same upd_other)
set_option linter.unusedVariables false
set_option linter.unusedSimpArgs false
set_option maxRecDepth 100000
theorem vbelow_class (w : World) : ∃ C : World → Prop, C w.drew ∧ Hid (∀ a b, C a → Below a.heap.size a b → C b) ∧ Hid (∀ a, C a → Below w.heap.size w a) :=
  ⟨fun a => Below w.heap.size w a, drew_below w 1, Lib.hid fun a b ha hb => ha.trans (hb.mono ha.size), Lib.hid fun a ha => ha⟩
section
variable {w : World} {g sg hb fb : Nat} {v : Vt} {Fs F : Nat → Prop}
theorem vprune_any (t : Int) (x : Vx w g sg hb fb v Fs F) : Calls Tryz.prog 23 #[ptr g, .int .i64 t] w fun e w' => e = .returned (.int .i64 (oursE (pruneSE v.s t))) ∧ WentV F w w' g (pruneV v t) := by
  obtain ⟨c0, c1, c2, c3, c4, c5, cf, cz⟩ := x.cells
  have HX := Lib.hid x
  have HP := Lib.hid (sprune_any t w x.sto)
  have HO := Lib.hid (fun n w0 => vours_any n w0)
  clear x
  generalize pruneSE v.s t = E at *
  go_enter Tryz.func23, Tryz.ntmps23
  go_wp2_with fail
  refine HP.out.mono ?_
  rintro e w1 ⟨rfl, hm⟩
  obtain ⟨Fs', F', x1, ho, hF⟩ := HX.out.went hm
  have HM : Hid (WentV F w w1 g (pruneV v t)) := Lib.hid ⟨ho, F', hF, sg, hb, fb, Fs', x1⟩
  clear x1 ho hF hm c0 c1 c2 c3 c4 c5 cf cz
  go_wp2_with fail
  refine (HO.out _ _).mono ?_
  rintro e w2 ⟨rfl, rfl⟩
  go_wp2_with fail
  go_ret
  exact ⟨rfl, HM.out⟩
theorem vhas_any (a t : Int) (x : Vx w g sg hb fb v Fs F) : Calls Tryz.prog 22 #[ptr g, .int .i64 a, .int .i64 t] w fun e w' => e = .returned (.tuple #[.int .i64 (hasN v a t), .int .i64 (hasE v a t)]) ∧ Below w.heap.size w w' := by
  obtain ⟨c0, c1, c2, c3, c4, c5, cf, cz⟩ := x.cells
  have HA := Lib.hid (fun w0 => vacc_any a w0)
  have HO := Lib.hid (fun n w0 => vours_any n w0)
  have HG : Hid (Calls Tryz.prog 43 #[ptr sg, .int .i64 a, .int .i64 t] w fun e w' => e = .returned (.tuple #[aggV (getSV v.s a t), .int .i64 (getSE v.s a t)]) ∧ Below w.heap.size w w') := Lib.hid (by
    obtain ⟨mb, rb, K, y⟩ := x.sto
    exact sget_any a t w y)
  clear x
  cases hac : isAc a with
  | false =>
    have HE : Hid (hasN v a t = 0 ∧ hasE v a t = 153) := Lib.hid (by unfold hasN hasE; rw [hac]; exact ⟨rfl, rfl⟩)
    rw [hac] at HA
    clear hac
    go_enter Tryz.func22, Tryz.ntmps22
    go_wp2_with fail
    refine (HA.out _).mono ?_
    rintro e w1 ⟨rfl, rfl⟩
    go_wp2_with fail
    go_ret2
    exact ⟨by rw [HE.out.1, HE.out.2]; rfl, Below.refl _ _⟩
  | true =>
    have HE : Hid (hasN v a t = (getSV v.s a t).2 ∧ hasE v a t = oursE (getSE v.s a t)) := Lib.hid (by unfold hasN hasE; rw [hac]; exact ⟨rfl, rfl⟩)
    rw [hac] at HA
    clear hac
    generalize getSV v.s a t = y at *
    generalize getSE v.s a t = E at *
    obtain ⟨y1, y2⟩ := y
    dsimp only at *
    go_enter Tryz.func22, Tryz.ntmps22
    go_wp2_with fail
    refine (HA.out _).mono ?_
    rintro e w1 ⟨rfl, rfl⟩
    go_wp2_with fail
    refine HG.out.mono ?_
    rintro e w2 ⟨rfl, hb2⟩
    have HB := Lib.hid (hb2.alloc hb2.size (.cells #[.int .i64 y1, .int .i64 y2] 81))
    clear hb2 HG c0 c1 c2 c3 c4 c5 cf cz
    go_wp2_with fail
    go_quiet ((go_at_call 25; exact Calls.quiet_of_same ((HO.out _ _).mono (by rintro e x ⟨rfl, rfl⟩; exact ⟨rfl, rfl⟩))))
    go_wp2_with fail
    go_ret2
    exact ⟨by rw [HE.out.1, HE.out.2]; rfl, below_drewN HB.out _⟩
theorem vsnap_any (t : Int) (x : Vx w g sg hb fb v Fs F) : Calls Tryz.prog 9 #[ptr g, .int .i64 t] w fun e w' => ∃ A cap, e = .returned (.tuple #[.slice A (snapS v.s t).length cap, .int .i64 (oursE (tellsE v.s t))]) ∧ Below w.heap.size w w' ∧ w'.ownsRow w.heap.size 62 2 (.slice A (snapS v.s t).length cap) (snapS v.s t).length (flat encE (snapS v.s t)) := by
  obtain ⟨c0, c1, c2, c3, c4, c5, cf, cz⟩ := x.cells
  have HO := Lib.hid (fun n w0 => vours_any n w0)
  have HG : Hid (Calls Tryz.prog 24 #[ptr sg, .int .i64 t] w fun e w' => ∃ A cap, e = .returned (.tuple #[.slice A (snapS v.s t).length cap, .int .i64 (tellsE v.s t)]) ∧ Below w.heap.size w w' ∧ w'.ownsRow w.heap.size 62 2 (.slice A (snapS v.s t).length cap) (snapS v.s t).length (flat encE (snapS v.s t))) := Lib.hid (by
    obtain ⟨mb, rb, K, y⟩ := x.sto
    exact ssnap_any t w y)
  clear x
  generalize snapS v.s t = S at *
  generalize tellsE v.s t = E at *
  go_enter Tryz.func9, Tryz.ntmps9
  go_wp2_with fail
  refine HG.out.mono ?_
  rintro e w1 ⟨A, cap, rfl, hb1, ho⟩
  have HB := Lib.hid hb1
  have HW := Lib.hid ho
  clear hb1 ho
  go_wp2_with fail
  refine (HO.out _ _).mono ?_
  rintro e w2 ⟨rfl, rfl⟩
  go_wp2_with fail
  go_ret2
  exact ⟨A, cap, rfl, HB.out, HW.out⟩
set_option maxHeartbeats 2000000 in
theorem vdrop_any (id : Int) (hi : W64 id) (hacc : (fateOf v id).is = 1 → W64 (fateOf v id).acc) (hn : (supp v.fates).length ≤ 1000000) (x : Vx w g sg hb fb v Fs F) :
    Calls Tryz.prog 14 #[ptr g, .int .i64 id] w fun e w' => e = .returned (.int .i64 (dropE v id)) ∧ WentV F w w' g (dropV v id) := by
  have HX := Lib.hid x
  have hl := (x.lookF hi).1
  change _ = Result.ok (Value.tuple #[ftE (fateOf v id), _]) w at hl
  have HED : Hid (dropE v id = if id < 1 then 156 else if (fateOf v id).is = 2 then 157 else if (v.fates id).isSome = false ∧ isFullV v = true then 158 else 0) := Lib.hid rfl
  have HVD : Hid (dropV v id = if dropE v id = 0 then { v with held := if (fateOf v id).is = 1 then upd v.held (fateOf v id).acc none else v.held, fates := upd v.fates id (some ⟨3, 0, 0⟩) } else v) := Lib.hid rfl
  have HK0 : Hid ((fateOf v id).is = 1 → (v.fates id).isSome = true) := Lib.hid fun h => by rw [fate_some (v := v) (id := id) (by rw [h]; decide)]; rfl
  obtain ⟨c0, c1, c2, c3, c4, c5, cf, cz⟩ := x.cells
  clear x
  generalize fateOf v id = f at *
  obtain ⟨f1, f2, f3⟩ := f
  dsimp only at *
  generalize (v.fates id).isSome = so at *
  have hal := (Below.refl w.heap.size w).alloc (Nat.le_refl _) (.cells #[.int .i64 f1, .int .i64 f2, .int .i64 f3] 69)
  have HB := Lib.hid hal
  have HX1 := Lib.hid (HX.out.call hal)
  have HFL := Lib.hid (vfull_any (HX.out.call hal))
  have HWB : Hid (Whole (w.alloc (.cells #[.int .i64 f1, .int .i64 f2, .int .i64 f3] 69)) w.heap.size 69 #[.int .i64 f1, .int .i64 f2, .int .i64 f3]) := Lib.hid (Whole.fresh _ _ _)
  clear hal
  by_cases h1 : id < 1
  · have HE : Hid (dropE v id = 156) := Lib.hid (by rw [HED.out, if_pos h1])
    have HV : Hid (dropV v id = v) := Lib.hid (by rw [HVD.out, HE.out]; rfl)
    clear HED HVD
    go_enter Tryz.func14, Tryz.ntmps14
    go_wp2_with fail
    go_ret
    exact ⟨by rw [HE.out]; rfl, by rw [HV.out]; exact .same HX.out HB.out⟩
  by_cases h2 : f1 = 2
  · have HE : Hid (dropE v id = 157) := Lib.hid (by rw [HED.out, if_neg h1, if_pos h2])
    have HV : Hid (dropV v id = v) := Lib.hid (by rw [HVD.out, HE.out]; rfl)
    clear HED HVD
    subst h2
    go_enter Tryz.func14, Tryz.ntmps14
    go_wp2_with fail
    go_ret
    exact ⟨by rw [HE.out]; rfl, by rw [HV.out]; exact .same HX.out HB.out⟩
  have i2 : (f1 == 2) = false := by simpa using h2
  by_cases h4 : f1 = 1
  · have hso := HK0.out h4
    subst hso
    have HE : Hid (dropE v id = 0) := Lib.hid (by rw [HED.out, if_neg h1, if_neg h2, if_neg (by simp)])
    have HV : Hid (dropV v id = { v with held := upd v.held f3 none, fates := upd v.fates id (some ⟨3, 0, 0⟩) }) := Lib.hid (by rw [HVD.out, if_pos HE.out, if_pos h4])
    have hw64 := hacc h4
    clear HED HVD hacc HK0
    subst h4
    go_enter Tryz.func14, Tryz.ntmps14
    go_upto_region 9 with fail
    generalize hw1 : w.alloc (.cells #[.int .i64 1, .int .i64 f2, .int .i64 f3] 69) = w1 at *
    clear hw1 hl c0 c1 c2 c3 c4 c5 cf cz
    obtain ⟨C, hC, HCc, HCf⟩ := vbelow_class w1
    refine region_inT 6 C hC (by kernel_rfl) (by kernel_rfl) ?_
    simp only [List.take_succ_cons, List.take_zero, List.drop_succ_cons, List.drop_zero]
    iterate 6
      (refine WQ.step (fun K hK => ?_)
       go_simp
       first
         | (refine hK _ ?_; clear hK K)
         | (apply Exists.intro
            refine ⟨fun z hz => ?_, hK _ ?_⟩
            · first
                | rfl
                | (obtain ⟨c0, c1, c2, c3, c4, c5, cf, cz⟩ := (HX1.out.call (HCf.out _ hz)).cells
                   have ky := HWB.out.below (HCf.out _ hz) HWB.out.lt
                   have k2 := ky.cell 2
                   have kz := ky.lt
                   simp only [List.getElem?_toArray, List.getElem?_cons_zero, List.getElem?_cons_succ] at k2
                   clear ky
                   go_simp
                   rfl)
            clear hK K))
    refine WQ.nil ?_
    intro w2 hw
    have HB2 := Lib.hid (HB.out.trans ((HCf.out _ hw).mono HB.out.size))
    have HX2 := Lib.hid (HX1.out.call (HCf.out _ hw))
    clear hw hC HCc HCf C HX1 HWB HFL
    go_wp2_with (at_delete; refine wpList_delete_mv _ rfl _ _ 31 rfl 54 Tryz.underlying31 hb _ rfl HX2.out.held f3 rfl hw64 ?_)
    intro w3 hm3 ho3 hs3
    have HX3 := Lib.hid (HX2.out.setHeld ho3 hm3)
    have HO3 := Lib.hid ((Off.of HB2.out F).trans (HX2.out.offH ho3))
    clear hm3 ho3 hs3 HX2
    obtain ⟨c0, c1, c2, c3, c4, c5, cf, cz⟩ := HX3.out.cells
    dsimp only at c0 c1 c2 c3 c4 c5
    go_wp2_with (at_mapUpdate; refine wpList_put_mv _ ftE_inj rfl _ _ _ 32 rfl 69 Tryz.underlying32 fb v.fates rfl HX3.out.fates id rfl hi (⟨3, 0, 0⟩ : Ft) rfl (by omega) ?_)
    intro w4 hm4 ho4 hs4
    have HX4 := Lib.hid (HX3.out.setFate ho4 hm4)
    have HO4 := Lib.hid (HO3.out.trans (HX3.out.offF ho4))
    clear hm4 ho4 hs4
    go_wp2_with fail
    go_ret
    exact ⟨by rw [HE.out]; rfl, by rw [HV.out]; exact ⟨HO4.out, F, fun b h => .inl h, sg, hb, fb, Fs, HX4.out⟩⟩
  have i4 : (f1 == 1) = false := by simpa using h4
  cases so with
  | false =>
    cases hfl : isFullV v with
    | true =>
      have HE : Hid (dropE v id = 158) := Lib.hid (by rw [HED.out, if_neg h1, if_neg h2, if_pos ⟨rfl, hfl⟩])
      have HV : Hid (dropV v id = v) := Lib.hid (by rw [HVD.out, HE.out]; rfl)
      rw [hfl] at HFL
      clear HED HVD hfl
      go_enter Tryz.func14, Tryz.ntmps14
      go_wp2_with fail
      refine HFL.out.mono ?_
      rintro e w2 ⟨rfl, rfl⟩
      go_wp2_with fail
      go_ret
      exact ⟨by rw [HE.out]; rfl, by rw [HV.out]; exact .same HX.out HB.out⟩
    | false =>
      have HE : Hid (dropE v id = 0) := Lib.hid (by rw [HED.out, if_neg h1, if_neg h2, if_neg (by rw [hfl]; simp)])
      have HV : Hid (dropV v id = { v with fates := upd v.fates id (some ⟨3, 0, 0⟩) }) := Lib.hid (by rw [HVD.out, if_pos HE.out, if_neg h4])
      rw [hfl] at HFL
      clear HED HVD hfl
      go_enter Tryz.func14, Tryz.ntmps14
      go_wp2_with fail
      refine HFL.out.mono ?_
      rintro e w2 ⟨rfl, rfl⟩
      go_upto_region 10 with fail
      generalize hw1 : w.alloc (.cells #[.int .i64 f1, .int .i64 f2, .int .i64 f3] 69) = w1 at *
      clear hw1 hl c0 c1 c2 c3 c4 c5 cf cz HFL HWB
      obtain ⟨c0, c1, c2, c3, c4, c5, cf, cz⟩ := HX1.out.cells
      go_wp2_with (at_mapUpdate; refine wpList_put_mv _ ftE_inj rfl _ _ _ 32 rfl 69 Tryz.underlying32 fb v.fates rfl HX1.out.fates id rfl hi (⟨3, 0, 0⟩ : Ft) rfl (by omega) ?_)
      intro w4 hm4 ho4 hs4
      have HX4 := Lib.hid (HX1.out.setFate ho4 hm4)
      have HO4 := Lib.hid ((Off.of HB.out F).trans (HX1.out.offF ho4))
      clear hm4 ho4 hs4
      go_wp2_with fail
      go_ret
      exact ⟨by rw [HE.out]; rfl, by rw [HV.out]; exact ⟨HO4.out, F, fun b h => .inl h, sg, hb, fb, Fs, HX4.out⟩⟩
  | true =>
    have HE : Hid (dropE v id = 0) := Lib.hid (by rw [HED.out, if_neg h1, if_neg h2, if_neg (by simp)])
    have HV : Hid (dropV v id = { v with fates := upd v.fates id (some ⟨3, 0, 0⟩) }) := Lib.hid (by rw [HVD.out, if_pos HE.out, if_neg h4])
    clear HED HVD
    go_enter Tryz.func14, Tryz.ntmps14
    go_upto_region 10 with fail
    generalize hw1 : w.alloc (.cells #[.int .i64 f1, .int .i64 f2, .int .i64 f3] 69) = w1 at *
    clear hw1 hl c0 c1 c2 c3 c4 c5 cf cz HFL HWB
    obtain ⟨c0, c1, c2, c3, c4, c5, cf, cz⟩ := HX1.out.cells
    go_wp2_with (at_mapUpdate; refine wpList_put_mv _ ftE_inj rfl _ _ _ 32 rfl 69 Tryz.underlying32 fb v.fates rfl HX1.out.fates id rfl hi (⟨3, 0, 0⟩ : Ft) rfl (by omega) ?_)
    intro w4 hm4 ho4 hs4
    have HX4 := Lib.hid (HX1.out.setFate ho4 hm4)
    have HO4 := Lib.hid ((Off.of HB.out F).trans (HX1.out.offF ho4))
    clear hm4 ho4 hs4
    go_wp2_with fail
    go_ret
    exact ⟨by rw [HE.out]; rfl, by rw [HV.out]; exact ⟨HO4.out, F, fun b h => .inl h, sg, hb, fb, Fs, HX4.out⟩⟩
end
end Go.Proofs.YtckhddndeojobaaGreat
