/- Vaults: contracts: charge, of a part that pays. (Written by gvlth.py.) -/
import Derived.Test.YtckhddndeojobaaGreatVltHg
namespace Go.Proofs.YtckhddndeojobaaGreat
open Go.RowKit Go.Cn Go.So Go.Vt
open Go.Lk (upd supp Fin1 upd_same upd_other)
set_option linter.unusedVariables false
set_option linter.unusedSimpArgs false
set_option maxRecDepth 100000
set_option maxHeartbeats 16000000 in
theorem vcharge_pays {w : World} {g sg hb fb : Nat} {v : Vt} {Fs F : Nat → Prop} {m : Nat} (p : Pt) (hpp : p.pays = true) (h1 : W64 p.id) (h2 : W64 p.acc) (h3 : W64 p.n) (hg : Vt.Good v m) (x : Vx w g sg hb fb v Fs F) :
    Calls Tryz.prog 37 #[ptr g, ptE p] w fun e w' => e = .returned (.tuple #[.int .i64 (chN v p), .int .i64 (chargeE v p)]) ∧ Below w.heap.size w w' := by
  have hrt := hg.rate
  have HF := Lib.hid (fun z => fee_any p.n v.rate (by unfold W64 at h3; omega) (rated_lt hrt) z)
  have HL := Lib.hid (fun z (x : Vx z g sg hb fb v Fs F) => vlast_any p.acc h2 x)
  have HLK := Lib.hid (fun z (x : Vx z g sg hb fb v Fs F) => (x.lookH h2).1)
  have HA := Lib.hid (fun z => vacc_any p.acc z)
  have hN0 := (hg.now p.acc)
  have HCE : Hid (chargeE v p = if isAc p.acc = false then 153 else if Am.isA p.n = false ∨ p.n = 0 then 155 else if (v.s.ch p.acc).isSome = false then 159 else if (v.held p.acc).isSome = true then 160 else
      if p.pays = true ∧ nowV v p.acc < p.n + chg v p then 161 else if p.pays = false ∧ 1000000000000000 < nowV v p.acc + p.n then 162 else 0) := Lib.hid rfl
  have HCH : Hid (chN v p = if chargeE v p = 0 then chg v p else 0) := Lib.hid rfl
  have hfE : Am.feeE p.n v.rate = if Am.isA p.n then 0 else 40 := by unfold Am.feeE; rw [hrt]; simp
  have hchg : chg v p = if p.pays = true then Am.feeV p.n v.rate else 0 := rfl
  have hfr : Am.isA p.n = true → 0 ≤ Am.feeV p.n v.rate ∧ Am.feeV p.n v.rate ≤ p.n := fun h => by
    unfold Am.feeV
    rw [h, hrt]
    have h0 := (Am.isA_iff _).1 h
    simpa using Am.fee_range p.n v.rate h0.1 hrt
  have hnw : nowV v p.acc = (lastS v.s p.acc).2 := rfl
  rw [hfE] at HF
  rw [hnw] at hN0 HCE
  rw [hchg] at HCE HCH
  have HX0 := Lib.hid (x.call ((Below.refl w.heap.size w).alloc (Nat.le_refl _) (.cells #[.int .i64 p.id, .int .i64 p.acc, .int .i64 p.n, .bool p.pays] 52)))
  have HB0 : Hid (Below w.heap.size w (w.alloc (.cells #[.int .i64 p.id, .int .i64 p.acc, .int .i64 p.n, .bool p.pays] 52))) := Lib.hid ((Below.refl w.heap.size w).alloc (Nat.le_refl _) _)
  have HWB0 := Lib.hid (Whole.fresh w 52 #[.int .i64 p.id, .int .i64 p.acc, .int .i64 p.n, .bool p.pays])
  clear x hg hfE hchg hnw
  have hia : ∀ q : Bool, q = Am.isA p.n → (q = true ↔ 0 ≤ p.n ∧ p.n ≤ 1000000000000000) := fun q hq => by rw [hq]; exact Am.isA_iff _
  have hab := fun h : isAc p.acc = true => ((isAc_iff _).1 h).2
  generalize chargeE v p = CE at *
  generalize chN v p = CN at *
  obtain ⟨p1, p2, p3, p4⟩ := p
  dsimp only at *
  generalize Am.feeV p3 v.rate = fee at *
  have hi2 := hia (Am.isA p3) rfl
  clear hia
  generalize Am.isA p3 = okN at *
  generalize isAc p2 = ac at *
  generalize lastS v.s p2 = y at *
  generalize (v.s.ch p2).isSome = op at *
  generalize (v.held p2).isSome = bz at *
  generalize (v.held p2).getD default = hv at *
  obtain ⟨y1, y2⟩ := y
  obtain ⟨⟨g1, g2, g3, g4⟩, g5, g6⟩ := hv
  dsimp only at *
  subst hpp
  cases ac with
  | false =>
    clear hi2 hfr hN0 hab
    generalize (if okN = true then (0 : Int) else 40) = E9 at *
    have HE : Hid (CN = 0 ∧ CE = 153) := Lib.hid (by
      have e : CE = 153 := by rw [HCE.out, if_pos rfl]
      exact ⟨by rw [HCH.out, e, if_neg (by decide)], e⟩)
    clear HCE HCH
    go_enter Tryz.func37, Tryz.ntmps37
    go_upto_region 1 with fail
    generalize hw0 : w.alloc (.cells #[.int .i64 p1, .int .i64 p2, .int .i64 p3, .bool true] 52) = w0 at *
    clear hw0
    obtain ⟨C, hC, HCc, HCf⟩ := vbelow_class w0
    refine region_in C hC (by kernel_rfl) (by kernel_rfl) ?_
    iterate 12
      (refine WQ.step (fun K hK => ?_)
       go_simp
       first
         | (refine hK _ ?_; clear hK K)
         | (apply Exists.intro
            refine ⟨fun z hz => ?_, hK _ ?_⟩
            · first
                | rfl
                | (go_at_call 54; refine (HF.out z).mono ?_; rintro e z2 ⟨rfl, hb⟩; exact ⟨rfl, HCc.out _ _ hz hb⟩)
                | (obtain ⟨c0, c1, c2, c3, c4, c5, cf, cz⟩ := (HX0.out.call (HCf.out _ hz)).cells
                   have ky := HWB0.out.below (HCf.out _ hz) HWB0.out.lt
                   have k0 := ky.cell 0
                   have k1 := ky.cell 1
                   have k2 := ky.cell 2
                   have k3 := ky.cell 3
                   have kz := ky.lt
                   simp only [List.getElem?_toArray, List.getElem?_cons_zero, List.getElem?_cons_succ] at k0 k1 k2 k3
                   clear ky
                   go_simp
                   rfl)
            clear hK K))
    refine WQ.nil ?_
    intro w1 hw
    have HB1 := Lib.hid (HB0.out.trans ((HCf.out _ hw).mono HB0.out.size))
    have HX1 := Lib.hid (HX0.out.call (HCf.out _ hw))
    have HWB1 := Lib.hid (HWB0.out.below (HCf.out _ hw) HWB0.out.lt)
    clear hw hC HCc HCf C
    have ky := HWB1.out
    have k0 := ky.cell 0
    have k1 := ky.cell 1
    have k2 := ky.cell 2
    have k3 := ky.cell 3
    have kz := ky.lt
    clear ky
    simp only [List.getElem?_toArray, List.getElem?_cons_zero, List.getElem?_cons_succ] at k0 k1 k2 k3
    go_upto_region 4 with fail
    clear k0 k1 k2 k3 kz
    refine Iv.region (fun f aa yy => ∃ px, aa = ⟨#[ptr g, ptE ⟨p1, p2, p3, true⟩, undef, .pointer (some ⟨w.heap.size, 0, none⟩), .int .i64 0, .int .i64 0, .int .i64 fee, .int .i64 E9, so (f 10) (.pointer (some ⟨px, 0, none⟩)) (undef), so (f 12) (.bool op) (undef), undef, undef, .tuple #[.int .i64 fee, .int .i64 E9], .pointer (some ⟨w.heap.size, 2, none⟩), .int .i64 p3, ptr g, ptr g, .pointer (some ⟨g, 2, none⟩), .float .f64 v.rate, .tuple #[.int .i64 fee, .int .i64 E9], .int .i64 fee, .int .i64 E9, .pointer (some ⟨w.heap.size, 3, none⟩), .bool true, .bool false, so (f 7) (.tuple #[.agg #[.int .i64 y1, .int .i64 y2], .bool op]) (undef), so (f 0) (ptr g) (undef), so (f 1) (ptr g) (undef), so (f 2) (.pointer (some ⟨g, 1, none⟩)) (undef), so (f 3) (ptr sg) (undef), so (f 4) (.pointer (some ⟨w.heap.size, 1, none⟩)) (undef), so (f 5) (.int .i64 p2) (undef), so (f 6) (.tuple #[.agg #[.int .i64 y1, .int .i64 y2], .bool op]) (undef), so (f 8) (.agg #[.int .i64 y1, .int .i64 y2]) (undef), so (f 9) (.bool op) (undef), undef, undef, undef, undef, undef, undef, undef, undef, undef, undef, undef, undef, undef, undef, undef, undef, undef, undef, undef, undef, undef, undef, undef, undef, undef, undef, undef, undef, undef, undef, undef, undef, undef, undef, undef, undef, undef, undef, undef, undef, undef, undef, undef, undef, undef, undef, undef, undef, undef, undef, undef, undef, undef], []⟩ ∧ Nb w1 yy 81 #[.int .i64 0, .int .i64 0] #[.int .i64 y1, .int .i64 y2] px (f 10) (f 11)) (by kernel_rfl) (by kernel_rfl) ?_ ?_ ?_
    · exact ⟨0, rfl, Nb.start (drew_below w1 1) _ _ _ _⟩
    · refine ⟨?_, ?_, ?_, ?_, ?_, ?_, ?_, ?_, ?_, ?_, ?_, ?_, ?_, trivial⟩
      · rintro f a0 yy Q' ⟨px, rfl, hw⟩ hi hd hQ
        replace hQ := Lib.hid hQ
        simp [Iv.depsB, Region.binds] at hd
        try simp only [hi, hd, sl_true, sl_false, so_true, so_false]
        try simp only [hi, sl_true, sl_false, so_true, so_false]
        go_wp2_with fail
        refine hQ.out _ _ ⟨px, ?_, ?_⟩
        · simp [Iv.upd, hi, hd, sl_true, sl_false, so_true, so_false]
        · simpa [Iv.upd, hi, hd] using hw
      · rintro f a0 yy Q' ⟨px, rfl, hw⟩ hi hd hQ
        replace hQ := Lib.hid hQ
        simp [Iv.depsB, Region.binds] at hd
        try simp only [hi, hd, sl_true, sl_false, so_true, so_false]
        try simp only [hi, sl_true, sl_false, so_true, so_false]
        go_wp2_with fail
        refine hQ.out _ _ ⟨px, ?_, ?_⟩
        · simp [Iv.upd, hi, hd, sl_true, sl_false, so_true, so_false]
        · simpa [Iv.upd, hi, hd] using hw
      · rintro f a0 yy Q' ⟨px, rfl, hw⟩ hi hd hQ
        replace hQ := Lib.hid hQ
        simp [Iv.depsB, Region.binds] at hd
        try simp only [hi, hd, sl_true, sl_false, so_true, so_false]
        try simp only [hi, sl_true, sl_false, so_true, so_false]
        go_wp2_with fail
        refine hQ.out _ _ ⟨px, ?_, ?_⟩
        · simp [Iv.upd, hi, hd, sl_true, sl_false, so_true, so_false]
        · simpa [Iv.upd, hi, hd] using hw
      · rintro f a0 yy Q' ⟨px, rfl, hw⟩ hi hd hQ
        replace hQ := Lib.hid hQ
        simp [Iv.depsB, Region.binds] at hd
        try simp only [hi, hd, sl_true, sl_false, so_true, so_false]
        try simp only [hi, sl_true, sl_false, so_true, so_false]
        obtain ⟨c0, c1, c2, c3, c4, c5, cf, cz⟩ := (HX1.out.call hw.bel).cells
        go_wp2_with fail
        refine hQ.out _ _ ⟨px, ?_, ?_⟩
        · simp [Iv.upd, hi, hd, sl_true, sl_false, so_true, so_false]
        · simpa [Iv.upd, hi, hd] using hw
      · rintro f a0 yy Q' ⟨px, rfl, hw⟩ hi hd hQ
        replace hQ := Lib.hid hQ
        simp [Iv.depsB, Region.binds] at hd
        try simp only [hi, hd, sl_true, sl_false, so_true, so_false]
        try simp only [hi, sl_true, sl_false, so_true, so_false]
        go_wp2_with fail
        refine hQ.out _ _ ⟨px, ?_, ?_⟩
        · simp [Iv.upd, hi, hd, sl_true, sl_false, so_true, so_false]
        · simpa [Iv.upd, hi, hd] using hw
      · rintro f a0 yy Q' ⟨px, rfl, hw⟩ hi hd hQ
        replace hQ := Lib.hid hQ
        simp [Iv.depsB, Region.binds] at hd
        try simp only [hi, hd, sl_true, sl_false, so_true, so_false]
        try simp only [hi, sl_true, sl_false, so_true, so_false]
        have ky := HWB1.out.below hw.bel HWB1.out.lt
        have k1 := ky.cell 1
        have kz := ky.lt
        simp only [List.getElem?_toArray, List.getElem?_cons_zero, List.getElem?_cons_succ] at k1
        clear ky
        go_wp2_with fail
        refine hQ.out _ _ ⟨px, ?_, ?_⟩
        · simp [Iv.upd, hi, hd, sl_true, sl_false, so_true, so_false]
        · simpa [Iv.upd, hi, hd] using hw
      · rintro f a0 yy Q' ⟨px, rfl, hw⟩ hi hd hQ
        replace hQ := Lib.hid hQ
        simp [Iv.depsB, Region.binds] at hd
        try simp only [hi, hd, sl_true, sl_false, so_true, so_false]
        try simp only [hi, sl_true, sl_false, so_true, so_false]
        have HQW := Lib.hid hw
        clear hw
        have e3 : f 3 = true := by simp [hd]
        have e5 : f 5 = true := by simp [hd]
        try simp only [e3, e5, so_true, so_false]
        go_wp2_with fail
        refine (HL.out yy (HX1.out.call HQW.out.bel)).mono ?_
        rintro e y1w ⟨rfl, hb⟩
        have HN := Lib.hid (HQW.out.call hb)
        clear hb
        go_wp2_with fail
        refine hQ.out _ _ ⟨px, ?_, ?_⟩
        · simp [Iv.upd, hi, hd, sl_true, sl_false, so_true, so_false, e3, e5]
        · simpa [Iv.upd, hi, hd, e3, e5] using HN.out
      · rintro f a0 yy Q' ⟨px, rfl, hw⟩ hi hd hQ
        replace hQ := Lib.hid hQ
        simp [Iv.depsB, Region.binds] at hd
        try simp only [hi, hd, sl_true, sl_false, so_true, so_false]
        try simp only [hi, sl_true, sl_false, so_true, so_false]
        go_wp2_with fail
        refine hQ.out _ _ ⟨px, ?_, ?_⟩
        · simp [Iv.upd, hi, hd, sl_true, sl_false, so_true, so_false]
        · simpa [Iv.upd, hi, hd] using hw
      · rintro f a0 yy Q' ⟨px, rfl, hw⟩ hi hd hQ
        replace hQ := Lib.hid hQ
        simp [Iv.depsB, Region.binds] at hd
        try simp only [hi, hd, sl_true, sl_false, so_true, so_false]
        try simp only [hi, sl_true, sl_false, so_true, so_false]
        go_wp2_with fail
        refine hQ.out _ _ ⟨px, ?_, ?_⟩
        · simp [Iv.upd, hi, hd, sl_true, sl_false, so_true, so_false]
        · simpa [Iv.upd, hi, hd] using hw
      · rintro f a0 yy Q' ⟨px, rfl, hw⟩ hi hd hQ
        replace hQ := Lib.hid hQ
        simp [Iv.depsB, Region.binds] at hd
        try simp only [hi, hd, sl_true, sl_false, so_true, so_false]
        try simp only [hi, sl_true, sl_false, so_true, so_false]
        go_wp2_with fail
        refine hQ.out _ _ ⟨px, ?_, ?_⟩
        · simp [Iv.upd, hi, hd, sl_true, sl_false, so_true, so_false]
        · simpa [Iv.upd, hi, hd] using hw
      · rintro f a0 yy Q' ⟨px, rfl, hw⟩ hi hd hQ
        replace hQ := Lib.hid hQ
        simp [Iv.depsB, Region.binds] at hd
        try simp only [hi, hd, sl_true, sl_false, so_true, so_false]
        try simp only [hi, sl_true, sl_false, so_true, so_false]
        have hw2 := hw
        rw [hi] at hw2
        go_wp2_with fail
        refine hQ.out _ _ ⟨yy.heap.size, ?_, ?_⟩
        · simp [Iv.upd, hi, hd, sl_true, sl_false, so_true, so_false]
        · simpa [Iv.upd, hi, hd] using hw2.make
      · rintro f a0 yy Q' ⟨px, rfl, hw⟩ hi hd hQ
        replace hQ := Lib.hid hQ
        simp [Iv.depsB, Region.binds] at hd
        try simp only [hi, hd, sl_true, sl_false, so_true, so_false]
        try simp only [hi, sl_true, sl_false, so_true, so_false]
        have ea : f 10 = true := by simp [hd]
        have eb : f 8 = true := by simp [hd]
        have hw2 := hw
        rw [hi, ea] at hw2
        have kx := (hw2.box rfl rfl).1
        have t0 := kx.cell 0
        have t1 := kx.cell 1
        have d0 := kx.free 0
        have d1 := kx.free 1
        have tz := kx.lt
        simp only [List.getElem?_toArray, List.getElem?_cons_zero, List.getElem?_cons_succ] at t0 t1
        have HN := Lib.hid hw2.store2
        clear kx hw2
        try simp only [ea, eb, so_true, so_false]
        go_wp2_with fail
        refine hQ.out _ _ ⟨px, ?_, ?_⟩
        · simp [Iv.upd, hi, hd, sl_true, sl_false, so_true, so_false, ea, eb]
        · simpa [Iv.upd, hi, hd, ea, eb] using HN.out
      · rintro f a0 yy Q' ⟨px, rfl, hw⟩ hi hd hQ
        replace hQ := Lib.hid hQ
        simp [Iv.depsB, Region.binds] at hd
        try simp only [hi, hd, sl_true, sl_false, so_true, so_false]
        try simp only [hi, sl_true, sl_false, so_true, so_false]
        go_wp2_with fail
        refine hQ.out _ _ ⟨px, ?_, ?_⟩
        · simp [Iv.upd, hi, hd, sl_true, sl_false, so_true, so_false]
        · simpa [Iv.upd, hi, hd] using hw
    · rintro f a0 wv ⟨qv, rfl, hw⟩ hall
      simp only [hall 0 (by decide), hall 1 (by decide), hall 2 (by decide), hall 3 (by decide), hall 4 (by decide), hall 5 (by decide), hall 6 (by decide), hall 7 (by decide), hall 8 (by decide), hall 9 (by decide), hall 10 (by decide), hall 11 (by decide), hall 12 (by decide), sl_true, ↓reduceIte, so_true, so_false] at hw ⊢
      clear hall
      have HV4 := Lib.hid (hw.fin rfl)
      have HBQ := Lib.hid hw.bel
      clear hw
      have HB4 := Lib.hid (HB1.out.trans (HBQ.out.mono HB1.out.size))
      have HX4 := Lib.hid (HX1.out.call HBQ.out)
      have HWB4 := Lib.hid (HWB1.out.below HBQ.out HWB1.out.lt)
      clear HBQ
      go_upto_region 5 with fail
      refine Iv.region (fun f aa yy => ∃ px, aa = ⟨#[ptr g, ptE ⟨p1, p2, p3, true⟩, undef, .pointer (some ⟨w.heap.size, 0, none⟩), .int .i64 0, .int .i64 0, .int .i64 fee, .int .i64 E9, .pointer (some ⟨qv, 0, none⟩), .bool op, so (f 10) (.pointer (some ⟨px, 0, none⟩)) (undef), so (f 12) (.bool bz) (undef), .tuple #[.int .i64 fee, .int .i64 E9], .pointer (some ⟨w.heap.size, 2, none⟩), .int .i64 p3, ptr g, ptr g, .pointer (some ⟨g, 2, none⟩), .float .f64 v.rate, .tuple #[.int .i64 fee, .int .i64 E9], .int .i64 fee, .int .i64 E9, .pointer (some ⟨w.heap.size, 3, none⟩), .bool true, .bool false, .tuple #[.agg #[.int .i64 y1, .int .i64 y2], .bool op], ptr g, ptr g, .pointer (some ⟨g, 1, none⟩), ptr sg, .pointer (some ⟨w.heap.size, 1, none⟩), .int .i64 p2, .tuple #[.agg #[.int .i64 y1, .int .i64 y2], .bool op], .agg #[.int .i64 y1, .int .i64 y2], .bool op, so (f 7) (.tuple #[.agg #[.int .i64 g1, .int .i64 g2, .int .i64 g3, .bool g4, .int .i64 g5, .int .i64 g6], .bool bz]) (undef), so (f 0) (ptr g) (undef), so (f 1) (ptr g) (undef), so (f 2) (.pointer (some ⟨g, 3, none⟩)) (undef), so (f 3) (.map (some hb)) (undef), so (f 4) (.pointer (some ⟨w.heap.size, 1, none⟩)) (undef), so (f 5) (.int .i64 p2) (undef), so (f 6) (.tuple #[.agg #[.int .i64 g1, .int .i64 g2, .int .i64 g3, .bool g4, .int .i64 g5, .int .i64 g6], .bool bz]) (undef), so (f 8) (.agg #[.int .i64 g1, .int .i64 g2, .int .i64 g3, .bool g4, .int .i64 g5, .int .i64 g6]) (undef), so (f 9) (.bool bz) (undef), undef, undef, undef, undef, undef, undef, undef, undef, undef, undef, undef, undef, undef, undef, undef, undef, undef, undef, undef, undef, undef, undef, undef, undef, undef, undef, undef, undef, undef, undef, undef, undef, undef, undef, undef, undef, undef, undef, undef, undef, undef, undef, undef], []⟩ ∧ Nb wv yy 54 #[.int .i64 0, .int .i64 0, .int .i64 0, .bool false, .int .i64 0, .int .i64 0] #[.int .i64 g1, .int .i64 g2, .int .i64 g3, .bool g4, .int .i64 g5, .int .i64 g6] px (f 10) (f 11)) (by kernel_rfl) (by kernel_rfl) ?_ ?_ ?_
      · exact ⟨0, rfl, Nb.start (drew_below wv 1) _ _ _ _⟩
      · refine ⟨?_, ?_, ?_, ?_, ?_, ?_, ?_, ?_, ?_, ?_, ?_, ?_, ?_, trivial⟩
        · rintro f a0 yy Q' ⟨px, rfl, hw⟩ hi hd hQ
          replace hQ := Lib.hid hQ
          simp [Iv.depsB, Region.binds] at hd
          try simp only [hi, hd, sl_true, sl_false, so_true, so_false]
          try simp only [hi, sl_true, sl_false, so_true, so_false]
          go_wp2_with fail
          refine hQ.out _ _ ⟨px, ?_, ?_⟩
          · simp [Iv.upd, hi, hd, sl_true, sl_false, so_true, so_false]
          · simpa [Iv.upd, hi, hd] using hw
        · rintro f a0 yy Q' ⟨px, rfl, hw⟩ hi hd hQ
          replace hQ := Lib.hid hQ
          simp [Iv.depsB, Region.binds] at hd
          try simp only [hi, hd, sl_true, sl_false, so_true, so_false]
          try simp only [hi, sl_true, sl_false, so_true, so_false]
          go_wp2_with fail
          refine hQ.out _ _ ⟨px, ?_, ?_⟩
          · simp [Iv.upd, hi, hd, sl_true, sl_false, so_true, so_false]
          · simpa [Iv.upd, hi, hd] using hw
        · rintro f a0 yy Q' ⟨px, rfl, hw⟩ hi hd hQ
          replace hQ := Lib.hid hQ
          simp [Iv.depsB, Region.binds] at hd
          try simp only [hi, hd, sl_true, sl_false, so_true, so_false]
          try simp only [hi, sl_true, sl_false, so_true, so_false]
          go_wp2_with fail
          refine hQ.out _ _ ⟨px, ?_, ?_⟩
          · simp [Iv.upd, hi, hd, sl_true, sl_false, so_true, so_false]
          · simpa [Iv.upd, hi, hd] using hw
        · rintro f a0 yy Q' ⟨px, rfl, hw⟩ hi hd hQ
          replace hQ := Lib.hid hQ
          simp [Iv.depsB, Region.binds] at hd
          try simp only [hi, hd, sl_true, sl_false, so_true, so_false]
          try simp only [hi, sl_true, sl_false, so_true, so_false]
          obtain ⟨c0, c1, c2, c3, c4, c5, cf, cz⟩ := (HX4.out.call hw.bel).cells
          go_wp2_with fail
          refine hQ.out _ _ ⟨px, ?_, ?_⟩
          · simp [Iv.upd, hi, hd, sl_true, sl_false, so_true, so_false]
          · simpa [Iv.upd, hi, hd] using hw
        · rintro f a0 yy Q' ⟨px, rfl, hw⟩ hi hd hQ
          replace hQ := Lib.hid hQ
          simp [Iv.depsB, Region.binds] at hd
          try simp only [hi, hd, sl_true, sl_false, so_true, so_false]
          try simp only [hi, sl_true, sl_false, so_true, so_false]
          go_wp2_with fail
          refine hQ.out _ _ ⟨px, ?_, ?_⟩
          · simp [Iv.upd, hi, hd, sl_true, sl_false, so_true, so_false]
          · simpa [Iv.upd, hi, hd] using hw
        · rintro f a0 yy Q' ⟨px, rfl, hw⟩ hi hd hQ
          replace hQ := Lib.hid hQ
          simp [Iv.depsB, Region.binds] at hd
          try simp only [hi, hd, sl_true, sl_false, so_true, so_false]
          try simp only [hi, sl_true, sl_false, so_true, so_false]
          have ky := HWB4.out.below hw.bel HWB4.out.lt
          have k1 := ky.cell 1
          have kz := ky.lt
          simp only [List.getElem?_toArray, List.getElem?_cons_zero, List.getElem?_cons_succ] at k1
          clear ky
          go_wp2_with fail
          refine hQ.out _ _ ⟨px, ?_, ?_⟩
          · simp [Iv.upd, hi, hd, sl_true, sl_false, so_true, so_false]
          · simpa [Iv.upd, hi, hd] using hw
        · rintro f a0 yy Q' ⟨px, rfl, hw⟩ hi hd hQ
          replace hQ := Lib.hid hQ
          simp [Iv.depsB, Region.binds] at hd
          try simp only [hi, hd, sl_true, sl_false, so_true, so_false]
          try simp only [hi, sl_true, sl_false, so_true, so_false]
          have hl := HLK.out yy (HX4.out.call hw.bel)
          go_wp2_with fail
          refine hQ.out _ _ ⟨px, ?_, ?_⟩
          · simp [Iv.upd, hi, hd, sl_true, sl_false, so_true, so_false]
          · simpa [Iv.upd, hi, hd] using hw
        · rintro f a0 yy Q' ⟨px, rfl, hw⟩ hi hd hQ
          replace hQ := Lib.hid hQ
          simp [Iv.depsB, Region.binds] at hd
          try simp only [hi, hd, sl_true, sl_false, so_true, so_false]
          try simp only [hi, sl_true, sl_false, so_true, so_false]
          go_wp2_with fail
          refine hQ.out _ _ ⟨px, ?_, ?_⟩
          · simp [Iv.upd, hi, hd, sl_true, sl_false, so_true, so_false]
          · simpa [Iv.upd, hi, hd] using hw
        · rintro f a0 yy Q' ⟨px, rfl, hw⟩ hi hd hQ
          replace hQ := Lib.hid hQ
          simp [Iv.depsB, Region.binds] at hd
          try simp only [hi, hd, sl_true, sl_false, so_true, so_false]
          try simp only [hi, sl_true, sl_false, so_true, so_false]
          go_wp2_with fail
          refine hQ.out _ _ ⟨px, ?_, ?_⟩
          · simp [Iv.upd, hi, hd, sl_true, sl_false, so_true, so_false]
          · simpa [Iv.upd, hi, hd] using hw
        · rintro f a0 yy Q' ⟨px, rfl, hw⟩ hi hd hQ
          replace hQ := Lib.hid hQ
          simp [Iv.depsB, Region.binds] at hd
          try simp only [hi, hd, sl_true, sl_false, so_true, so_false]
          try simp only [hi, sl_true, sl_false, so_true, so_false]
          go_wp2_with fail
          refine hQ.out _ _ ⟨px, ?_, ?_⟩
          · simp [Iv.upd, hi, hd, sl_true, sl_false, so_true, so_false]
          · simpa [Iv.upd, hi, hd] using hw
        · rintro f a0 yy Q' ⟨px, rfl, hw⟩ hi hd hQ
          replace hQ := Lib.hid hQ
          simp [Iv.depsB, Region.binds] at hd
          try simp only [hi, hd, sl_true, sl_false, so_true, so_false]
          try simp only [hi, sl_true, sl_false, so_true, so_false]
          have hw2 := hw
          rw [hi] at hw2
          go_wp2_with fail
          refine hQ.out _ _ ⟨yy.heap.size, ?_, ?_⟩
          · simp [Iv.upd, hi, hd, sl_true, sl_false, so_true, so_false]
          · simpa [Iv.upd, hi, hd] using hw2.make
        · rintro f a0 yy Q' ⟨px, rfl, hw⟩ hi hd hQ
          replace hQ := Lib.hid hQ
          simp [Iv.depsB, Region.binds] at hd
          try simp only [hi, hd, sl_true, sl_false, so_true, so_false]
          try simp only [hi, sl_true, sl_false, so_true, so_false]
          have ea : f 10 = true := by simp [hd]
          have eb : f 8 = true := by simp [hd]
          have hw2 := hw
          rw [hi, ea] at hw2
          have kx := (hw2.box rfl rfl).1
          have t0 := kx.cell 0
          have t1 := kx.cell 1
          have t2 := kx.cell 2
          have t3 := kx.cell 3
          have t4 := kx.cell 4
          have t5 := kx.cell 5
          have d0 := kx.free 0
          have d1 := kx.free 1
          have d2 := kx.free 2
          have d3 := kx.free 3
          have d4 := kx.free 4
          have d5 := kx.free 5
          have tz := kx.lt
          simp only [List.getElem?_toArray, List.getElem?_cons_zero, List.getElem?_cons_succ] at t0 t1 t2 t3 t4 t5
          have HN := Lib.hid hw2.store6
          clear kx hw2
          try simp only [ea, eb, so_true, so_false]
          go_wp2_with fail
          refine hQ.out _ _ ⟨px, ?_, ?_⟩
          · simp [Iv.upd, hi, hd, sl_true, sl_false, so_true, so_false, ea, eb]
          · simpa [Iv.upd, hi, hd, ea, eb] using HN.out
        · rintro f a0 yy Q' ⟨px, rfl, hw⟩ hi hd hQ
          replace hQ := Lib.hid hQ
          simp [Iv.depsB, Region.binds] at hd
          try simp only [hi, hd, sl_true, sl_false, so_true, so_false]
          try simp only [hi, sl_true, sl_false, so_true, so_false]
          go_wp2_with fail
          refine hQ.out _ _ ⟨px, ?_, ?_⟩
          · simp [Iv.upd, hi, hd, sl_true, sl_false, so_true, so_false]
          · simpa [Iv.upd, hi, hd] using hw
      · rintro f a0 wz ⟨px, rfl, hw⟩ hall
        simp only [hall 0 (by decide), hall 1 (by decide), hall 2 (by decide), hall 3 (by decide), hall 4 (by decide), hall 5 (by decide), hall 6 (by decide), hall 7 (by decide), hall 8 (by decide), hall 9 (by decide), hall 10 (by decide), hall 11 (by decide), hall 12 (by decide), sl_true, ↓reduceIte, so_true, so_false] at hw ⊢
        clear hall
        have HV5 := Lib.hid (hw.fin rfl)
        have HBQ := Lib.hid hw.bel
        clear hw
        have HB6 := Lib.hid (HB4.out.trans (HBQ.out.mono HB4.out.size))
        have HWB6 := Lib.hid (HWB4.out.below HBQ.out HWB4.out.lt)
        have HVB6 := Lib.hid (HV4.out.1.below HBQ.out HV4.out.1.lt)
        clear HBQ HV4 HV5
        have ky := HWB6.out
        have k0 := ky.cell 0
        have k1 := ky.cell 1
        have k2 := ky.cell 2
        have k3 := ky.cell 3
        have kz := ky.lt
        clear ky
        have ky := HVB6.out
        have m0 := ky.cell 0
        have m1 := ky.cell 1
        have mz := ky.lt
        clear ky
        simp only [List.getElem?_toArray, List.getElem?_cons_zero, List.getElem?_cons_succ] at k0 k1 k2 k3 m0 m1
        go_wp2_with fail
        refine (HA.out _).mono ?_
        rintro e w7 ⟨rfl, rfl⟩
        go_wp2_with fail
        go_ret2
        exact ⟨by rw [HE.out.1, HE.out.2]; rfl, HB6.out⟩
  | true =>
    cases okN with
    | false =>
      clear hi2 hfr hN0 hab
      have HE : Hid (CN = 0 ∧ CE = 155) := Lib.hid (by
        have e : CE = 155 := by rw [HCE.out, if_neg (by decide), if_pos (.inl rfl)]
        exact ⟨by rw [HCH.out, e, if_neg (by decide)], e⟩)
      clear HCE HCH
      go_enter Tryz.func37, Tryz.ntmps37
      go_upto_region 1 with fail
      generalize hw0 : w.alloc (.cells #[.int .i64 p1, .int .i64 p2, .int .i64 p3, .bool true] 52) = w0 at *
      clear hw0
      obtain ⟨C, hC, HCc, HCf⟩ := vbelow_class w0
      refine region_in C hC (by kernel_rfl) (by kernel_rfl) ?_
      iterate 12
        (refine WQ.step (fun K hK => ?_)
         go_simp
         first
           | (refine hK _ ?_; clear hK K)
           | (apply Exists.intro
              refine ⟨fun z hz => ?_, hK _ ?_⟩
              · first
                  | rfl
                  | (go_at_call 54; refine (HF.out z).mono ?_; rintro e z2 ⟨rfl, hb⟩; exact ⟨rfl, HCc.out _ _ hz hb⟩)
                  | (obtain ⟨c0, c1, c2, c3, c4, c5, cf, cz⟩ := (HX0.out.call (HCf.out _ hz)).cells
                     have ky := HWB0.out.below (HCf.out _ hz) HWB0.out.lt
                     have k0 := ky.cell 0
                     have k1 := ky.cell 1
                     have k2 := ky.cell 2
                     have k3 := ky.cell 3
                     have kz := ky.lt
                     simp only [List.getElem?_toArray, List.getElem?_cons_zero, List.getElem?_cons_succ] at k0 k1 k2 k3
                     clear ky
                     go_simp
                     rfl)
              clear hK K))
      refine WQ.nil ?_
      intro w1 hw
      have HB1 := Lib.hid (HB0.out.trans ((HCf.out _ hw).mono HB0.out.size))
      have HX1 := Lib.hid (HX0.out.call (HCf.out _ hw))
      have HWB1 := Lib.hid (HWB0.out.below (HCf.out _ hw) HWB0.out.lt)
      clear hw hC HCc HCf C
      have ky := HWB1.out
      have k0 := ky.cell 0
      have k1 := ky.cell 1
      have k2 := ky.cell 2
      have k3 := ky.cell 3
      have kz := ky.lt
      clear ky
      simp only [List.getElem?_toArray, List.getElem?_cons_zero, List.getElem?_cons_succ] at k0 k1 k2 k3
      go_upto_region 4 with fail
      clear k0 k1 k2 k3 kz
      refine Iv.region (fun f aa yy => ∃ px, aa = ⟨#[ptr g, ptE ⟨p1, p2, p3, true⟩, undef, .pointer (some ⟨w.heap.size, 0, none⟩), .int .i64 0, .int .i64 0, .int .i64 fee, .int .i64 40, so (f 10) (.pointer (some ⟨px, 0, none⟩)) (undef), so (f 12) (.bool op) (undef), undef, undef, .tuple #[.int .i64 fee, .int .i64 40], .pointer (some ⟨w.heap.size, 2, none⟩), .int .i64 p3, ptr g, ptr g, .pointer (some ⟨g, 2, none⟩), .float .f64 v.rate, .tuple #[.int .i64 fee, .int .i64 40], .int .i64 fee, .int .i64 40, .pointer (some ⟨w.heap.size, 3, none⟩), .bool true, .bool false, so (f 7) (.tuple #[.agg #[.int .i64 y1, .int .i64 y2], .bool op]) (undef), so (f 0) (ptr g) (undef), so (f 1) (ptr g) (undef), so (f 2) (.pointer (some ⟨g, 1, none⟩)) (undef), so (f 3) (ptr sg) (undef), so (f 4) (.pointer (some ⟨w.heap.size, 1, none⟩)) (undef), so (f 5) (.int .i64 p2) (undef), so (f 6) (.tuple #[.agg #[.int .i64 y1, .int .i64 y2], .bool op]) (undef), so (f 8) (.agg #[.int .i64 y1, .int .i64 y2]) (undef), so (f 9) (.bool op) (undef), undef, undef, undef, undef, undef, undef, undef, undef, undef, undef, undef, undef, undef, undef, undef, undef, undef, undef, undef, undef, undef, undef, undef, undef, undef, undef, undef, undef, undef, undef, undef, undef, undef, undef, undef, undef, undef, undef, undef, undef, undef, undef, undef, undef, undef, undef, undef, undef, undef, undef, undef, undef, undef], []⟩ ∧ Nb w1 yy 81 #[.int .i64 0, .int .i64 0] #[.int .i64 y1, .int .i64 y2] px (f 10) (f 11)) (by kernel_rfl) (by kernel_rfl) ?_ ?_ ?_
      · exact ⟨0, rfl, Nb.start (drew_below w1 1) _ _ _ _⟩
      · refine ⟨?_, ?_, ?_, ?_, ?_, ?_, ?_, ?_, ?_, ?_, ?_, ?_, ?_, trivial⟩
        · rintro f a0 yy Q' ⟨px, rfl, hw⟩ hi hd hQ
          replace hQ := Lib.hid hQ
          simp [Iv.depsB, Region.binds] at hd
          try simp only [hi, hd, sl_true, sl_false, so_true, so_false]
          try simp only [hi, sl_true, sl_false, so_true, so_false]
          go_wp2_with fail
          refine hQ.out _ _ ⟨px, ?_, ?_⟩
          · simp [Iv.upd, hi, hd, sl_true, sl_false, so_true, so_false]
          · simpa [Iv.upd, hi, hd] using hw
        · rintro f a0 yy Q' ⟨px, rfl, hw⟩ hi hd hQ
          replace hQ := Lib.hid hQ
          simp [Iv.depsB, Region.binds] at hd
          try simp only [hi, hd, sl_true, sl_false, so_true, so_false]
          try simp only [hi, sl_true, sl_false, so_true, so_false]
          go_wp2_with fail
          refine hQ.out _ _ ⟨px, ?_, ?_⟩
          · simp [Iv.upd, hi, hd, sl_true, sl_false, so_true, so_false]
          · simpa [Iv.upd, hi, hd] using hw
        · rintro f a0 yy Q' ⟨px, rfl, hw⟩ hi hd hQ
          replace hQ := Lib.hid hQ
          simp [Iv.depsB, Region.binds] at hd
          try simp only [hi, hd, sl_true, sl_false, so_true, so_false]
          try simp only [hi, sl_true, sl_false, so_true, so_false]
          go_wp2_with fail
          refine hQ.out _ _ ⟨px, ?_, ?_⟩
          · simp [Iv.upd, hi, hd, sl_true, sl_false, so_true, so_false]
          · simpa [Iv.upd, hi, hd] using hw
        · rintro f a0 yy Q' ⟨px, rfl, hw⟩ hi hd hQ
          replace hQ := Lib.hid hQ
          simp [Iv.depsB, Region.binds] at hd
          try simp only [hi, hd, sl_true, sl_false, so_true, so_false]
          try simp only [hi, sl_true, sl_false, so_true, so_false]
          obtain ⟨c0, c1, c2, c3, c4, c5, cf, cz⟩ := (HX1.out.call hw.bel).cells
          go_wp2_with fail
          refine hQ.out _ _ ⟨px, ?_, ?_⟩
          · simp [Iv.upd, hi, hd, sl_true, sl_false, so_true, so_false]
          · simpa [Iv.upd, hi, hd] using hw
        · rintro f a0 yy Q' ⟨px, rfl, hw⟩ hi hd hQ
          replace hQ := Lib.hid hQ
          simp [Iv.depsB, Region.binds] at hd
          try simp only [hi, hd, sl_true, sl_false, so_true, so_false]
          try simp only [hi, sl_true, sl_false, so_true, so_false]
          go_wp2_with fail
          refine hQ.out _ _ ⟨px, ?_, ?_⟩
          · simp [Iv.upd, hi, hd, sl_true, sl_false, so_true, so_false]
          · simpa [Iv.upd, hi, hd] using hw
        · rintro f a0 yy Q' ⟨px, rfl, hw⟩ hi hd hQ
          replace hQ := Lib.hid hQ
          simp [Iv.depsB, Region.binds] at hd
          try simp only [hi, hd, sl_true, sl_false, so_true, so_false]
          try simp only [hi, sl_true, sl_false, so_true, so_false]
          have ky := HWB1.out.below hw.bel HWB1.out.lt
          have k1 := ky.cell 1
          have kz := ky.lt
          simp only [List.getElem?_toArray, List.getElem?_cons_zero, List.getElem?_cons_succ] at k1
          clear ky
          go_wp2_with fail
          refine hQ.out _ _ ⟨px, ?_, ?_⟩
          · simp [Iv.upd, hi, hd, sl_true, sl_false, so_true, so_false]
          · simpa [Iv.upd, hi, hd] using hw
        · rintro f a0 yy Q' ⟨px, rfl, hw⟩ hi hd hQ
          replace hQ := Lib.hid hQ
          simp [Iv.depsB, Region.binds] at hd
          try simp only [hi, hd, sl_true, sl_false, so_true, so_false]
          try simp only [hi, sl_true, sl_false, so_true, so_false]
          have HQW := Lib.hid hw
          clear hw
          have e3 : f 3 = true := by simp [hd]
          have e5 : f 5 = true := by simp [hd]
          try simp only [e3, e5, so_true, so_false]
          go_wp2_with fail
          refine (HL.out yy (HX1.out.call HQW.out.bel)).mono ?_
          rintro e y1w ⟨rfl, hb⟩
          have HN := Lib.hid (HQW.out.call hb)
          clear hb
          go_wp2_with fail
          refine hQ.out _ _ ⟨px, ?_, ?_⟩
          · simp [Iv.upd, hi, hd, sl_true, sl_false, so_true, so_false, e3, e5]
          · simpa [Iv.upd, hi, hd, e3, e5] using HN.out
        · rintro f a0 yy Q' ⟨px, rfl, hw⟩ hi hd hQ
          replace hQ := Lib.hid hQ
          simp [Iv.depsB, Region.binds] at hd
          try simp only [hi, hd, sl_true, sl_false, so_true, so_false]
          try simp only [hi, sl_true, sl_false, so_true, so_false]
          go_wp2_with fail
          refine hQ.out _ _ ⟨px, ?_, ?_⟩
          · simp [Iv.upd, hi, hd, sl_true, sl_false, so_true, so_false]
          · simpa [Iv.upd, hi, hd] using hw
        · rintro f a0 yy Q' ⟨px, rfl, hw⟩ hi hd hQ
          replace hQ := Lib.hid hQ
          simp [Iv.depsB, Region.binds] at hd
          try simp only [hi, hd, sl_true, sl_false, so_true, so_false]
          try simp only [hi, sl_true, sl_false, so_true, so_false]
          go_wp2_with fail
          refine hQ.out _ _ ⟨px, ?_, ?_⟩
          · simp [Iv.upd, hi, hd, sl_true, sl_false, so_true, so_false]
          · simpa [Iv.upd, hi, hd] using hw
        · rintro f a0 yy Q' ⟨px, rfl, hw⟩ hi hd hQ
          replace hQ := Lib.hid hQ
          simp [Iv.depsB, Region.binds] at hd
          try simp only [hi, hd, sl_true, sl_false, so_true, so_false]
          try simp only [hi, sl_true, sl_false, so_true, so_false]
          go_wp2_with fail
          refine hQ.out _ _ ⟨px, ?_, ?_⟩
          · simp [Iv.upd, hi, hd, sl_true, sl_false, so_true, so_false]
          · simpa [Iv.upd, hi, hd] using hw
        · rintro f a0 yy Q' ⟨px, rfl, hw⟩ hi hd hQ
          replace hQ := Lib.hid hQ
          simp [Iv.depsB, Region.binds] at hd
          try simp only [hi, hd, sl_true, sl_false, so_true, so_false]
          try simp only [hi, sl_true, sl_false, so_true, so_false]
          have hw2 := hw
          rw [hi] at hw2
          go_wp2_with fail
          refine hQ.out _ _ ⟨yy.heap.size, ?_, ?_⟩
          · simp [Iv.upd, hi, hd, sl_true, sl_false, so_true, so_false]
          · simpa [Iv.upd, hi, hd] using hw2.make
        · rintro f a0 yy Q' ⟨px, rfl, hw⟩ hi hd hQ
          replace hQ := Lib.hid hQ
          simp [Iv.depsB, Region.binds] at hd
          try simp only [hi, hd, sl_true, sl_false, so_true, so_false]
          try simp only [hi, sl_true, sl_false, so_true, so_false]
          have ea : f 10 = true := by simp [hd]
          have eb : f 8 = true := by simp [hd]
          have hw2 := hw
          rw [hi, ea] at hw2
          have kx := (hw2.box rfl rfl).1
          have t0 := kx.cell 0
          have t1 := kx.cell 1
          have d0 := kx.free 0
          have d1 := kx.free 1
          have tz := kx.lt
          simp only [List.getElem?_toArray, List.getElem?_cons_zero, List.getElem?_cons_succ] at t0 t1
          have HN := Lib.hid hw2.store2
          clear kx hw2
          try simp only [ea, eb, so_true, so_false]
          go_wp2_with fail
          refine hQ.out _ _ ⟨px, ?_, ?_⟩
          · simp [Iv.upd, hi, hd, sl_true, sl_false, so_true, so_false, ea, eb]
          · simpa [Iv.upd, hi, hd, ea, eb] using HN.out
        · rintro f a0 yy Q' ⟨px, rfl, hw⟩ hi hd hQ
          replace hQ := Lib.hid hQ
          simp [Iv.depsB, Region.binds] at hd
          try simp only [hi, hd, sl_true, sl_false, so_true, so_false]
          try simp only [hi, sl_true, sl_false, so_true, so_false]
          go_wp2_with fail
          refine hQ.out _ _ ⟨px, ?_, ?_⟩
          · simp [Iv.upd, hi, hd, sl_true, sl_false, so_true, so_false]
          · simpa [Iv.upd, hi, hd] using hw
      · rintro f a0 wv ⟨qv, rfl, hw⟩ hall
        simp only [hall 0 (by decide), hall 1 (by decide), hall 2 (by decide), hall 3 (by decide), hall 4 (by decide), hall 5 (by decide), hall 6 (by decide), hall 7 (by decide), hall 8 (by decide), hall 9 (by decide), hall 10 (by decide), hall 11 (by decide), hall 12 (by decide), sl_true, ↓reduceIte, so_true, so_false] at hw ⊢
        clear hall
        have HV4 := Lib.hid (hw.fin rfl)
        have HBQ := Lib.hid hw.bel
        clear hw
        have HB4 := Lib.hid (HB1.out.trans (HBQ.out.mono HB1.out.size))
        have HX4 := Lib.hid (HX1.out.call HBQ.out)
        have HWB4 := Lib.hid (HWB1.out.below HBQ.out HWB1.out.lt)
        clear HBQ
        go_upto_region 5 with fail
        refine Iv.region (fun f aa yy => ∃ px, aa = ⟨#[ptr g, ptE ⟨p1, p2, p3, true⟩, undef, .pointer (some ⟨w.heap.size, 0, none⟩), .int .i64 0, .int .i64 0, .int .i64 fee, .int .i64 40, .pointer (some ⟨qv, 0, none⟩), .bool op, so (f 10) (.pointer (some ⟨px, 0, none⟩)) (undef), so (f 12) (.bool bz) (undef), .tuple #[.int .i64 fee, .int .i64 40], .pointer (some ⟨w.heap.size, 2, none⟩), .int .i64 p3, ptr g, ptr g, .pointer (some ⟨g, 2, none⟩), .float .f64 v.rate, .tuple #[.int .i64 fee, .int .i64 40], .int .i64 fee, .int .i64 40, .pointer (some ⟨w.heap.size, 3, none⟩), .bool true, .bool false, .tuple #[.agg #[.int .i64 y1, .int .i64 y2], .bool op], ptr g, ptr g, .pointer (some ⟨g, 1, none⟩), ptr sg, .pointer (some ⟨w.heap.size, 1, none⟩), .int .i64 p2, .tuple #[.agg #[.int .i64 y1, .int .i64 y2], .bool op], .agg #[.int .i64 y1, .int .i64 y2], .bool op, so (f 7) (.tuple #[.agg #[.int .i64 g1, .int .i64 g2, .int .i64 g3, .bool g4, .int .i64 g5, .int .i64 g6], .bool bz]) (undef), so (f 0) (ptr g) (undef), so (f 1) (ptr g) (undef), so (f 2) (.pointer (some ⟨g, 3, none⟩)) (undef), so (f 3) (.map (some hb)) (undef), so (f 4) (.pointer (some ⟨w.heap.size, 1, none⟩)) (undef), so (f 5) (.int .i64 p2) (undef), so (f 6) (.tuple #[.agg #[.int .i64 g1, .int .i64 g2, .int .i64 g3, .bool g4, .int .i64 g5, .int .i64 g6], .bool bz]) (undef), so (f 8) (.agg #[.int .i64 g1, .int .i64 g2, .int .i64 g3, .bool g4, .int .i64 g5, .int .i64 g6]) (undef), so (f 9) (.bool bz) (undef), undef, undef, undef, undef, undef, undef, undef, undef, undef, undef, undef, undef, undef, undef, undef, undef, undef, undef, undef, undef, undef, undef, undef, undef, undef, undef, undef, undef, undef, undef, undef, undef, undef, undef, undef, undef, undef, undef, undef, undef, undef, undef, undef], []⟩ ∧ Nb wv yy 54 #[.int .i64 0, .int .i64 0, .int .i64 0, .bool false, .int .i64 0, .int .i64 0] #[.int .i64 g1, .int .i64 g2, .int .i64 g3, .bool g4, .int .i64 g5, .int .i64 g6] px (f 10) (f 11)) (by kernel_rfl) (by kernel_rfl) ?_ ?_ ?_
        · exact ⟨0, rfl, Nb.start (drew_below wv 1) _ _ _ _⟩
        · refine ⟨?_, ?_, ?_, ?_, ?_, ?_, ?_, ?_, ?_, ?_, ?_, ?_, ?_, trivial⟩
          · rintro f a0 yy Q' ⟨px, rfl, hw⟩ hi hd hQ
            replace hQ := Lib.hid hQ
            simp [Iv.depsB, Region.binds] at hd
            try simp only [hi, hd, sl_true, sl_false, so_true, so_false]
            try simp only [hi, sl_true, sl_false, so_true, so_false]
            go_wp2_with fail
            refine hQ.out _ _ ⟨px, ?_, ?_⟩
            · simp [Iv.upd, hi, hd, sl_true, sl_false, so_true, so_false]
            · simpa [Iv.upd, hi, hd] using hw
          · rintro f a0 yy Q' ⟨px, rfl, hw⟩ hi hd hQ
            replace hQ := Lib.hid hQ
            simp [Iv.depsB, Region.binds] at hd
            try simp only [hi, hd, sl_true, sl_false, so_true, so_false]
            try simp only [hi, sl_true, sl_false, so_true, so_false]
            go_wp2_with fail
            refine hQ.out _ _ ⟨px, ?_, ?_⟩
            · simp [Iv.upd, hi, hd, sl_true, sl_false, so_true, so_false]
            · simpa [Iv.upd, hi, hd] using hw
          · rintro f a0 yy Q' ⟨px, rfl, hw⟩ hi hd hQ
            replace hQ := Lib.hid hQ
            simp [Iv.depsB, Region.binds] at hd
            try simp only [hi, hd, sl_true, sl_false, so_true, so_false]
            try simp only [hi, sl_true, sl_false, so_true, so_false]
            go_wp2_with fail
            refine hQ.out _ _ ⟨px, ?_, ?_⟩
            · simp [Iv.upd, hi, hd, sl_true, sl_false, so_true, so_false]
            · simpa [Iv.upd, hi, hd] using hw
          · rintro f a0 yy Q' ⟨px, rfl, hw⟩ hi hd hQ
            replace hQ := Lib.hid hQ
            simp [Iv.depsB, Region.binds] at hd
            try simp only [hi, hd, sl_true, sl_false, so_true, so_false]
            try simp only [hi, sl_true, sl_false, so_true, so_false]
            obtain ⟨c0, c1, c2, c3, c4, c5, cf, cz⟩ := (HX4.out.call hw.bel).cells
            go_wp2_with fail
            refine hQ.out _ _ ⟨px, ?_, ?_⟩
            · simp [Iv.upd, hi, hd, sl_true, sl_false, so_true, so_false]
            · simpa [Iv.upd, hi, hd] using hw
          · rintro f a0 yy Q' ⟨px, rfl, hw⟩ hi hd hQ
            replace hQ := Lib.hid hQ
            simp [Iv.depsB, Region.binds] at hd
            try simp only [hi, hd, sl_true, sl_false, so_true, so_false]
            try simp only [hi, sl_true, sl_false, so_true, so_false]
            go_wp2_with fail
            refine hQ.out _ _ ⟨px, ?_, ?_⟩
            · simp [Iv.upd, hi, hd, sl_true, sl_false, so_true, so_false]
            · simpa [Iv.upd, hi, hd] using hw
          · rintro f a0 yy Q' ⟨px, rfl, hw⟩ hi hd hQ
            replace hQ := Lib.hid hQ
            simp [Iv.depsB, Region.binds] at hd
            try simp only [hi, hd, sl_true, sl_false, so_true, so_false]
            try simp only [hi, sl_true, sl_false, so_true, so_false]
            have ky := HWB4.out.below hw.bel HWB4.out.lt
            have k1 := ky.cell 1
            have kz := ky.lt
            simp only [List.getElem?_toArray, List.getElem?_cons_zero, List.getElem?_cons_succ] at k1
            clear ky
            go_wp2_with fail
            refine hQ.out _ _ ⟨px, ?_, ?_⟩
            · simp [Iv.upd, hi, hd, sl_true, sl_false, so_true, so_false]
            · simpa [Iv.upd, hi, hd] using hw
          · rintro f a0 yy Q' ⟨px, rfl, hw⟩ hi hd hQ
            replace hQ := Lib.hid hQ
            simp [Iv.depsB, Region.binds] at hd
            try simp only [hi, hd, sl_true, sl_false, so_true, so_false]
            try simp only [hi, sl_true, sl_false, so_true, so_false]
            have hl := HLK.out yy (HX4.out.call hw.bel)
            go_wp2_with fail
            refine hQ.out _ _ ⟨px, ?_, ?_⟩
            · simp [Iv.upd, hi, hd, sl_true, sl_false, so_true, so_false]
            · simpa [Iv.upd, hi, hd] using hw
          · rintro f a0 yy Q' ⟨px, rfl, hw⟩ hi hd hQ
            replace hQ := Lib.hid hQ
            simp [Iv.depsB, Region.binds] at hd
            try simp only [hi, hd, sl_true, sl_false, so_true, so_false]
            try simp only [hi, sl_true, sl_false, so_true, so_false]
            go_wp2_with fail
            refine hQ.out _ _ ⟨px, ?_, ?_⟩
            · simp [Iv.upd, hi, hd, sl_true, sl_false, so_true, so_false]
            · simpa [Iv.upd, hi, hd] using hw
          · rintro f a0 yy Q' ⟨px, rfl, hw⟩ hi hd hQ
            replace hQ := Lib.hid hQ
            simp [Iv.depsB, Region.binds] at hd
            try simp only [hi, hd, sl_true, sl_false, so_true, so_false]
            try simp only [hi, sl_true, sl_false, so_true, so_false]
            go_wp2_with fail
            refine hQ.out _ _ ⟨px, ?_, ?_⟩
            · simp [Iv.upd, hi, hd, sl_true, sl_false, so_true, so_false]
            · simpa [Iv.upd, hi, hd] using hw
          · rintro f a0 yy Q' ⟨px, rfl, hw⟩ hi hd hQ
            replace hQ := Lib.hid hQ
            simp [Iv.depsB, Region.binds] at hd
            try simp only [hi, hd, sl_true, sl_false, so_true, so_false]
            try simp only [hi, sl_true, sl_false, so_true, so_false]
            go_wp2_with fail
            refine hQ.out _ _ ⟨px, ?_, ?_⟩
            · simp [Iv.upd, hi, hd, sl_true, sl_false, so_true, so_false]
            · simpa [Iv.upd, hi, hd] using hw
          · rintro f a0 yy Q' ⟨px, rfl, hw⟩ hi hd hQ
            replace hQ := Lib.hid hQ
            simp [Iv.depsB, Region.binds] at hd
            try simp only [hi, hd, sl_true, sl_false, so_true, so_false]
            try simp only [hi, sl_true, sl_false, so_true, so_false]
            have hw2 := hw
            rw [hi] at hw2
            go_wp2_with fail
            refine hQ.out _ _ ⟨yy.heap.size, ?_, ?_⟩
            · simp [Iv.upd, hi, hd, sl_true, sl_false, so_true, so_false]
            · simpa [Iv.upd, hi, hd] using hw2.make
          · rintro f a0 yy Q' ⟨px, rfl, hw⟩ hi hd hQ
            replace hQ := Lib.hid hQ
            simp [Iv.depsB, Region.binds] at hd
            try simp only [hi, hd, sl_true, sl_false, so_true, so_false]
            try simp only [hi, sl_true, sl_false, so_true, so_false]
            have ea : f 10 = true := by simp [hd]
            have eb : f 8 = true := by simp [hd]
            have hw2 := hw
            rw [hi, ea] at hw2
            have kx := (hw2.box rfl rfl).1
            have t0 := kx.cell 0
            have t1 := kx.cell 1
            have t2 := kx.cell 2
            have t3 := kx.cell 3
            have t4 := kx.cell 4
            have t5 := kx.cell 5
            have d0 := kx.free 0
            have d1 := kx.free 1
            have d2 := kx.free 2
            have d3 := kx.free 3
            have d4 := kx.free 4
            have d5 := kx.free 5
            have tz := kx.lt
            simp only [List.getElem?_toArray, List.getElem?_cons_zero, List.getElem?_cons_succ] at t0 t1 t2 t3 t4 t5
            have HN := Lib.hid hw2.store6
            clear kx hw2
            try simp only [ea, eb, so_true, so_false]
            go_wp2_with fail
            refine hQ.out _ _ ⟨px, ?_, ?_⟩
            · simp [Iv.upd, hi, hd, sl_true, sl_false, so_true, so_false, ea, eb]
            · simpa [Iv.upd, hi, hd, ea, eb] using HN.out
          · rintro f a0 yy Q' ⟨px, rfl, hw⟩ hi hd hQ
            replace hQ := Lib.hid hQ
            simp [Iv.depsB, Region.binds] at hd
            try simp only [hi, hd, sl_true, sl_false, so_true, so_false]
            try simp only [hi, sl_true, sl_false, so_true, so_false]
            go_wp2_with fail
            refine hQ.out _ _ ⟨px, ?_, ?_⟩
            · simp [Iv.upd, hi, hd, sl_true, sl_false, so_true, so_false]
            · simpa [Iv.upd, hi, hd] using hw
        · rintro f a0 wz ⟨px, rfl, hw⟩ hall
          simp only [hall 0 (by decide), hall 1 (by decide), hall 2 (by decide), hall 3 (by decide), hall 4 (by decide), hall 5 (by decide), hall 6 (by decide), hall 7 (by decide), hall 8 (by decide), hall 9 (by decide), hall 10 (by decide), hall 11 (by decide), hall 12 (by decide), sl_true, ↓reduceIte, so_true, so_false] at hw ⊢
          clear hall
          have HV5 := Lib.hid (hw.fin rfl)
          have HBQ := Lib.hid hw.bel
          clear hw
          have HB6 := Lib.hid (HB4.out.trans (HBQ.out.mono HB4.out.size))
          have HWB6 := Lib.hid (HWB4.out.below HBQ.out HWB4.out.lt)
          have HVB6 := Lib.hid (HV4.out.1.below HBQ.out HV4.out.1.lt)
          clear HBQ HV4 HV5
          have ky := HWB6.out
          have k0 := ky.cell 0
          have k1 := ky.cell 1
          have k2 := ky.cell 2
          have k3 := ky.cell 3
          have kz := ky.lt
          clear ky
          have ky := HVB6.out
          have m0 := ky.cell 0
          have m1 := ky.cell 1
          have mz := ky.lt
          clear ky
          simp only [List.getElem?_toArray, List.getElem?_cons_zero, List.getElem?_cons_succ] at k0 k1 k2 k3 m0 m1
          go_wp2_with fail
          refine (HA.out _).mono ?_
          rintro e w7 ⟨rfl, rfl⟩
          go_wp2_with fail
          go_ret2
          exact ⟨by rw [HE.out.1, HE.out.2]; rfl, HB6.out⟩
    | true =>
      by_cases hz : p3 = 0
      · subst hz
        clear hi2 hfr hN0 hab
        have HE : Hid (CN = 0 ∧ CE = 155) := Lib.hid (by
          have e : CE = 155 := by rw [HCE.out, if_neg (by decide), if_pos (.inr rfl)]
          exact ⟨by rw [HCH.out, e, if_neg (by decide)], e⟩)
        clear HCE HCH
        go_enter Tryz.func37, Tryz.ntmps37
        go_upto_region 1 with fail
        generalize hw0 : w.alloc (.cells #[.int .i64 p1, .int .i64 p2, .int .i64 0, .bool true] 52) = w0 at *
        clear hw0
        obtain ⟨C, hC, HCc, HCf⟩ := vbelow_class w0
        refine region_in C hC (by kernel_rfl) (by kernel_rfl) ?_
        iterate 12
          (refine WQ.step (fun K hK => ?_)
           go_simp
           first
             | (refine hK _ ?_; clear hK K)
             | (apply Exists.intro
                refine ⟨fun z hz => ?_, hK _ ?_⟩
                · first
                    | rfl
                    | (go_at_call 54; refine (HF.out z).mono ?_; rintro e z2 ⟨rfl, hb⟩; exact ⟨rfl, HCc.out _ _ hz hb⟩)
                    | (obtain ⟨c0, c1, c2, c3, c4, c5, cf, cz⟩ := (HX0.out.call (HCf.out _ hz)).cells
                       have ky := HWB0.out.below (HCf.out _ hz) HWB0.out.lt
                       have k0 := ky.cell 0
                       have k1 := ky.cell 1
                       have k2 := ky.cell 2
                       have k3 := ky.cell 3
                       have kz := ky.lt
                       simp only [List.getElem?_toArray, List.getElem?_cons_zero, List.getElem?_cons_succ] at k0 k1 k2 k3
                       clear ky
                       go_simp
                       rfl)
                clear hK K))
        refine WQ.nil ?_
        intro w1 hw
        have HB1 := Lib.hid (HB0.out.trans ((HCf.out _ hw).mono HB0.out.size))
        have HX1 := Lib.hid (HX0.out.call (HCf.out _ hw))
        have HWB1 := Lib.hid (HWB0.out.below (HCf.out _ hw) HWB0.out.lt)
        clear hw hC HCc HCf C
        have ky := HWB1.out
        have k0 := ky.cell 0
        have k1 := ky.cell 1
        have k2 := ky.cell 2
        have k3 := ky.cell 3
        have kz := ky.lt
        clear ky
        simp only [List.getElem?_toArray, List.getElem?_cons_zero, List.getElem?_cons_succ] at k0 k1 k2 k3
        go_upto_region 4 with fail
        clear k0 k1 k2 k3 kz
        refine Iv.region (fun f aa yy => ∃ px, aa = ⟨#[ptr g, ptE ⟨p1, p2, 0, true⟩, undef, .pointer (some ⟨w.heap.size, 0, none⟩), .int .i64 0, .int .i64 0, .int .i64 fee, .int .i64 0, so (f 10) (.pointer (some ⟨px, 0, none⟩)) (undef), so (f 12) (.bool op) (undef), undef, undef, .tuple #[.int .i64 fee, .int .i64 0], .pointer (some ⟨w.heap.size, 2, none⟩), .int .i64 0, ptr g, ptr g, .pointer (some ⟨g, 2, none⟩), .float .f64 v.rate, .tuple #[.int .i64 fee, .int .i64 0], .int .i64 fee, .int .i64 0, .pointer (some ⟨w.heap.size, 3, none⟩), .bool true, .bool false, so (f 7) (.tuple #[.agg #[.int .i64 y1, .int .i64 y2], .bool op]) (undef), so (f 0) (ptr g) (undef), so (f 1) (ptr g) (undef), so (f 2) (.pointer (some ⟨g, 1, none⟩)) (undef), so (f 3) (ptr sg) (undef), so (f 4) (.pointer (some ⟨w.heap.size, 1, none⟩)) (undef), so (f 5) (.int .i64 p2) (undef), so (f 6) (.tuple #[.agg #[.int .i64 y1, .int .i64 y2], .bool op]) (undef), so (f 8) (.agg #[.int .i64 y1, .int .i64 y2]) (undef), so (f 9) (.bool op) (undef), undef, undef, undef, undef, undef, undef, undef, undef, undef, undef, undef, undef, undef, undef, undef, undef, undef, undef, undef, undef, undef, undef, undef, undef, undef, undef, undef, undef, undef, undef, undef, undef, undef, undef, undef, undef, undef, undef, undef, undef, undef, undef, undef, undef, undef, undef, undef, undef, undef, undef, undef, undef, undef], []⟩ ∧ Nb w1 yy 81 #[.int .i64 0, .int .i64 0] #[.int .i64 y1, .int .i64 y2] px (f 10) (f 11)) (by kernel_rfl) (by kernel_rfl) ?_ ?_ ?_
        · exact ⟨0, rfl, Nb.start (drew_below w1 1) _ _ _ _⟩
        · refine ⟨?_, ?_, ?_, ?_, ?_, ?_, ?_, ?_, ?_, ?_, ?_, ?_, ?_, trivial⟩
          · rintro f a0 yy Q' ⟨px, rfl, hw⟩ hi hd hQ
            replace hQ := Lib.hid hQ
            simp [Iv.depsB, Region.binds] at hd
            try simp only [hi, hd, sl_true, sl_false, so_true, so_false]
            try simp only [hi, sl_true, sl_false, so_true, so_false]
            go_wp2_with fail
            refine hQ.out _ _ ⟨px, ?_, ?_⟩
            · simp [Iv.upd, hi, hd, sl_true, sl_false, so_true, so_false]
            · simpa [Iv.upd, hi, hd] using hw
          · rintro f a0 yy Q' ⟨px, rfl, hw⟩ hi hd hQ
            replace hQ := Lib.hid hQ
            simp [Iv.depsB, Region.binds] at hd
            try simp only [hi, hd, sl_true, sl_false, so_true, so_false]
            try simp only [hi, sl_true, sl_false, so_true, so_false]
            go_wp2_with fail
            refine hQ.out _ _ ⟨px, ?_, ?_⟩
            · simp [Iv.upd, hi, hd, sl_true, sl_false, so_true, so_false]
            · simpa [Iv.upd, hi, hd] using hw
          · rintro f a0 yy Q' ⟨px, rfl, hw⟩ hi hd hQ
            replace hQ := Lib.hid hQ
            simp [Iv.depsB, Region.binds] at hd
            try simp only [hi, hd, sl_true, sl_false, so_true, so_false]
            try simp only [hi, sl_true, sl_false, so_true, so_false]
            go_wp2_with fail
            refine hQ.out _ _ ⟨px, ?_, ?_⟩
            · simp [Iv.upd, hi, hd, sl_true, sl_false, so_true, so_false]
            · simpa [Iv.upd, hi, hd] using hw
          · rintro f a0 yy Q' ⟨px, rfl, hw⟩ hi hd hQ
            replace hQ := Lib.hid hQ
            simp [Iv.depsB, Region.binds] at hd
            try simp only [hi, hd, sl_true, sl_false, so_true, so_false]
            try simp only [hi, sl_true, sl_false, so_true, so_false]
            obtain ⟨c0, c1, c2, c3, c4, c5, cf, cz⟩ := (HX1.out.call hw.bel).cells
            go_wp2_with fail
            refine hQ.out _ _ ⟨px, ?_, ?_⟩
            · simp [Iv.upd, hi, hd, sl_true, sl_false, so_true, so_false]
            · simpa [Iv.upd, hi, hd] using hw
          · rintro f a0 yy Q' ⟨px, rfl, hw⟩ hi hd hQ
            replace hQ := Lib.hid hQ
            simp [Iv.depsB, Region.binds] at hd
            try simp only [hi, hd, sl_true, sl_false, so_true, so_false]
            try simp only [hi, sl_true, sl_false, so_true, so_false]
            go_wp2_with fail
            refine hQ.out _ _ ⟨px, ?_, ?_⟩
            · simp [Iv.upd, hi, hd, sl_true, sl_false, so_true, so_false]
            · simpa [Iv.upd, hi, hd] using hw
          · rintro f a0 yy Q' ⟨px, rfl, hw⟩ hi hd hQ
            replace hQ := Lib.hid hQ
            simp [Iv.depsB, Region.binds] at hd
            try simp only [hi, hd, sl_true, sl_false, so_true, so_false]
            try simp only [hi, sl_true, sl_false, so_true, so_false]
            have ky := HWB1.out.below hw.bel HWB1.out.lt
            have k1 := ky.cell 1
            have kz := ky.lt
            simp only [List.getElem?_toArray, List.getElem?_cons_zero, List.getElem?_cons_succ] at k1
            clear ky
            go_wp2_with fail
            refine hQ.out _ _ ⟨px, ?_, ?_⟩
            · simp [Iv.upd, hi, hd, sl_true, sl_false, so_true, so_false]
            · simpa [Iv.upd, hi, hd] using hw
          · rintro f a0 yy Q' ⟨px, rfl, hw⟩ hi hd hQ
            replace hQ := Lib.hid hQ
            simp [Iv.depsB, Region.binds] at hd
            try simp only [hi, hd, sl_true, sl_false, so_true, so_false]
            try simp only [hi, sl_true, sl_false, so_true, so_false]
            have HQW := Lib.hid hw
            clear hw
            have e3 : f 3 = true := by simp [hd]
            have e5 : f 5 = true := by simp [hd]
            try simp only [e3, e5, so_true, so_false]
            go_wp2_with fail
            refine (HL.out yy (HX1.out.call HQW.out.bel)).mono ?_
            rintro e y1w ⟨rfl, hb⟩
            have HN := Lib.hid (HQW.out.call hb)
            clear hb
            go_wp2_with fail
            refine hQ.out _ _ ⟨px, ?_, ?_⟩
            · simp [Iv.upd, hi, hd, sl_true, sl_false, so_true, so_false, e3, e5]
            · simpa [Iv.upd, hi, hd, e3, e5] using HN.out
          · rintro f a0 yy Q' ⟨px, rfl, hw⟩ hi hd hQ
            replace hQ := Lib.hid hQ
            simp [Iv.depsB, Region.binds] at hd
            try simp only [hi, hd, sl_true, sl_false, so_true, so_false]
            try simp only [hi, sl_true, sl_false, so_true, so_false]
            go_wp2_with fail
            refine hQ.out _ _ ⟨px, ?_, ?_⟩
            · simp [Iv.upd, hi, hd, sl_true, sl_false, so_true, so_false]
            · simpa [Iv.upd, hi, hd] using hw
          · rintro f a0 yy Q' ⟨px, rfl, hw⟩ hi hd hQ
            replace hQ := Lib.hid hQ
            simp [Iv.depsB, Region.binds] at hd
            try simp only [hi, hd, sl_true, sl_false, so_true, so_false]
            try simp only [hi, sl_true, sl_false, so_true, so_false]
            go_wp2_with fail
            refine hQ.out _ _ ⟨px, ?_, ?_⟩
            · simp [Iv.upd, hi, hd, sl_true, sl_false, so_true, so_false]
            · simpa [Iv.upd, hi, hd] using hw
          · rintro f a0 yy Q' ⟨px, rfl, hw⟩ hi hd hQ
            replace hQ := Lib.hid hQ
            simp [Iv.depsB, Region.binds] at hd
            try simp only [hi, hd, sl_true, sl_false, so_true, so_false]
            try simp only [hi, sl_true, sl_false, so_true, so_false]
            go_wp2_with fail
            refine hQ.out _ _ ⟨px, ?_, ?_⟩
            · simp [Iv.upd, hi, hd, sl_true, sl_false, so_true, so_false]
            · simpa [Iv.upd, hi, hd] using hw
          · rintro f a0 yy Q' ⟨px, rfl, hw⟩ hi hd hQ
            replace hQ := Lib.hid hQ
            simp [Iv.depsB, Region.binds] at hd
            try simp only [hi, hd, sl_true, sl_false, so_true, so_false]
            try simp only [hi, sl_true, sl_false, so_true, so_false]
            have hw2 := hw
            rw [hi] at hw2
            go_wp2_with fail
            refine hQ.out _ _ ⟨yy.heap.size, ?_, ?_⟩
            · simp [Iv.upd, hi, hd, sl_true, sl_false, so_true, so_false]
            · simpa [Iv.upd, hi, hd] using hw2.make
          · rintro f a0 yy Q' ⟨px, rfl, hw⟩ hi hd hQ
            replace hQ := Lib.hid hQ
            simp [Iv.depsB, Region.binds] at hd
            try simp only [hi, hd, sl_true, sl_false, so_true, so_false]
            try simp only [hi, sl_true, sl_false, so_true, so_false]
            have ea : f 10 = true := by simp [hd]
            have eb : f 8 = true := by simp [hd]
            have hw2 := hw
            rw [hi, ea] at hw2
            have kx := (hw2.box rfl rfl).1
            have t0 := kx.cell 0
            have t1 := kx.cell 1
            have d0 := kx.free 0
            have d1 := kx.free 1
            have tz := kx.lt
            simp only [List.getElem?_toArray, List.getElem?_cons_zero, List.getElem?_cons_succ] at t0 t1
            have HN := Lib.hid hw2.store2
            clear kx hw2
            try simp only [ea, eb, so_true, so_false]
            go_wp2_with fail
            refine hQ.out _ _ ⟨px, ?_, ?_⟩
            · simp [Iv.upd, hi, hd, sl_true, sl_false, so_true, so_false, ea, eb]
            · simpa [Iv.upd, hi, hd, ea, eb] using HN.out
          · rintro f a0 yy Q' ⟨px, rfl, hw⟩ hi hd hQ
            replace hQ := Lib.hid hQ
            simp [Iv.depsB, Region.binds] at hd
            try simp only [hi, hd, sl_true, sl_false, so_true, so_false]
            try simp only [hi, sl_true, sl_false, so_true, so_false]
            go_wp2_with fail
            refine hQ.out _ _ ⟨px, ?_, ?_⟩
            · simp [Iv.upd, hi, hd, sl_true, sl_false, so_true, so_false]
            · simpa [Iv.upd, hi, hd] using hw
        · rintro f a0 wv ⟨qv, rfl, hw⟩ hall
          simp only [hall 0 (by decide), hall 1 (by decide), hall 2 (by decide), hall 3 (by decide), hall 4 (by decide), hall 5 (by decide), hall 6 (by decide), hall 7 (by decide), hall 8 (by decide), hall 9 (by decide), hall 10 (by decide), hall 11 (by decide), hall 12 (by decide), sl_true, ↓reduceIte, so_true, so_false] at hw ⊢
          clear hall
          have HV4 := Lib.hid (hw.fin rfl)
          have HBQ := Lib.hid hw.bel
          clear hw
          have HB4 := Lib.hid (HB1.out.trans (HBQ.out.mono HB1.out.size))
          have HX4 := Lib.hid (HX1.out.call HBQ.out)
          have HWB4 := Lib.hid (HWB1.out.below HBQ.out HWB1.out.lt)
          clear HBQ
          go_upto_region 5 with fail
          refine Iv.region (fun f aa yy => ∃ px, aa = ⟨#[ptr g, ptE ⟨p1, p2, 0, true⟩, undef, .pointer (some ⟨w.heap.size, 0, none⟩), .int .i64 0, .int .i64 0, .int .i64 fee, .int .i64 0, .pointer (some ⟨qv, 0, none⟩), .bool op, so (f 10) (.pointer (some ⟨px, 0, none⟩)) (undef), so (f 12) (.bool bz) (undef), .tuple #[.int .i64 fee, .int .i64 0], .pointer (some ⟨w.heap.size, 2, none⟩), .int .i64 0, ptr g, ptr g, .pointer (some ⟨g, 2, none⟩), .float .f64 v.rate, .tuple #[.int .i64 fee, .int .i64 0], .int .i64 fee, .int .i64 0, .pointer (some ⟨w.heap.size, 3, none⟩), .bool true, .bool false, .tuple #[.agg #[.int .i64 y1, .int .i64 y2], .bool op], ptr g, ptr g, .pointer (some ⟨g, 1, none⟩), ptr sg, .pointer (some ⟨w.heap.size, 1, none⟩), .int .i64 p2, .tuple #[.agg #[.int .i64 y1, .int .i64 y2], .bool op], .agg #[.int .i64 y1, .int .i64 y2], .bool op, so (f 7) (.tuple #[.agg #[.int .i64 g1, .int .i64 g2, .int .i64 g3, .bool g4, .int .i64 g5, .int .i64 g6], .bool bz]) (undef), so (f 0) (ptr g) (undef), so (f 1) (ptr g) (undef), so (f 2) (.pointer (some ⟨g, 3, none⟩)) (undef), so (f 3) (.map (some hb)) (undef), so (f 4) (.pointer (some ⟨w.heap.size, 1, none⟩)) (undef), so (f 5) (.int .i64 p2) (undef), so (f 6) (.tuple #[.agg #[.int .i64 g1, .int .i64 g2, .int .i64 g3, .bool g4, .int .i64 g5, .int .i64 g6], .bool bz]) (undef), so (f 8) (.agg #[.int .i64 g1, .int .i64 g2, .int .i64 g3, .bool g4, .int .i64 g5, .int .i64 g6]) (undef), so (f 9) (.bool bz) (undef), undef, undef, undef, undef, undef, undef, undef, undef, undef, undef, undef, undef, undef, undef, undef, undef, undef, undef, undef, undef, undef, undef, undef, undef, undef, undef, undef, undef, undef, undef, undef, undef, undef, undef, undef, undef, undef, undef, undef, undef, undef, undef, undef], []⟩ ∧ Nb wv yy 54 #[.int .i64 0, .int .i64 0, .int .i64 0, .bool false, .int .i64 0, .int .i64 0] #[.int .i64 g1, .int .i64 g2, .int .i64 g3, .bool g4, .int .i64 g5, .int .i64 g6] px (f 10) (f 11)) (by kernel_rfl) (by kernel_rfl) ?_ ?_ ?_
          · exact ⟨0, rfl, Nb.start (drew_below wv 1) _ _ _ _⟩
          · refine ⟨?_, ?_, ?_, ?_, ?_, ?_, ?_, ?_, ?_, ?_, ?_, ?_, ?_, trivial⟩
            · rintro f a0 yy Q' ⟨px, rfl, hw⟩ hi hd hQ
              replace hQ := Lib.hid hQ
              simp [Iv.depsB, Region.binds] at hd
              try simp only [hi, hd, sl_true, sl_false, so_true, so_false]
              try simp only [hi, sl_true, sl_false, so_true, so_false]
              go_wp2_with fail
              refine hQ.out _ _ ⟨px, ?_, ?_⟩
              · simp [Iv.upd, hi, hd, sl_true, sl_false, so_true, so_false]
              · simpa [Iv.upd, hi, hd] using hw
            · rintro f a0 yy Q' ⟨px, rfl, hw⟩ hi hd hQ
              replace hQ := Lib.hid hQ
              simp [Iv.depsB, Region.binds] at hd
              try simp only [hi, hd, sl_true, sl_false, so_true, so_false]
              try simp only [hi, sl_true, sl_false, so_true, so_false]
              go_wp2_with fail
              refine hQ.out _ _ ⟨px, ?_, ?_⟩
              · simp [Iv.upd, hi, hd, sl_true, sl_false, so_true, so_false]
              · simpa [Iv.upd, hi, hd] using hw
            · rintro f a0 yy Q' ⟨px, rfl, hw⟩ hi hd hQ
              replace hQ := Lib.hid hQ
              simp [Iv.depsB, Region.binds] at hd
              try simp only [hi, hd, sl_true, sl_false, so_true, so_false]
              try simp only [hi, sl_true, sl_false, so_true, so_false]
              go_wp2_with fail
              refine hQ.out _ _ ⟨px, ?_, ?_⟩
              · simp [Iv.upd, hi, hd, sl_true, sl_false, so_true, so_false]
              · simpa [Iv.upd, hi, hd] using hw
            · rintro f a0 yy Q' ⟨px, rfl, hw⟩ hi hd hQ
              replace hQ := Lib.hid hQ
              simp [Iv.depsB, Region.binds] at hd
              try simp only [hi, hd, sl_true, sl_false, so_true, so_false]
              try simp only [hi, sl_true, sl_false, so_true, so_false]
              obtain ⟨c0, c1, c2, c3, c4, c5, cf, cz⟩ := (HX4.out.call hw.bel).cells
              go_wp2_with fail
              refine hQ.out _ _ ⟨px, ?_, ?_⟩
              · simp [Iv.upd, hi, hd, sl_true, sl_false, so_true, so_false]
              · simpa [Iv.upd, hi, hd] using hw
            · rintro f a0 yy Q' ⟨px, rfl, hw⟩ hi hd hQ
              replace hQ := Lib.hid hQ
              simp [Iv.depsB, Region.binds] at hd
              try simp only [hi, hd, sl_true, sl_false, so_true, so_false]
              try simp only [hi, sl_true, sl_false, so_true, so_false]
              go_wp2_with fail
              refine hQ.out _ _ ⟨px, ?_, ?_⟩
              · simp [Iv.upd, hi, hd, sl_true, sl_false, so_true, so_false]
              · simpa [Iv.upd, hi, hd] using hw
            · rintro f a0 yy Q' ⟨px, rfl, hw⟩ hi hd hQ
              replace hQ := Lib.hid hQ
              simp [Iv.depsB, Region.binds] at hd
              try simp only [hi, hd, sl_true, sl_false, so_true, so_false]
              try simp only [hi, sl_true, sl_false, so_true, so_false]
              have ky := HWB4.out.below hw.bel HWB4.out.lt
              have k1 := ky.cell 1
              have kz := ky.lt
              simp only [List.getElem?_toArray, List.getElem?_cons_zero, List.getElem?_cons_succ] at k1
              clear ky
              go_wp2_with fail
              refine hQ.out _ _ ⟨px, ?_, ?_⟩
              · simp [Iv.upd, hi, hd, sl_true, sl_false, so_true, so_false]
              · simpa [Iv.upd, hi, hd] using hw
            · rintro f a0 yy Q' ⟨px, rfl, hw⟩ hi hd hQ
              replace hQ := Lib.hid hQ
              simp [Iv.depsB, Region.binds] at hd
              try simp only [hi, hd, sl_true, sl_false, so_true, so_false]
              try simp only [hi, sl_true, sl_false, so_true, so_false]
              have hl := HLK.out yy (HX4.out.call hw.bel)
              go_wp2_with fail
              refine hQ.out _ _ ⟨px, ?_, ?_⟩
              · simp [Iv.upd, hi, hd, sl_true, sl_false, so_true, so_false]
              · simpa [Iv.upd, hi, hd] using hw
            · rintro f a0 yy Q' ⟨px, rfl, hw⟩ hi hd hQ
              replace hQ := Lib.hid hQ
              simp [Iv.depsB, Region.binds] at hd
              try simp only [hi, hd, sl_true, sl_false, so_true, so_false]
              try simp only [hi, sl_true, sl_false, so_true, so_false]
              go_wp2_with fail
              refine hQ.out _ _ ⟨px, ?_, ?_⟩
              · simp [Iv.upd, hi, hd, sl_true, sl_false, so_true, so_false]
              · simpa [Iv.upd, hi, hd] using hw
            · rintro f a0 yy Q' ⟨px, rfl, hw⟩ hi hd hQ
              replace hQ := Lib.hid hQ
              simp [Iv.depsB, Region.binds] at hd
              try simp only [hi, hd, sl_true, sl_false, so_true, so_false]
              try simp only [hi, sl_true, sl_false, so_true, so_false]
              go_wp2_with fail
              refine hQ.out _ _ ⟨px, ?_, ?_⟩
              · simp [Iv.upd, hi, hd, sl_true, sl_false, so_true, so_false]
              · simpa [Iv.upd, hi, hd] using hw
            · rintro f a0 yy Q' ⟨px, rfl, hw⟩ hi hd hQ
              replace hQ := Lib.hid hQ
              simp [Iv.depsB, Region.binds] at hd
              try simp only [hi, hd, sl_true, sl_false, so_true, so_false]
              try simp only [hi, sl_true, sl_false, so_true, so_false]
              go_wp2_with fail
              refine hQ.out _ _ ⟨px, ?_, ?_⟩
              · simp [Iv.upd, hi, hd, sl_true, sl_false, so_true, so_false]
              · simpa [Iv.upd, hi, hd] using hw
            · rintro f a0 yy Q' ⟨px, rfl, hw⟩ hi hd hQ
              replace hQ := Lib.hid hQ
              simp [Iv.depsB, Region.binds] at hd
              try simp only [hi, hd, sl_true, sl_false, so_true, so_false]
              try simp only [hi, sl_true, sl_false, so_true, so_false]
              have hw2 := hw
              rw [hi] at hw2
              go_wp2_with fail
              refine hQ.out _ _ ⟨yy.heap.size, ?_, ?_⟩
              · simp [Iv.upd, hi, hd, sl_true, sl_false, so_true, so_false]
              · simpa [Iv.upd, hi, hd] using hw2.make
            · rintro f a0 yy Q' ⟨px, rfl, hw⟩ hi hd hQ
              replace hQ := Lib.hid hQ
              simp [Iv.depsB, Region.binds] at hd
              try simp only [hi, hd, sl_true, sl_false, so_true, so_false]
              try simp only [hi, sl_true, sl_false, so_true, so_false]
              have ea : f 10 = true := by simp [hd]
              have eb : f 8 = true := by simp [hd]
              have hw2 := hw
              rw [hi, ea] at hw2
              have kx := (hw2.box rfl rfl).1
              have t0 := kx.cell 0
              have t1 := kx.cell 1
              have t2 := kx.cell 2
              have t3 := kx.cell 3
              have t4 := kx.cell 4
              have t5 := kx.cell 5
              have d0 := kx.free 0
              have d1 := kx.free 1
              have d2 := kx.free 2
              have d3 := kx.free 3
              have d4 := kx.free 4
              have d5 := kx.free 5
              have tz := kx.lt
              simp only [List.getElem?_toArray, List.getElem?_cons_zero, List.getElem?_cons_succ] at t0 t1 t2 t3 t4 t5
              have HN := Lib.hid hw2.store6
              clear kx hw2
              try simp only [ea, eb, so_true, so_false]
              go_wp2_with fail
              refine hQ.out _ _ ⟨px, ?_, ?_⟩
              · simp [Iv.upd, hi, hd, sl_true, sl_false, so_true, so_false, ea, eb]
              · simpa [Iv.upd, hi, hd, ea, eb] using HN.out
            · rintro f a0 yy Q' ⟨px, rfl, hw⟩ hi hd hQ
              replace hQ := Lib.hid hQ
              simp [Iv.depsB, Region.binds] at hd
              try simp only [hi, hd, sl_true, sl_false, so_true, so_false]
              try simp only [hi, sl_true, sl_false, so_true, so_false]
              go_wp2_with fail
              refine hQ.out _ _ ⟨px, ?_, ?_⟩
              · simp [Iv.upd, hi, hd, sl_true, sl_false, so_true, so_false]
              · simpa [Iv.upd, hi, hd] using hw
          · rintro f a0 wz ⟨px, rfl, hw⟩ hall
            simp only [hall 0 (by decide), hall 1 (by decide), hall 2 (by decide), hall 3 (by decide), hall 4 (by decide), hall 5 (by decide), hall 6 (by decide), hall 7 (by decide), hall 8 (by decide), hall 9 (by decide), hall 10 (by decide), hall 11 (by decide), hall 12 (by decide), sl_true, ↓reduceIte, so_true, so_false] at hw ⊢
            clear hall
            have HV5 := Lib.hid (hw.fin rfl)
            have HBQ := Lib.hid hw.bel
            clear hw
            have HB6 := Lib.hid (HB4.out.trans (HBQ.out.mono HB4.out.size))
            have HWB6 := Lib.hid (HWB4.out.below HBQ.out HWB4.out.lt)
            have HVB6 := Lib.hid (HV4.out.1.below HBQ.out HV4.out.1.lt)
            clear HBQ HV4 HV5
            have ky := HWB6.out
            have k0 := ky.cell 0
            have k1 := ky.cell 1
            have k2 := ky.cell 2
            have k3 := ky.cell 3
            have kz := ky.lt
            clear ky
            have ky := HVB6.out
            have m0 := ky.cell 0
            have m1 := ky.cell 1
            have mz := ky.lt
            clear ky
            simp only [List.getElem?_toArray, List.getElem?_cons_zero, List.getElem?_cons_succ] at k0 k1 k2 k3 m0 m1
            go_wp2_with fail
            refine (HA.out _).mono ?_
            rintro e w7 ⟨rfl, rfl⟩
            go_wp2_with fail
            go_ret2
            exact ⟨by rw [HE.out.1, HE.out.2]; rfl, HB6.out⟩
      · have iz : (p3 == 0) = false := by simpa using hz
        cases op with
        | false =>
          clear hi2 hfr hN0 hab
          have HE : Hid (CN = 0 ∧ CE = 159) := Lib.hid (by
            have e : CE = 159 := by rw [HCE.out, if_neg (by decide), if_neg (by rintro (h | h); cases h; exact hz h), if_pos rfl]
            exact ⟨by rw [HCH.out, e, if_neg (by decide)], e⟩)
          clear HCE HCH
          go_enter Tryz.func37, Tryz.ntmps37
          go_upto_region 1 with fail
          generalize hw0 : w.alloc (.cells #[.int .i64 p1, .int .i64 p2, .int .i64 p3, .bool true] 52) = w0 at *
          clear hw0
          obtain ⟨C, hC, HCc, HCf⟩ := vbelow_class w0
          refine region_in C hC (by kernel_rfl) (by kernel_rfl) ?_
          iterate 12
            (refine WQ.step (fun K hK => ?_)
             go_simp
             first
               | (refine hK _ ?_; clear hK K)
               | (apply Exists.intro
                  refine ⟨fun z hz => ?_, hK _ ?_⟩
                  · first
                      | rfl
                      | (go_at_call 54; refine (HF.out z).mono ?_; rintro e z2 ⟨rfl, hb⟩; exact ⟨rfl, HCc.out _ _ hz hb⟩)
                      | (obtain ⟨c0, c1, c2, c3, c4, c5, cf, cz⟩ := (HX0.out.call (HCf.out _ hz)).cells
                         have ky := HWB0.out.below (HCf.out _ hz) HWB0.out.lt
                         have k0 := ky.cell 0
                         have k1 := ky.cell 1
                         have k2 := ky.cell 2
                         have k3 := ky.cell 3
                         have kz := ky.lt
                         simp only [List.getElem?_toArray, List.getElem?_cons_zero, List.getElem?_cons_succ] at k0 k1 k2 k3
                         clear ky
                         go_simp
                         rfl)
                  clear hK K))
          refine WQ.nil ?_
          intro w1 hw
          have HB1 := Lib.hid (HB0.out.trans ((HCf.out _ hw).mono HB0.out.size))
          have HX1 := Lib.hid (HX0.out.call (HCf.out _ hw))
          have HWB1 := Lib.hid (HWB0.out.below (HCf.out _ hw) HWB0.out.lt)
          clear hw hC HCc HCf C
          have ky := HWB1.out
          have k0 := ky.cell 0
          have k1 := ky.cell 1
          have k2 := ky.cell 2
          have k3 := ky.cell 3
          have kz := ky.lt
          clear ky
          simp only [List.getElem?_toArray, List.getElem?_cons_zero, List.getElem?_cons_succ] at k0 k1 k2 k3
          go_upto_region 4 with fail
          clear k0 k1 k2 k3 kz
          refine Iv.region (fun f aa yy => ∃ px, aa = ⟨#[ptr g, ptE ⟨p1, p2, p3, true⟩, undef, .pointer (some ⟨w.heap.size, 0, none⟩), .int .i64 0, .int .i64 0, .int .i64 fee, .int .i64 0, so (f 10) (.pointer (some ⟨px, 0, none⟩)) (undef), so (f 12) (.bool false) (undef), undef, undef, .tuple #[.int .i64 fee, .int .i64 0], .pointer (some ⟨w.heap.size, 2, none⟩), .int .i64 p3, ptr g, ptr g, .pointer (some ⟨g, 2, none⟩), .float .f64 v.rate, .tuple #[.int .i64 fee, .int .i64 0], .int .i64 fee, .int .i64 0, .pointer (some ⟨w.heap.size, 3, none⟩), .bool true, .bool false, so (f 7) (.tuple #[.agg #[.int .i64 y1, .int .i64 y2], .bool false]) (undef), so (f 0) (ptr g) (undef), so (f 1) (ptr g) (undef), so (f 2) (.pointer (some ⟨g, 1, none⟩)) (undef), so (f 3) (ptr sg) (undef), so (f 4) (.pointer (some ⟨w.heap.size, 1, none⟩)) (undef), so (f 5) (.int .i64 p2) (undef), so (f 6) (.tuple #[.agg #[.int .i64 y1, .int .i64 y2], .bool false]) (undef), so (f 8) (.agg #[.int .i64 y1, .int .i64 y2]) (undef), so (f 9) (.bool false) (undef), undef, undef, undef, undef, undef, undef, undef, undef, undef, undef, undef, undef, undef, undef, undef, undef, undef, undef, undef, undef, undef, undef, undef, undef, undef, undef, undef, undef, undef, undef, undef, undef, undef, undef, undef, undef, undef, undef, undef, undef, undef, undef, undef, undef, undef, undef, undef, undef, undef, undef, undef, undef, undef], []⟩ ∧ Nb w1 yy 81 #[.int .i64 0, .int .i64 0] #[.int .i64 y1, .int .i64 y2] px (f 10) (f 11)) (by kernel_rfl) (by kernel_rfl) ?_ ?_ ?_
          · exact ⟨0, rfl, Nb.start (drew_below w1 1) _ _ _ _⟩
          · refine ⟨?_, ?_, ?_, ?_, ?_, ?_, ?_, ?_, ?_, ?_, ?_, ?_, ?_, trivial⟩
            · rintro f a0 yy Q' ⟨px, rfl, hw⟩ hi hd hQ
              replace hQ := Lib.hid hQ
              simp [Iv.depsB, Region.binds] at hd
              try simp only [hi, hd, sl_true, sl_false, so_true, so_false]
              try simp only [hi, sl_true, sl_false, so_true, so_false]
              go_wp2_with fail
              refine hQ.out _ _ ⟨px, ?_, ?_⟩
              · simp [Iv.upd, hi, hd, sl_true, sl_false, so_true, so_false]
              · simpa [Iv.upd, hi, hd] using hw
            · rintro f a0 yy Q' ⟨px, rfl, hw⟩ hi hd hQ
              replace hQ := Lib.hid hQ
              simp [Iv.depsB, Region.binds] at hd
              try simp only [hi, hd, sl_true, sl_false, so_true, so_false]
              try simp only [hi, sl_true, sl_false, so_true, so_false]
              go_wp2_with fail
              refine hQ.out _ _ ⟨px, ?_, ?_⟩
              · simp [Iv.upd, hi, hd, sl_true, sl_false, so_true, so_false]
              · simpa [Iv.upd, hi, hd] using hw
            · rintro f a0 yy Q' ⟨px, rfl, hw⟩ hi hd hQ
              replace hQ := Lib.hid hQ
              simp [Iv.depsB, Region.binds] at hd
              try simp only [hi, hd, sl_true, sl_false, so_true, so_false]
              try simp only [hi, sl_true, sl_false, so_true, so_false]
              go_wp2_with fail
              refine hQ.out _ _ ⟨px, ?_, ?_⟩
              · simp [Iv.upd, hi, hd, sl_true, sl_false, so_true, so_false]
              · simpa [Iv.upd, hi, hd] using hw
            · rintro f a0 yy Q' ⟨px, rfl, hw⟩ hi hd hQ
              replace hQ := Lib.hid hQ
              simp [Iv.depsB, Region.binds] at hd
              try simp only [hi, hd, sl_true, sl_false, so_true, so_false]
              try simp only [hi, sl_true, sl_false, so_true, so_false]
              obtain ⟨c0, c1, c2, c3, c4, c5, cf, cz⟩ := (HX1.out.call hw.bel).cells
              go_wp2_with fail
              refine hQ.out _ _ ⟨px, ?_, ?_⟩
              · simp [Iv.upd, hi, hd, sl_true, sl_false, so_true, so_false]
              · simpa [Iv.upd, hi, hd] using hw
            · rintro f a0 yy Q' ⟨px, rfl, hw⟩ hi hd hQ
              replace hQ := Lib.hid hQ
              simp [Iv.depsB, Region.binds] at hd
              try simp only [hi, hd, sl_true, sl_false, so_true, so_false]
              try simp only [hi, sl_true, sl_false, so_true, so_false]
              go_wp2_with fail
              refine hQ.out _ _ ⟨px, ?_, ?_⟩
              · simp [Iv.upd, hi, hd, sl_true, sl_false, so_true, so_false]
              · simpa [Iv.upd, hi, hd] using hw
            · rintro f a0 yy Q' ⟨px, rfl, hw⟩ hi hd hQ
              replace hQ := Lib.hid hQ
              simp [Iv.depsB, Region.binds] at hd
              try simp only [hi, hd, sl_true, sl_false, so_true, so_false]
              try simp only [hi, sl_true, sl_false, so_true, so_false]
              have ky := HWB1.out.below hw.bel HWB1.out.lt
              have k1 := ky.cell 1
              have kz := ky.lt
              simp only [List.getElem?_toArray, List.getElem?_cons_zero, List.getElem?_cons_succ] at k1
              clear ky
              go_wp2_with fail
              refine hQ.out _ _ ⟨px, ?_, ?_⟩
              · simp [Iv.upd, hi, hd, sl_true, sl_false, so_true, so_false]
              · simpa [Iv.upd, hi, hd] using hw
            · rintro f a0 yy Q' ⟨px, rfl, hw⟩ hi hd hQ
              replace hQ := Lib.hid hQ
              simp [Iv.depsB, Region.binds] at hd
              try simp only [hi, hd, sl_true, sl_false, so_true, so_false]
              try simp only [hi, sl_true, sl_false, so_true, so_false]
              have HQW := Lib.hid hw
              clear hw
              have e3 : f 3 = true := by simp [hd]
              have e5 : f 5 = true := by simp [hd]
              try simp only [e3, e5, so_true, so_false]
              go_wp2_with fail
              refine (HL.out yy (HX1.out.call HQW.out.bel)).mono ?_
              rintro e y1w ⟨rfl, hb⟩
              have HN := Lib.hid (HQW.out.call hb)
              clear hb
              go_wp2_with fail
              refine hQ.out _ _ ⟨px, ?_, ?_⟩
              · simp [Iv.upd, hi, hd, sl_true, sl_false, so_true, so_false, e3, e5]
              · simpa [Iv.upd, hi, hd, e3, e5] using HN.out
            · rintro f a0 yy Q' ⟨px, rfl, hw⟩ hi hd hQ
              replace hQ := Lib.hid hQ
              simp [Iv.depsB, Region.binds] at hd
              try simp only [hi, hd, sl_true, sl_false, so_true, so_false]
              try simp only [hi, sl_true, sl_false, so_true, so_false]
              go_wp2_with fail
              refine hQ.out _ _ ⟨px, ?_, ?_⟩
              · simp [Iv.upd, hi, hd, sl_true, sl_false, so_true, so_false]
              · simpa [Iv.upd, hi, hd] using hw
            · rintro f a0 yy Q' ⟨px, rfl, hw⟩ hi hd hQ
              replace hQ := Lib.hid hQ
              simp [Iv.depsB, Region.binds] at hd
              try simp only [hi, hd, sl_true, sl_false, so_true, so_false]
              try simp only [hi, sl_true, sl_false, so_true, so_false]
              go_wp2_with fail
              refine hQ.out _ _ ⟨px, ?_, ?_⟩
              · simp [Iv.upd, hi, hd, sl_true, sl_false, so_true, so_false]
              · simpa [Iv.upd, hi, hd] using hw
            · rintro f a0 yy Q' ⟨px, rfl, hw⟩ hi hd hQ
              replace hQ := Lib.hid hQ
              simp [Iv.depsB, Region.binds] at hd
              try simp only [hi, hd, sl_true, sl_false, so_true, so_false]
              try simp only [hi, sl_true, sl_false, so_true, so_false]
              go_wp2_with fail
              refine hQ.out _ _ ⟨px, ?_, ?_⟩
              · simp [Iv.upd, hi, hd, sl_true, sl_false, so_true, so_false]
              · simpa [Iv.upd, hi, hd] using hw
            · rintro f a0 yy Q' ⟨px, rfl, hw⟩ hi hd hQ
              replace hQ := Lib.hid hQ
              simp [Iv.depsB, Region.binds] at hd
              try simp only [hi, hd, sl_true, sl_false, so_true, so_false]
              try simp only [hi, sl_true, sl_false, so_true, so_false]
              have hw2 := hw
              rw [hi] at hw2
              go_wp2_with fail
              refine hQ.out _ _ ⟨yy.heap.size, ?_, ?_⟩
              · simp [Iv.upd, hi, hd, sl_true, sl_false, so_true, so_false]
              · simpa [Iv.upd, hi, hd] using hw2.make
            · rintro f a0 yy Q' ⟨px, rfl, hw⟩ hi hd hQ
              replace hQ := Lib.hid hQ
              simp [Iv.depsB, Region.binds] at hd
              try simp only [hi, hd, sl_true, sl_false, so_true, so_false]
              try simp only [hi, sl_true, sl_false, so_true, so_false]
              have ea : f 10 = true := by simp [hd]
              have eb : f 8 = true := by simp [hd]
              have hw2 := hw
              rw [hi, ea] at hw2
              have kx := (hw2.box rfl rfl).1
              have t0 := kx.cell 0
              have t1 := kx.cell 1
              have d0 := kx.free 0
              have d1 := kx.free 1
              have tz := kx.lt
              simp only [List.getElem?_toArray, List.getElem?_cons_zero, List.getElem?_cons_succ] at t0 t1
              have HN := Lib.hid hw2.store2
              clear kx hw2
              try simp only [ea, eb, so_true, so_false]
              go_wp2_with fail
              refine hQ.out _ _ ⟨px, ?_, ?_⟩
              · simp [Iv.upd, hi, hd, sl_true, sl_false, so_true, so_false, ea, eb]
              · simpa [Iv.upd, hi, hd, ea, eb] using HN.out
            · rintro f a0 yy Q' ⟨px, rfl, hw⟩ hi hd hQ
              replace hQ := Lib.hid hQ
              simp [Iv.depsB, Region.binds] at hd
              try simp only [hi, hd, sl_true, sl_false, so_true, so_false]
              try simp only [hi, sl_true, sl_false, so_true, so_false]
              go_wp2_with fail
              refine hQ.out _ _ ⟨px, ?_, ?_⟩
              · simp [Iv.upd, hi, hd, sl_true, sl_false, so_true, so_false]
              · simpa [Iv.upd, hi, hd] using hw
          · rintro f a0 wv ⟨qv, rfl, hw⟩ hall
            simp only [hall 0 (by decide), hall 1 (by decide), hall 2 (by decide), hall 3 (by decide), hall 4 (by decide), hall 5 (by decide), hall 6 (by decide), hall 7 (by decide), hall 8 (by decide), hall 9 (by decide), hall 10 (by decide), hall 11 (by decide), hall 12 (by decide), sl_true, ↓reduceIte, so_true, so_false] at hw ⊢
            clear hall
            have HV4 := Lib.hid (hw.fin rfl)
            have HBQ := Lib.hid hw.bel
            clear hw
            have HB4 := Lib.hid (HB1.out.trans (HBQ.out.mono HB1.out.size))
            have HX4 := Lib.hid (HX1.out.call HBQ.out)
            have HWB4 := Lib.hid (HWB1.out.below HBQ.out HWB1.out.lt)
            clear HBQ
            go_upto_region 5 with fail
            refine Iv.region (fun f aa yy => ∃ px, aa = ⟨#[ptr g, ptE ⟨p1, p2, p3, true⟩, undef, .pointer (some ⟨w.heap.size, 0, none⟩), .int .i64 0, .int .i64 0, .int .i64 fee, .int .i64 0, .pointer (some ⟨qv, 0, none⟩), .bool false, so (f 10) (.pointer (some ⟨px, 0, none⟩)) (undef), so (f 12) (.bool bz) (undef), .tuple #[.int .i64 fee, .int .i64 0], .pointer (some ⟨w.heap.size, 2, none⟩), .int .i64 p3, ptr g, ptr g, .pointer (some ⟨g, 2, none⟩), .float .f64 v.rate, .tuple #[.int .i64 fee, .int .i64 0], .int .i64 fee, .int .i64 0, .pointer (some ⟨w.heap.size, 3, none⟩), .bool true, .bool false, .tuple #[.agg #[.int .i64 y1, .int .i64 y2], .bool false], ptr g, ptr g, .pointer (some ⟨g, 1, none⟩), ptr sg, .pointer (some ⟨w.heap.size, 1, none⟩), .int .i64 p2, .tuple #[.agg #[.int .i64 y1, .int .i64 y2], .bool false], .agg #[.int .i64 y1, .int .i64 y2], .bool false, so (f 7) (.tuple #[.agg #[.int .i64 g1, .int .i64 g2, .int .i64 g3, .bool g4, .int .i64 g5, .int .i64 g6], .bool bz]) (undef), so (f 0) (ptr g) (undef), so (f 1) (ptr g) (undef), so (f 2) (.pointer (some ⟨g, 3, none⟩)) (undef), so (f 3) (.map (some hb)) (undef), so (f 4) (.pointer (some ⟨w.heap.size, 1, none⟩)) (undef), so (f 5) (.int .i64 p2) (undef), so (f 6) (.tuple #[.agg #[.int .i64 g1, .int .i64 g2, .int .i64 g3, .bool g4, .int .i64 g5, .int .i64 g6], .bool bz]) (undef), so (f 8) (.agg #[.int .i64 g1, .int .i64 g2, .int .i64 g3, .bool g4, .int .i64 g5, .int .i64 g6]) (undef), so (f 9) (.bool bz) (undef), undef, undef, undef, undef, undef, undef, undef, undef, undef, undef, undef, undef, undef, undef, undef, undef, undef, undef, undef, undef, undef, undef, undef, undef, undef, undef, undef, undef, undef, undef, undef, undef, undef, undef, undef, undef, undef, undef, undef, undef, undef, undef, undef], []⟩ ∧ Nb wv yy 54 #[.int .i64 0, .int .i64 0, .int .i64 0, .bool false, .int .i64 0, .int .i64 0] #[.int .i64 g1, .int .i64 g2, .int .i64 g3, .bool g4, .int .i64 g5, .int .i64 g6] px (f 10) (f 11)) (by kernel_rfl) (by kernel_rfl) ?_ ?_ ?_
            · exact ⟨0, rfl, Nb.start (drew_below wv 1) _ _ _ _⟩
            · refine ⟨?_, ?_, ?_, ?_, ?_, ?_, ?_, ?_, ?_, ?_, ?_, ?_, ?_, trivial⟩
              · rintro f a0 yy Q' ⟨px, rfl, hw⟩ hi hd hQ
                replace hQ := Lib.hid hQ
                simp [Iv.depsB, Region.binds] at hd
                try simp only [hi, hd, sl_true, sl_false, so_true, so_false]
                try simp only [hi, sl_true, sl_false, so_true, so_false]
                go_wp2_with fail
                refine hQ.out _ _ ⟨px, ?_, ?_⟩
                · simp [Iv.upd, hi, hd, sl_true, sl_false, so_true, so_false]
                · simpa [Iv.upd, hi, hd] using hw
              · rintro f a0 yy Q' ⟨px, rfl, hw⟩ hi hd hQ
                replace hQ := Lib.hid hQ
                simp [Iv.depsB, Region.binds] at hd
                try simp only [hi, hd, sl_true, sl_false, so_true, so_false]
                try simp only [hi, sl_true, sl_false, so_true, so_false]
                go_wp2_with fail
                refine hQ.out _ _ ⟨px, ?_, ?_⟩
                · simp [Iv.upd, hi, hd, sl_true, sl_false, so_true, so_false]
                · simpa [Iv.upd, hi, hd] using hw
              · rintro f a0 yy Q' ⟨px, rfl, hw⟩ hi hd hQ
                replace hQ := Lib.hid hQ
                simp [Iv.depsB, Region.binds] at hd
                try simp only [hi, hd, sl_true, sl_false, so_true, so_false]
                try simp only [hi, sl_true, sl_false, so_true, so_false]
                go_wp2_with fail
                refine hQ.out _ _ ⟨px, ?_, ?_⟩
                · simp [Iv.upd, hi, hd, sl_true, sl_false, so_true, so_false]
                · simpa [Iv.upd, hi, hd] using hw
              · rintro f a0 yy Q' ⟨px, rfl, hw⟩ hi hd hQ
                replace hQ := Lib.hid hQ
                simp [Iv.depsB, Region.binds] at hd
                try simp only [hi, hd, sl_true, sl_false, so_true, so_false]
                try simp only [hi, sl_true, sl_false, so_true, so_false]
                obtain ⟨c0, c1, c2, c3, c4, c5, cf, cz⟩ := (HX4.out.call hw.bel).cells
                go_wp2_with fail
                refine hQ.out _ _ ⟨px, ?_, ?_⟩
                · simp [Iv.upd, hi, hd, sl_true, sl_false, so_true, so_false]
                · simpa [Iv.upd, hi, hd] using hw
              · rintro f a0 yy Q' ⟨px, rfl, hw⟩ hi hd hQ
                replace hQ := Lib.hid hQ
                simp [Iv.depsB, Region.binds] at hd
                try simp only [hi, hd, sl_true, sl_false, so_true, so_false]
                try simp only [hi, sl_true, sl_false, so_true, so_false]
                go_wp2_with fail
                refine hQ.out _ _ ⟨px, ?_, ?_⟩
                · simp [Iv.upd, hi, hd, sl_true, sl_false, so_true, so_false]
                · simpa [Iv.upd, hi, hd] using hw
              · rintro f a0 yy Q' ⟨px, rfl, hw⟩ hi hd hQ
                replace hQ := Lib.hid hQ
                simp [Iv.depsB, Region.binds] at hd
                try simp only [hi, hd, sl_true, sl_false, so_true, so_false]
                try simp only [hi, sl_true, sl_false, so_true, so_false]
                have ky := HWB4.out.below hw.bel HWB4.out.lt
                have k1 := ky.cell 1
                have kz := ky.lt
                simp only [List.getElem?_toArray, List.getElem?_cons_zero, List.getElem?_cons_succ] at k1
                clear ky
                go_wp2_with fail
                refine hQ.out _ _ ⟨px, ?_, ?_⟩
                · simp [Iv.upd, hi, hd, sl_true, sl_false, so_true, so_false]
                · simpa [Iv.upd, hi, hd] using hw
              · rintro f a0 yy Q' ⟨px, rfl, hw⟩ hi hd hQ
                replace hQ := Lib.hid hQ
                simp [Iv.depsB, Region.binds] at hd
                try simp only [hi, hd, sl_true, sl_false, so_true, so_false]
                try simp only [hi, sl_true, sl_false, so_true, so_false]
                have hl := HLK.out yy (HX4.out.call hw.bel)
                go_wp2_with fail
                refine hQ.out _ _ ⟨px, ?_, ?_⟩
                · simp [Iv.upd, hi, hd, sl_true, sl_false, so_true, so_false]
                · simpa [Iv.upd, hi, hd] using hw
              · rintro f a0 yy Q' ⟨px, rfl, hw⟩ hi hd hQ
                replace hQ := Lib.hid hQ
                simp [Iv.depsB, Region.binds] at hd
                try simp only [hi, hd, sl_true, sl_false, so_true, so_false]
                try simp only [hi, sl_true, sl_false, so_true, so_false]
                go_wp2_with fail
                refine hQ.out _ _ ⟨px, ?_, ?_⟩
                · simp [Iv.upd, hi, hd, sl_true, sl_false, so_true, so_false]
                · simpa [Iv.upd, hi, hd] using hw
              · rintro f a0 yy Q' ⟨px, rfl, hw⟩ hi hd hQ
                replace hQ := Lib.hid hQ
                simp [Iv.depsB, Region.binds] at hd
                try simp only [hi, hd, sl_true, sl_false, so_true, so_false]
                try simp only [hi, sl_true, sl_false, so_true, so_false]
                go_wp2_with fail
                refine hQ.out _ _ ⟨px, ?_, ?_⟩
                · simp [Iv.upd, hi, hd, sl_true, sl_false, so_true, so_false]
                · simpa [Iv.upd, hi, hd] using hw
              · rintro f a0 yy Q' ⟨px, rfl, hw⟩ hi hd hQ
                replace hQ := Lib.hid hQ
                simp [Iv.depsB, Region.binds] at hd
                try simp only [hi, hd, sl_true, sl_false, so_true, so_false]
                try simp only [hi, sl_true, sl_false, so_true, so_false]
                go_wp2_with fail
                refine hQ.out _ _ ⟨px, ?_, ?_⟩
                · simp [Iv.upd, hi, hd, sl_true, sl_false, so_true, so_false]
                · simpa [Iv.upd, hi, hd] using hw
              · rintro f a0 yy Q' ⟨px, rfl, hw⟩ hi hd hQ
                replace hQ := Lib.hid hQ
                simp [Iv.depsB, Region.binds] at hd
                try simp only [hi, hd, sl_true, sl_false, so_true, so_false]
                try simp only [hi, sl_true, sl_false, so_true, so_false]
                have hw2 := hw
                rw [hi] at hw2
                go_wp2_with fail
                refine hQ.out _ _ ⟨yy.heap.size, ?_, ?_⟩
                · simp [Iv.upd, hi, hd, sl_true, sl_false, so_true, so_false]
                · simpa [Iv.upd, hi, hd] using hw2.make
              · rintro f a0 yy Q' ⟨px, rfl, hw⟩ hi hd hQ
                replace hQ := Lib.hid hQ
                simp [Iv.depsB, Region.binds] at hd
                try simp only [hi, hd, sl_true, sl_false, so_true, so_false]
                try simp only [hi, sl_true, sl_false, so_true, so_false]
                have ea : f 10 = true := by simp [hd]
                have eb : f 8 = true := by simp [hd]
                have hw2 := hw
                rw [hi, ea] at hw2
                have kx := (hw2.box rfl rfl).1
                have t0 := kx.cell 0
                have t1 := kx.cell 1
                have t2 := kx.cell 2
                have t3 := kx.cell 3
                have t4 := kx.cell 4
                have t5 := kx.cell 5
                have d0 := kx.free 0
                have d1 := kx.free 1
                have d2 := kx.free 2
                have d3 := kx.free 3
                have d4 := kx.free 4
                have d5 := kx.free 5
                have tz := kx.lt
                simp only [List.getElem?_toArray, List.getElem?_cons_zero, List.getElem?_cons_succ] at t0 t1 t2 t3 t4 t5
                have HN := Lib.hid hw2.store6
                clear kx hw2
                try simp only [ea, eb, so_true, so_false]
                go_wp2_with fail
                refine hQ.out _ _ ⟨px, ?_, ?_⟩
                · simp [Iv.upd, hi, hd, sl_true, sl_false, so_true, so_false, ea, eb]
                · simpa [Iv.upd, hi, hd, ea, eb] using HN.out
              · rintro f a0 yy Q' ⟨px, rfl, hw⟩ hi hd hQ
                replace hQ := Lib.hid hQ
                simp [Iv.depsB, Region.binds] at hd
                try simp only [hi, hd, sl_true, sl_false, so_true, so_false]
                try simp only [hi, sl_true, sl_false, so_true, so_false]
                go_wp2_with fail
                refine hQ.out _ _ ⟨px, ?_, ?_⟩
                · simp [Iv.upd, hi, hd, sl_true, sl_false, so_true, so_false]
                · simpa [Iv.upd, hi, hd] using hw
            · rintro f a0 wz ⟨px, rfl, hw⟩ hall
              simp only [hall 0 (by decide), hall 1 (by decide), hall 2 (by decide), hall 3 (by decide), hall 4 (by decide), hall 5 (by decide), hall 6 (by decide), hall 7 (by decide), hall 8 (by decide), hall 9 (by decide), hall 10 (by decide), hall 11 (by decide), hall 12 (by decide), sl_true, ↓reduceIte, so_true, so_false] at hw ⊢
              clear hall
              have HV5 := Lib.hid (hw.fin rfl)
              have HBQ := Lib.hid hw.bel
              clear hw
              have HB6 := Lib.hid (HB4.out.trans (HBQ.out.mono HB4.out.size))
              have HWB6 := Lib.hid (HWB4.out.below HBQ.out HWB4.out.lt)
              have HVB6 := Lib.hid (HV4.out.1.below HBQ.out HV4.out.1.lt)
              clear HBQ HV4 HV5
              have ky := HWB6.out
              have k0 := ky.cell 0
              have k1 := ky.cell 1
              have k2 := ky.cell 2
              have k3 := ky.cell 3
              have kz := ky.lt
              clear ky
              have ky := HVB6.out
              have m0 := ky.cell 0
              have m1 := ky.cell 1
              have mz := ky.lt
              clear ky
              simp only [List.getElem?_toArray, List.getElem?_cons_zero, List.getElem?_cons_succ] at k0 k1 k2 k3 m0 m1
              go_wp2_with fail
              refine (HA.out _).mono ?_
              rintro e w7 ⟨rfl, rfl⟩
              go_wp2_with fail
              go_ret2
              exact ⟨by rw [HE.out.1, HE.out.2]; rfl, HB6.out⟩
        | true =>
          cases bz with
          | false =>
            have hn9 := hi2.1 rfl
            have hf9 := hfr rfl
            have hy0 := hN0.1
            have hy := hN0.2.2 (hab rfl)
            clear hi2 hfr hN0 hab
            by_cases hs : y2 < p3 + fee
            · have hs2 := hs
              have HE : Hid (CN = 0 ∧ CE = 161) := Lib.hid (by
                have e : CE = 161 := by rw [HCE.out, if_neg (by decide), if_neg (by rintro (h | h); cases h; exact hz h), if_neg (by decide), if_neg (by decide), if_pos ⟨rfl, by rw [if_pos rfl]; exact hs⟩]
                exact ⟨by rw [HCH.out, e, if_neg (by decide)], e⟩)
              clear HCE HCH
              go_enter Tryz.func37, Tryz.ntmps37
              go_upto_region 1 with fail
              generalize hw0 : w.alloc (.cells #[.int .i64 p1, .int .i64 p2, .int .i64 p3, .bool true] 52) = w0 at *
              clear hw0
              obtain ⟨C, hC, HCc, HCf⟩ := vbelow_class w0
              refine region_in C hC (by kernel_rfl) (by kernel_rfl) ?_
              iterate 12
                (refine WQ.step (fun K hK => ?_)
                 go_simp
                 first
                   | (refine hK _ ?_; clear hK K)
                   | (apply Exists.intro
                      refine ⟨fun z hz => ?_, hK _ ?_⟩
                      · first
                          | rfl
                          | (go_at_call 54; refine (HF.out z).mono ?_; rintro e z2 ⟨rfl, hb⟩; exact ⟨rfl, HCc.out _ _ hz hb⟩)
                          | (obtain ⟨c0, c1, c2, c3, c4, c5, cf, cz⟩ := (HX0.out.call (HCf.out _ hz)).cells
                             have ky := HWB0.out.below (HCf.out _ hz) HWB0.out.lt
                             have k0 := ky.cell 0
                             have k1 := ky.cell 1
                             have k2 := ky.cell 2
                             have k3 := ky.cell 3
                             have kz := ky.lt
                             simp only [List.getElem?_toArray, List.getElem?_cons_zero, List.getElem?_cons_succ] at k0 k1 k2 k3
                             clear ky
                             go_simp
                             rfl)
                      clear hK K))
              refine WQ.nil ?_
              intro w1 hw
              have HB1 := Lib.hid (HB0.out.trans ((HCf.out _ hw).mono HB0.out.size))
              have HX1 := Lib.hid (HX0.out.call (HCf.out _ hw))
              have HWB1 := Lib.hid (HWB0.out.below (HCf.out _ hw) HWB0.out.lt)
              clear hw hC HCc HCf C
              have ky := HWB1.out
              have k0 := ky.cell 0
              have k1 := ky.cell 1
              have k2 := ky.cell 2
              have k3 := ky.cell 3
              have kz := ky.lt
              clear ky
              simp only [List.getElem?_toArray, List.getElem?_cons_zero, List.getElem?_cons_succ] at k0 k1 k2 k3
              go_upto_region 4 with fail
              clear k0 k1 k2 k3 kz
              refine Iv.region (fun f aa yy => ∃ px, aa = ⟨#[ptr g, ptE ⟨p1, p2, p3, true⟩, undef, .pointer (some ⟨w.heap.size, 0, none⟩), .int .i64 0, .int .i64 0, .int .i64 fee, .int .i64 0, so (f 10) (.pointer (some ⟨px, 0, none⟩)) (undef), so (f 12) (.bool true) (undef), undef, undef, .tuple #[.int .i64 fee, .int .i64 0], .pointer (some ⟨w.heap.size, 2, none⟩), .int .i64 p3, ptr g, ptr g, .pointer (some ⟨g, 2, none⟩), .float .f64 v.rate, .tuple #[.int .i64 fee, .int .i64 0], .int .i64 fee, .int .i64 0, .pointer (some ⟨w.heap.size, 3, none⟩), .bool true, .bool false, so (f 7) (.tuple #[.agg #[.int .i64 y1, .int .i64 y2], .bool true]) (undef), so (f 0) (ptr g) (undef), so (f 1) (ptr g) (undef), so (f 2) (.pointer (some ⟨g, 1, none⟩)) (undef), so (f 3) (ptr sg) (undef), so (f 4) (.pointer (some ⟨w.heap.size, 1, none⟩)) (undef), so (f 5) (.int .i64 p2) (undef), so (f 6) (.tuple #[.agg #[.int .i64 y1, .int .i64 y2], .bool true]) (undef), so (f 8) (.agg #[.int .i64 y1, .int .i64 y2]) (undef), so (f 9) (.bool true) (undef), undef, undef, undef, undef, undef, undef, undef, undef, undef, undef, undef, undef, undef, undef, undef, undef, undef, undef, undef, undef, undef, undef, undef, undef, undef, undef, undef, undef, undef, undef, undef, undef, undef, undef, undef, undef, undef, undef, undef, undef, undef, undef, undef, undef, undef, undef, undef, undef, undef, undef, undef, undef, undef], []⟩ ∧ Nb w1 yy 81 #[.int .i64 0, .int .i64 0] #[.int .i64 y1, .int .i64 y2] px (f 10) (f 11)) (by kernel_rfl) (by kernel_rfl) ?_ ?_ ?_
              · exact ⟨0, rfl, Nb.start (drew_below w1 1) _ _ _ _⟩
              · refine ⟨?_, ?_, ?_, ?_, ?_, ?_, ?_, ?_, ?_, ?_, ?_, ?_, ?_, trivial⟩
                · rintro f a0 yy Q' ⟨px, rfl, hw⟩ hi hd hQ
                  replace hQ := Lib.hid hQ
                  simp [Iv.depsB, Region.binds] at hd
                  try simp only [hi, hd, sl_true, sl_false, so_true, so_false]
                  try simp only [hi, sl_true, sl_false, so_true, so_false]
                  go_wp2_with fail
                  refine hQ.out _ _ ⟨px, ?_, ?_⟩
                  · simp [Iv.upd, hi, hd, sl_true, sl_false, so_true, so_false]
                  · simpa [Iv.upd, hi, hd] using hw
                · rintro f a0 yy Q' ⟨px, rfl, hw⟩ hi hd hQ
                  replace hQ := Lib.hid hQ
                  simp [Iv.depsB, Region.binds] at hd
                  try simp only [hi, hd, sl_true, sl_false, so_true, so_false]
                  try simp only [hi, sl_true, sl_false, so_true, so_false]
                  go_wp2_with fail
                  refine hQ.out _ _ ⟨px, ?_, ?_⟩
                  · simp [Iv.upd, hi, hd, sl_true, sl_false, so_true, so_false]
                  · simpa [Iv.upd, hi, hd] using hw
                · rintro f a0 yy Q' ⟨px, rfl, hw⟩ hi hd hQ
                  replace hQ := Lib.hid hQ
                  simp [Iv.depsB, Region.binds] at hd
                  try simp only [hi, hd, sl_true, sl_false, so_true, so_false]
                  try simp only [hi, sl_true, sl_false, so_true, so_false]
                  go_wp2_with fail
                  refine hQ.out _ _ ⟨px, ?_, ?_⟩
                  · simp [Iv.upd, hi, hd, sl_true, sl_false, so_true, so_false]
                  · simpa [Iv.upd, hi, hd] using hw
                · rintro f a0 yy Q' ⟨px, rfl, hw⟩ hi hd hQ
                  replace hQ := Lib.hid hQ
                  simp [Iv.depsB, Region.binds] at hd
                  try simp only [hi, hd, sl_true, sl_false, so_true, so_false]
                  try simp only [hi, sl_true, sl_false, so_true, so_false]
                  obtain ⟨c0, c1, c2, c3, c4, c5, cf, cz⟩ := (HX1.out.call hw.bel).cells
                  go_wp2_with fail
                  refine hQ.out _ _ ⟨px, ?_, ?_⟩
                  · simp [Iv.upd, hi, hd, sl_true, sl_false, so_true, so_false]
                  · simpa [Iv.upd, hi, hd] using hw
                · rintro f a0 yy Q' ⟨px, rfl, hw⟩ hi hd hQ
                  replace hQ := Lib.hid hQ
                  simp [Iv.depsB, Region.binds] at hd
                  try simp only [hi, hd, sl_true, sl_false, so_true, so_false]
                  try simp only [hi, sl_true, sl_false, so_true, so_false]
                  go_wp2_with fail
                  refine hQ.out _ _ ⟨px, ?_, ?_⟩
                  · simp [Iv.upd, hi, hd, sl_true, sl_false, so_true, so_false]
                  · simpa [Iv.upd, hi, hd] using hw
                · rintro f a0 yy Q' ⟨px, rfl, hw⟩ hi hd hQ
                  replace hQ := Lib.hid hQ
                  simp [Iv.depsB, Region.binds] at hd
                  try simp only [hi, hd, sl_true, sl_false, so_true, so_false]
                  try simp only [hi, sl_true, sl_false, so_true, so_false]
                  have ky := HWB1.out.below hw.bel HWB1.out.lt
                  have k1 := ky.cell 1
                  have kz := ky.lt
                  simp only [List.getElem?_toArray, List.getElem?_cons_zero, List.getElem?_cons_succ] at k1
                  clear ky
                  go_wp2_with fail
                  refine hQ.out _ _ ⟨px, ?_, ?_⟩
                  · simp [Iv.upd, hi, hd, sl_true, sl_false, so_true, so_false]
                  · simpa [Iv.upd, hi, hd] using hw
                · rintro f a0 yy Q' ⟨px, rfl, hw⟩ hi hd hQ
                  replace hQ := Lib.hid hQ
                  simp [Iv.depsB, Region.binds] at hd
                  try simp only [hi, hd, sl_true, sl_false, so_true, so_false]
                  try simp only [hi, sl_true, sl_false, so_true, so_false]
                  have HQW := Lib.hid hw
                  clear hw
                  have e3 : f 3 = true := by simp [hd]
                  have e5 : f 5 = true := by simp [hd]
                  try simp only [e3, e5, so_true, so_false]
                  go_wp2_with fail
                  refine (HL.out yy (HX1.out.call HQW.out.bel)).mono ?_
                  rintro e y1w ⟨rfl, hb⟩
                  have HN := Lib.hid (HQW.out.call hb)
                  clear hb
                  go_wp2_with fail
                  refine hQ.out _ _ ⟨px, ?_, ?_⟩
                  · simp [Iv.upd, hi, hd, sl_true, sl_false, so_true, so_false, e3, e5]
                  · simpa [Iv.upd, hi, hd, e3, e5] using HN.out
                · rintro f a0 yy Q' ⟨px, rfl, hw⟩ hi hd hQ
                  replace hQ := Lib.hid hQ
                  simp [Iv.depsB, Region.binds] at hd
                  try simp only [hi, hd, sl_true, sl_false, so_true, so_false]
                  try simp only [hi, sl_true, sl_false, so_true, so_false]
                  go_wp2_with fail
                  refine hQ.out _ _ ⟨px, ?_, ?_⟩
                  · simp [Iv.upd, hi, hd, sl_true, sl_false, so_true, so_false]
                  · simpa [Iv.upd, hi, hd] using hw
                · rintro f a0 yy Q' ⟨px, rfl, hw⟩ hi hd hQ
                  replace hQ := Lib.hid hQ
                  simp [Iv.depsB, Region.binds] at hd
                  try simp only [hi, hd, sl_true, sl_false, so_true, so_false]
                  try simp only [hi, sl_true, sl_false, so_true, so_false]
                  go_wp2_with fail
                  refine hQ.out _ _ ⟨px, ?_, ?_⟩
                  · simp [Iv.upd, hi, hd, sl_true, sl_false, so_true, so_false]
                  · simpa [Iv.upd, hi, hd] using hw
                · rintro f a0 yy Q' ⟨px, rfl, hw⟩ hi hd hQ
                  replace hQ := Lib.hid hQ
                  simp [Iv.depsB, Region.binds] at hd
                  try simp only [hi, hd, sl_true, sl_false, so_true, so_false]
                  try simp only [hi, sl_true, sl_false, so_true, so_false]
                  go_wp2_with fail
                  refine hQ.out _ _ ⟨px, ?_, ?_⟩
                  · simp [Iv.upd, hi, hd, sl_true, sl_false, so_true, so_false]
                  · simpa [Iv.upd, hi, hd] using hw
                · rintro f a0 yy Q' ⟨px, rfl, hw⟩ hi hd hQ
                  replace hQ := Lib.hid hQ
                  simp [Iv.depsB, Region.binds] at hd
                  try simp only [hi, hd, sl_true, sl_false, so_true, so_false]
                  try simp only [hi, sl_true, sl_false, so_true, so_false]
                  have hw2 := hw
                  rw [hi] at hw2
                  go_wp2_with fail
                  refine hQ.out _ _ ⟨yy.heap.size, ?_, ?_⟩
                  · simp [Iv.upd, hi, hd, sl_true, sl_false, so_true, so_false]
                  · simpa [Iv.upd, hi, hd] using hw2.make
                · rintro f a0 yy Q' ⟨px, rfl, hw⟩ hi hd hQ
                  replace hQ := Lib.hid hQ
                  simp [Iv.depsB, Region.binds] at hd
                  try simp only [hi, hd, sl_true, sl_false, so_true, so_false]
                  try simp only [hi, sl_true, sl_false, so_true, so_false]
                  have ea : f 10 = true := by simp [hd]
                  have eb : f 8 = true := by simp [hd]
                  have hw2 := hw
                  rw [hi, ea] at hw2
                  have kx := (hw2.box rfl rfl).1
                  have t0 := kx.cell 0
                  have t1 := kx.cell 1
                  have d0 := kx.free 0
                  have d1 := kx.free 1
                  have tz := kx.lt
                  simp only [List.getElem?_toArray, List.getElem?_cons_zero, List.getElem?_cons_succ] at t0 t1
                  have HN := Lib.hid hw2.store2
                  clear kx hw2
                  try simp only [ea, eb, so_true, so_false]
                  go_wp2_with fail
                  refine hQ.out _ _ ⟨px, ?_, ?_⟩
                  · simp [Iv.upd, hi, hd, sl_true, sl_false, so_true, so_false, ea, eb]
                  · simpa [Iv.upd, hi, hd, ea, eb] using HN.out
                · rintro f a0 yy Q' ⟨px, rfl, hw⟩ hi hd hQ
                  replace hQ := Lib.hid hQ
                  simp [Iv.depsB, Region.binds] at hd
                  try simp only [hi, hd, sl_true, sl_false, so_true, so_false]
                  try simp only [hi, sl_true, sl_false, so_true, so_false]
                  go_wp2_with fail
                  refine hQ.out _ _ ⟨px, ?_, ?_⟩
                  · simp [Iv.upd, hi, hd, sl_true, sl_false, so_true, so_false]
                  · simpa [Iv.upd, hi, hd] using hw
              · rintro f a0 wv ⟨qv, rfl, hw⟩ hall
                simp only [hall 0 (by decide), hall 1 (by decide), hall 2 (by decide), hall 3 (by decide), hall 4 (by decide), hall 5 (by decide), hall 6 (by decide), hall 7 (by decide), hall 8 (by decide), hall 9 (by decide), hall 10 (by decide), hall 11 (by decide), hall 12 (by decide), sl_true, ↓reduceIte, so_true, so_false] at hw ⊢
                clear hall
                have HV4 := Lib.hid (hw.fin rfl)
                have HBQ := Lib.hid hw.bel
                clear hw
                have HB4 := Lib.hid (HB1.out.trans (HBQ.out.mono HB1.out.size))
                have HX4 := Lib.hid (HX1.out.call HBQ.out)
                have HWB4 := Lib.hid (HWB1.out.below HBQ.out HWB1.out.lt)
                clear HBQ
                go_upto_region 5 with fail
                refine Iv.region (fun f aa yy => ∃ px, aa = ⟨#[ptr g, ptE ⟨p1, p2, p3, true⟩, undef, .pointer (some ⟨w.heap.size, 0, none⟩), .int .i64 0, .int .i64 0, .int .i64 fee, .int .i64 0, .pointer (some ⟨qv, 0, none⟩), .bool true, so (f 10) (.pointer (some ⟨px, 0, none⟩)) (undef), so (f 12) (.bool false) (undef), .tuple #[.int .i64 fee, .int .i64 0], .pointer (some ⟨w.heap.size, 2, none⟩), .int .i64 p3, ptr g, ptr g, .pointer (some ⟨g, 2, none⟩), .float .f64 v.rate, .tuple #[.int .i64 fee, .int .i64 0], .int .i64 fee, .int .i64 0, .pointer (some ⟨w.heap.size, 3, none⟩), .bool true, .bool false, .tuple #[.agg #[.int .i64 y1, .int .i64 y2], .bool true], ptr g, ptr g, .pointer (some ⟨g, 1, none⟩), ptr sg, .pointer (some ⟨w.heap.size, 1, none⟩), .int .i64 p2, .tuple #[.agg #[.int .i64 y1, .int .i64 y2], .bool true], .agg #[.int .i64 y1, .int .i64 y2], .bool true, so (f 7) (.tuple #[.agg #[.int .i64 g1, .int .i64 g2, .int .i64 g3, .bool g4, .int .i64 g5, .int .i64 g6], .bool false]) (undef), so (f 0) (ptr g) (undef), so (f 1) (ptr g) (undef), so (f 2) (.pointer (some ⟨g, 3, none⟩)) (undef), so (f 3) (.map (some hb)) (undef), so (f 4) (.pointer (some ⟨w.heap.size, 1, none⟩)) (undef), so (f 5) (.int .i64 p2) (undef), so (f 6) (.tuple #[.agg #[.int .i64 g1, .int .i64 g2, .int .i64 g3, .bool g4, .int .i64 g5, .int .i64 g6], .bool false]) (undef), so (f 8) (.agg #[.int .i64 g1, .int .i64 g2, .int .i64 g3, .bool g4, .int .i64 g5, .int .i64 g6]) (undef), so (f 9) (.bool false) (undef), undef, undef, undef, undef, undef, undef, undef, undef, undef, undef, undef, undef, undef, undef, undef, undef, undef, undef, undef, undef, undef, undef, undef, undef, undef, undef, undef, undef, undef, undef, undef, undef, undef, undef, undef, undef, undef, undef, undef, undef, undef, undef, undef], []⟩ ∧ Nb wv yy 54 #[.int .i64 0, .int .i64 0, .int .i64 0, .bool false, .int .i64 0, .int .i64 0] #[.int .i64 g1, .int .i64 g2, .int .i64 g3, .bool g4, .int .i64 g5, .int .i64 g6] px (f 10) (f 11)) (by kernel_rfl) (by kernel_rfl) ?_ ?_ ?_
                · exact ⟨0, rfl, Nb.start (drew_below wv 1) _ _ _ _⟩
                · refine ⟨?_, ?_, ?_, ?_, ?_, ?_, ?_, ?_, ?_, ?_, ?_, ?_, ?_, trivial⟩
                  · rintro f a0 yy Q' ⟨px, rfl, hw⟩ hi hd hQ
                    replace hQ := Lib.hid hQ
                    simp [Iv.depsB, Region.binds] at hd
                    try simp only [hi, hd, sl_true, sl_false, so_true, so_false]
                    try simp only [hi, sl_true, sl_false, so_true, so_false]
                    go_wp2_with fail
                    refine hQ.out _ _ ⟨px, ?_, ?_⟩
                    · simp [Iv.upd, hi, hd, sl_true, sl_false, so_true, so_false]
                    · simpa [Iv.upd, hi, hd] using hw
                  · rintro f a0 yy Q' ⟨px, rfl, hw⟩ hi hd hQ
                    replace hQ := Lib.hid hQ
                    simp [Iv.depsB, Region.binds] at hd
                    try simp only [hi, hd, sl_true, sl_false, so_true, so_false]
                    try simp only [hi, sl_true, sl_false, so_true, so_false]
                    go_wp2_with fail
                    refine hQ.out _ _ ⟨px, ?_, ?_⟩
                    · simp [Iv.upd, hi, hd, sl_true, sl_false, so_true, so_false]
                    · simpa [Iv.upd, hi, hd] using hw
                  · rintro f a0 yy Q' ⟨px, rfl, hw⟩ hi hd hQ
                    replace hQ := Lib.hid hQ
                    simp [Iv.depsB, Region.binds] at hd
                    try simp only [hi, hd, sl_true, sl_false, so_true, so_false]
                    try simp only [hi, sl_true, sl_false, so_true, so_false]
                    go_wp2_with fail
                    refine hQ.out _ _ ⟨px, ?_, ?_⟩
                    · simp [Iv.upd, hi, hd, sl_true, sl_false, so_true, so_false]
                    · simpa [Iv.upd, hi, hd] using hw
                  · rintro f a0 yy Q' ⟨px, rfl, hw⟩ hi hd hQ
                    replace hQ := Lib.hid hQ
                    simp [Iv.depsB, Region.binds] at hd
                    try simp only [hi, hd, sl_true, sl_false, so_true, so_false]
                    try simp only [hi, sl_true, sl_false, so_true, so_false]
                    obtain ⟨c0, c1, c2, c3, c4, c5, cf, cz⟩ := (HX4.out.call hw.bel).cells
                    go_wp2_with fail
                    refine hQ.out _ _ ⟨px, ?_, ?_⟩
                    · simp [Iv.upd, hi, hd, sl_true, sl_false, so_true, so_false]
                    · simpa [Iv.upd, hi, hd] using hw
                  · rintro f a0 yy Q' ⟨px, rfl, hw⟩ hi hd hQ
                    replace hQ := Lib.hid hQ
                    simp [Iv.depsB, Region.binds] at hd
                    try simp only [hi, hd, sl_true, sl_false, so_true, so_false]
                    try simp only [hi, sl_true, sl_false, so_true, so_false]
                    go_wp2_with fail
                    refine hQ.out _ _ ⟨px, ?_, ?_⟩
                    · simp [Iv.upd, hi, hd, sl_true, sl_false, so_true, so_false]
                    · simpa [Iv.upd, hi, hd] using hw
                  · rintro f a0 yy Q' ⟨px, rfl, hw⟩ hi hd hQ
                    replace hQ := Lib.hid hQ
                    simp [Iv.depsB, Region.binds] at hd
                    try simp only [hi, hd, sl_true, sl_false, so_true, so_false]
                    try simp only [hi, sl_true, sl_false, so_true, so_false]
                    have ky := HWB4.out.below hw.bel HWB4.out.lt
                    have k1 := ky.cell 1
                    have kz := ky.lt
                    simp only [List.getElem?_toArray, List.getElem?_cons_zero, List.getElem?_cons_succ] at k1
                    clear ky
                    go_wp2_with fail
                    refine hQ.out _ _ ⟨px, ?_, ?_⟩
                    · simp [Iv.upd, hi, hd, sl_true, sl_false, so_true, so_false]
                    · simpa [Iv.upd, hi, hd] using hw
                  · rintro f a0 yy Q' ⟨px, rfl, hw⟩ hi hd hQ
                    replace hQ := Lib.hid hQ
                    simp [Iv.depsB, Region.binds] at hd
                    try simp only [hi, hd, sl_true, sl_false, so_true, so_false]
                    try simp only [hi, sl_true, sl_false, so_true, so_false]
                    have hl := HLK.out yy (HX4.out.call hw.bel)
                    go_wp2_with fail
                    refine hQ.out _ _ ⟨px, ?_, ?_⟩
                    · simp [Iv.upd, hi, hd, sl_true, sl_false, so_true, so_false]
                    · simpa [Iv.upd, hi, hd] using hw
                  · rintro f a0 yy Q' ⟨px, rfl, hw⟩ hi hd hQ
                    replace hQ := Lib.hid hQ
                    simp [Iv.depsB, Region.binds] at hd
                    try simp only [hi, hd, sl_true, sl_false, so_true, so_false]
                    try simp only [hi, sl_true, sl_false, so_true, so_false]
                    go_wp2_with fail
                    refine hQ.out _ _ ⟨px, ?_, ?_⟩
                    · simp [Iv.upd, hi, hd, sl_true, sl_false, so_true, so_false]
                    · simpa [Iv.upd, hi, hd] using hw
                  · rintro f a0 yy Q' ⟨px, rfl, hw⟩ hi hd hQ
                    replace hQ := Lib.hid hQ
                    simp [Iv.depsB, Region.binds] at hd
                    try simp only [hi, hd, sl_true, sl_false, so_true, so_false]
                    try simp only [hi, sl_true, sl_false, so_true, so_false]
                    go_wp2_with fail
                    refine hQ.out _ _ ⟨px, ?_, ?_⟩
                    · simp [Iv.upd, hi, hd, sl_true, sl_false, so_true, so_false]
                    · simpa [Iv.upd, hi, hd] using hw
                  · rintro f a0 yy Q' ⟨px, rfl, hw⟩ hi hd hQ
                    replace hQ := Lib.hid hQ
                    simp [Iv.depsB, Region.binds] at hd
                    try simp only [hi, hd, sl_true, sl_false, so_true, so_false]
                    try simp only [hi, sl_true, sl_false, so_true, so_false]
                    go_wp2_with fail
                    refine hQ.out _ _ ⟨px, ?_, ?_⟩
                    · simp [Iv.upd, hi, hd, sl_true, sl_false, so_true, so_false]
                    · simpa [Iv.upd, hi, hd] using hw
                  · rintro f a0 yy Q' ⟨px, rfl, hw⟩ hi hd hQ
                    replace hQ := Lib.hid hQ
                    simp [Iv.depsB, Region.binds] at hd
                    try simp only [hi, hd, sl_true, sl_false, so_true, so_false]
                    try simp only [hi, sl_true, sl_false, so_true, so_false]
                    have hw2 := hw
                    rw [hi] at hw2
                    go_wp2_with fail
                    refine hQ.out _ _ ⟨yy.heap.size, ?_, ?_⟩
                    · simp [Iv.upd, hi, hd, sl_true, sl_false, so_true, so_false]
                    · simpa [Iv.upd, hi, hd] using hw2.make
                  · rintro f a0 yy Q' ⟨px, rfl, hw⟩ hi hd hQ
                    replace hQ := Lib.hid hQ
                    simp [Iv.depsB, Region.binds] at hd
                    try simp only [hi, hd, sl_true, sl_false, so_true, so_false]
                    try simp only [hi, sl_true, sl_false, so_true, so_false]
                    have ea : f 10 = true := by simp [hd]
                    have eb : f 8 = true := by simp [hd]
                    have hw2 := hw
                    rw [hi, ea] at hw2
                    have kx := (hw2.box rfl rfl).1
                    have t0 := kx.cell 0
                    have t1 := kx.cell 1
                    have t2 := kx.cell 2
                    have t3 := kx.cell 3
                    have t4 := kx.cell 4
                    have t5 := kx.cell 5
                    have d0 := kx.free 0
                    have d1 := kx.free 1
                    have d2 := kx.free 2
                    have d3 := kx.free 3
                    have d4 := kx.free 4
                    have d5 := kx.free 5
                    have tz := kx.lt
                    simp only [List.getElem?_toArray, List.getElem?_cons_zero, List.getElem?_cons_succ] at t0 t1 t2 t3 t4 t5
                    have HN := Lib.hid hw2.store6
                    clear kx hw2
                    try simp only [ea, eb, so_true, so_false]
                    go_wp2_with fail
                    refine hQ.out _ _ ⟨px, ?_, ?_⟩
                    · simp [Iv.upd, hi, hd, sl_true, sl_false, so_true, so_false, ea, eb]
                    · simpa [Iv.upd, hi, hd, ea, eb] using HN.out
                  · rintro f a0 yy Q' ⟨px, rfl, hw⟩ hi hd hQ
                    replace hQ := Lib.hid hQ
                    simp [Iv.depsB, Region.binds] at hd
                    try simp only [hi, hd, sl_true, sl_false, so_true, so_false]
                    try simp only [hi, sl_true, sl_false, so_true, so_false]
                    go_wp2_with fail
                    refine hQ.out _ _ ⟨px, ?_, ?_⟩
                    · simp [Iv.upd, hi, hd, sl_true, sl_false, so_true, so_false]
                    · simpa [Iv.upd, hi, hd] using hw
                · rintro f a0 wz ⟨px, rfl, hw⟩ hall
                  simp only [hall 0 (by decide), hall 1 (by decide), hall 2 (by decide), hall 3 (by decide), hall 4 (by decide), hall 5 (by decide), hall 6 (by decide), hall 7 (by decide), hall 8 (by decide), hall 9 (by decide), hall 10 (by decide), hall 11 (by decide), hall 12 (by decide), sl_true, ↓reduceIte, so_true, so_false] at hw ⊢
                  clear hall
                  have HV5 := Lib.hid (hw.fin rfl)
                  have HBQ := Lib.hid hw.bel
                  clear hw
                  have HB6 := Lib.hid (HB4.out.trans (HBQ.out.mono HB4.out.size))
                  have HWB6 := Lib.hid (HWB4.out.below HBQ.out HWB4.out.lt)
                  have HVB6 := Lib.hid (HV4.out.1.below HBQ.out HV4.out.1.lt)
                  clear HBQ HV4 HV5
                  have ky := HWB6.out
                  have k0 := ky.cell 0
                  have k1 := ky.cell 1
                  have k2 := ky.cell 2
                  have k3 := ky.cell 3
                  have kz := ky.lt
                  clear ky
                  have ky := HVB6.out
                  have m0 := ky.cell 0
                  have m1 := ky.cell 1
                  have mz := ky.lt
                  clear ky
                  simp only [List.getElem?_toArray, List.getElem?_cons_zero, List.getElem?_cons_succ] at k0 k1 k2 k3 m0 m1
                  go_wp2_with fail
                  refine (HA.out _).mono ?_
                  rintro e w7 ⟨rfl, rfl⟩
                  go_wp2_with fail
                  go_ret2
                  exact ⟨by rw [HE.out.1, HE.out.2]; rfl, HB6.out⟩
            · have HE : Hid (CN = fee ∧ CE = 0) := Lib.hid (by
                have e : CE = 0 := by rw [HCE.out, if_neg (by decide), if_neg (by rintro (h | h); cases h; exact hz h), if_neg (by decide), if_neg (by decide), if_neg (by rw [if_pos rfl]; exact fun h => hs h.2), if_neg (by rintro ⟨h, -⟩; cases h)]
                exact ⟨by rw [HCH.out, e, if_pos rfl, if_pos rfl], e⟩)
              clear HCE HCH
              go_enter Tryz.func37, Tryz.ntmps37
              go_upto_region 1 with fail
              generalize hw0 : w.alloc (.cells #[.int .i64 p1, .int .i64 p2, .int .i64 p3, .bool true] 52) = w0 at *
              clear hw0
              obtain ⟨C, hC, HCc, HCf⟩ := vbelow_class w0
              refine region_in C hC (by kernel_rfl) (by kernel_rfl) ?_
              iterate 12
                (refine WQ.step (fun K hK => ?_)
                 go_simp
                 first
                   | (refine hK _ ?_; clear hK K)
                   | (apply Exists.intro
                      refine ⟨fun z hz => ?_, hK _ ?_⟩
                      · first
                          | rfl
                          | (go_at_call 54; refine (HF.out z).mono ?_; rintro e z2 ⟨rfl, hb⟩; exact ⟨rfl, HCc.out _ _ hz hb⟩)
                          | (obtain ⟨c0, c1, c2, c3, c4, c5, cf, cz⟩ := (HX0.out.call (HCf.out _ hz)).cells
                             have ky := HWB0.out.below (HCf.out _ hz) HWB0.out.lt
                             have k0 := ky.cell 0
                             have k1 := ky.cell 1
                             have k2 := ky.cell 2
                             have k3 := ky.cell 3
                             have kz := ky.lt
                             simp only [List.getElem?_toArray, List.getElem?_cons_zero, List.getElem?_cons_succ] at k0 k1 k2 k3
                             clear ky
                             go_simp
                             rfl)
                      clear hK K))
              refine WQ.nil ?_
              intro w1 hw
              have HB1 := Lib.hid (HB0.out.trans ((HCf.out _ hw).mono HB0.out.size))
              have HX1 := Lib.hid (HX0.out.call (HCf.out _ hw))
              have HWB1 := Lib.hid (HWB0.out.below (HCf.out _ hw) HWB0.out.lt)
              clear hw hC HCc HCf C
              have ky := HWB1.out
              have k0 := ky.cell 0
              have k1 := ky.cell 1
              have k2 := ky.cell 2
              have k3 := ky.cell 3
              have kz := ky.lt
              clear ky
              simp only [List.getElem?_toArray, List.getElem?_cons_zero, List.getElem?_cons_succ] at k0 k1 k2 k3
              go_upto_region 4 with fail
              clear k0 k1 k2 k3 kz
              refine Iv.region (fun f aa yy => ∃ px, aa = ⟨#[ptr g, ptE ⟨p1, p2, p3, true⟩, undef, .pointer (some ⟨w.heap.size, 0, none⟩), .int .i64 0, .int .i64 0, .int .i64 fee, .int .i64 0, so (f 10) (.pointer (some ⟨px, 0, none⟩)) (undef), so (f 12) (.bool true) (undef), undef, undef, .tuple #[.int .i64 fee, .int .i64 0], .pointer (some ⟨w.heap.size, 2, none⟩), .int .i64 p3, ptr g, ptr g, .pointer (some ⟨g, 2, none⟩), .float .f64 v.rate, .tuple #[.int .i64 fee, .int .i64 0], .int .i64 fee, .int .i64 0, .pointer (some ⟨w.heap.size, 3, none⟩), .bool true, .bool false, so (f 7) (.tuple #[.agg #[.int .i64 y1, .int .i64 y2], .bool true]) (undef), so (f 0) (ptr g) (undef), so (f 1) (ptr g) (undef), so (f 2) (.pointer (some ⟨g, 1, none⟩)) (undef), so (f 3) (ptr sg) (undef), so (f 4) (.pointer (some ⟨w.heap.size, 1, none⟩)) (undef), so (f 5) (.int .i64 p2) (undef), so (f 6) (.tuple #[.agg #[.int .i64 y1, .int .i64 y2], .bool true]) (undef), so (f 8) (.agg #[.int .i64 y1, .int .i64 y2]) (undef), so (f 9) (.bool true) (undef), undef, undef, undef, undef, undef, undef, undef, undef, undef, undef, undef, undef, undef, undef, undef, undef, undef, undef, undef, undef, undef, undef, undef, undef, undef, undef, undef, undef, undef, undef, undef, undef, undef, undef, undef, undef, undef, undef, undef, undef, undef, undef, undef, undef, undef, undef, undef, undef, undef, undef, undef, undef, undef], []⟩ ∧ Nb w1 yy 81 #[.int .i64 0, .int .i64 0] #[.int .i64 y1, .int .i64 y2] px (f 10) (f 11)) (by kernel_rfl) (by kernel_rfl) ?_ ?_ ?_
              · exact ⟨0, rfl, Nb.start (drew_below w1 1) _ _ _ _⟩
              · refine ⟨?_, ?_, ?_, ?_, ?_, ?_, ?_, ?_, ?_, ?_, ?_, ?_, ?_, trivial⟩
                · rintro f a0 yy Q' ⟨px, rfl, hw⟩ hi hd hQ
                  replace hQ := Lib.hid hQ
                  simp [Iv.depsB, Region.binds] at hd
                  try simp only [hi, hd, sl_true, sl_false, so_true, so_false]
                  try simp only [hi, sl_true, sl_false, so_true, so_false]
                  go_wp2_with fail
                  refine hQ.out _ _ ⟨px, ?_, ?_⟩
                  · simp [Iv.upd, hi, hd, sl_true, sl_false, so_true, so_false]
                  · simpa [Iv.upd, hi, hd] using hw
                · rintro f a0 yy Q' ⟨px, rfl, hw⟩ hi hd hQ
                  replace hQ := Lib.hid hQ
                  simp [Iv.depsB, Region.binds] at hd
                  try simp only [hi, hd, sl_true, sl_false, so_true, so_false]
                  try simp only [hi, sl_true, sl_false, so_true, so_false]
                  go_wp2_with fail
                  refine hQ.out _ _ ⟨px, ?_, ?_⟩
                  · simp [Iv.upd, hi, hd, sl_true, sl_false, so_true, so_false]
                  · simpa [Iv.upd, hi, hd] using hw
                · rintro f a0 yy Q' ⟨px, rfl, hw⟩ hi hd hQ
                  replace hQ := Lib.hid hQ
                  simp [Iv.depsB, Region.binds] at hd
                  try simp only [hi, hd, sl_true, sl_false, so_true, so_false]
                  try simp only [hi, sl_true, sl_false, so_true, so_false]
                  go_wp2_with fail
                  refine hQ.out _ _ ⟨px, ?_, ?_⟩
                  · simp [Iv.upd, hi, hd, sl_true, sl_false, so_true, so_false]
                  · simpa [Iv.upd, hi, hd] using hw
                · rintro f a0 yy Q' ⟨px, rfl, hw⟩ hi hd hQ
                  replace hQ := Lib.hid hQ
                  simp [Iv.depsB, Region.binds] at hd
                  try simp only [hi, hd, sl_true, sl_false, so_true, so_false]
                  try simp only [hi, sl_true, sl_false, so_true, so_false]
                  obtain ⟨c0, c1, c2, c3, c4, c5, cf, cz⟩ := (HX1.out.call hw.bel).cells
                  go_wp2_with fail
                  refine hQ.out _ _ ⟨px, ?_, ?_⟩
                  · simp [Iv.upd, hi, hd, sl_true, sl_false, so_true, so_false]
                  · simpa [Iv.upd, hi, hd] using hw
                · rintro f a0 yy Q' ⟨px, rfl, hw⟩ hi hd hQ
                  replace hQ := Lib.hid hQ
                  simp [Iv.depsB, Region.binds] at hd
                  try simp only [hi, hd, sl_true, sl_false, so_true, so_false]
                  try simp only [hi, sl_true, sl_false, so_true, so_false]
                  go_wp2_with fail
                  refine hQ.out _ _ ⟨px, ?_, ?_⟩
                  · simp [Iv.upd, hi, hd, sl_true, sl_false, so_true, so_false]
                  · simpa [Iv.upd, hi, hd] using hw
                · rintro f a0 yy Q' ⟨px, rfl, hw⟩ hi hd hQ
                  replace hQ := Lib.hid hQ
                  simp [Iv.depsB, Region.binds] at hd
                  try simp only [hi, hd, sl_true, sl_false, so_true, so_false]
                  try simp only [hi, sl_true, sl_false, so_true, so_false]
                  have ky := HWB1.out.below hw.bel HWB1.out.lt
                  have k1 := ky.cell 1
                  have kz := ky.lt
                  simp only [List.getElem?_toArray, List.getElem?_cons_zero, List.getElem?_cons_succ] at k1
                  clear ky
                  go_wp2_with fail
                  refine hQ.out _ _ ⟨px, ?_, ?_⟩
                  · simp [Iv.upd, hi, hd, sl_true, sl_false, so_true, so_false]
                  · simpa [Iv.upd, hi, hd] using hw
                · rintro f a0 yy Q' ⟨px, rfl, hw⟩ hi hd hQ
                  replace hQ := Lib.hid hQ
                  simp [Iv.depsB, Region.binds] at hd
                  try simp only [hi, hd, sl_true, sl_false, so_true, so_false]
                  try simp only [hi, sl_true, sl_false, so_true, so_false]
                  have HQW := Lib.hid hw
                  clear hw
                  have e3 : f 3 = true := by simp [hd]
                  have e5 : f 5 = true := by simp [hd]
                  try simp only [e3, e5, so_true, so_false]
                  go_wp2_with fail
                  refine (HL.out yy (HX1.out.call HQW.out.bel)).mono ?_
                  rintro e y1w ⟨rfl, hb⟩
                  have HN := Lib.hid (HQW.out.call hb)
                  clear hb
                  go_wp2_with fail
                  refine hQ.out _ _ ⟨px, ?_, ?_⟩
                  · simp [Iv.upd, hi, hd, sl_true, sl_false, so_true, so_false, e3, e5]
                  · simpa [Iv.upd, hi, hd, e3, e5] using HN.out
                · rintro f a0 yy Q' ⟨px, rfl, hw⟩ hi hd hQ
                  replace hQ := Lib.hid hQ
                  simp [Iv.depsB, Region.binds] at hd
                  try simp only [hi, hd, sl_true, sl_false, so_true, so_false]
                  try simp only [hi, sl_true, sl_false, so_true, so_false]
                  go_wp2_with fail
                  refine hQ.out _ _ ⟨px, ?_, ?_⟩
                  · simp [Iv.upd, hi, hd, sl_true, sl_false, so_true, so_false]
                  · simpa [Iv.upd, hi, hd] using hw
                · rintro f a0 yy Q' ⟨px, rfl, hw⟩ hi hd hQ
                  replace hQ := Lib.hid hQ
                  simp [Iv.depsB, Region.binds] at hd
                  try simp only [hi, hd, sl_true, sl_false, so_true, so_false]
                  try simp only [hi, sl_true, sl_false, so_true, so_false]
                  go_wp2_with fail
                  refine hQ.out _ _ ⟨px, ?_, ?_⟩
                  · simp [Iv.upd, hi, hd, sl_true, sl_false, so_true, so_false]
                  · simpa [Iv.upd, hi, hd] using hw
                · rintro f a0 yy Q' ⟨px, rfl, hw⟩ hi hd hQ
                  replace hQ := Lib.hid hQ
                  simp [Iv.depsB, Region.binds] at hd
                  try simp only [hi, hd, sl_true, sl_false, so_true, so_false]
                  try simp only [hi, sl_true, sl_false, so_true, so_false]
                  go_wp2_with fail
                  refine hQ.out _ _ ⟨px, ?_, ?_⟩
                  · simp [Iv.upd, hi, hd, sl_true, sl_false, so_true, so_false]
                  · simpa [Iv.upd, hi, hd] using hw
                · rintro f a0 yy Q' ⟨px, rfl, hw⟩ hi hd hQ
                  replace hQ := Lib.hid hQ
                  simp [Iv.depsB, Region.binds] at hd
                  try simp only [hi, hd, sl_true, sl_false, so_true, so_false]
                  try simp only [hi, sl_true, sl_false, so_true, so_false]
                  have hw2 := hw
                  rw [hi] at hw2
                  go_wp2_with fail
                  refine hQ.out _ _ ⟨yy.heap.size, ?_, ?_⟩
                  · simp [Iv.upd, hi, hd, sl_true, sl_false, so_true, so_false]
                  · simpa [Iv.upd, hi, hd] using hw2.make
                · rintro f a0 yy Q' ⟨px, rfl, hw⟩ hi hd hQ
                  replace hQ := Lib.hid hQ
                  simp [Iv.depsB, Region.binds] at hd
                  try simp only [hi, hd, sl_true, sl_false, so_true, so_false]
                  try simp only [hi, sl_true, sl_false, so_true, so_false]
                  have ea : f 10 = true := by simp [hd]
                  have eb : f 8 = true := by simp [hd]
                  have hw2 := hw
                  rw [hi, ea] at hw2
                  have kx := (hw2.box rfl rfl).1
                  have t0 := kx.cell 0
                  have t1 := kx.cell 1
                  have d0 := kx.free 0
                  have d1 := kx.free 1
                  have tz := kx.lt
                  simp only [List.getElem?_toArray, List.getElem?_cons_zero, List.getElem?_cons_succ] at t0 t1
                  have HN := Lib.hid hw2.store2
                  clear kx hw2
                  try simp only [ea, eb, so_true, so_false]
                  go_wp2_with fail
                  refine hQ.out _ _ ⟨px, ?_, ?_⟩
                  · simp [Iv.upd, hi, hd, sl_true, sl_false, so_true, so_false, ea, eb]
                  · simpa [Iv.upd, hi, hd, ea, eb] using HN.out
                · rintro f a0 yy Q' ⟨px, rfl, hw⟩ hi hd hQ
                  replace hQ := Lib.hid hQ
                  simp [Iv.depsB, Region.binds] at hd
                  try simp only [hi, hd, sl_true, sl_false, so_true, so_false]
                  try simp only [hi, sl_true, sl_false, so_true, so_false]
                  go_wp2_with fail
                  refine hQ.out _ _ ⟨px, ?_, ?_⟩
                  · simp [Iv.upd, hi, hd, sl_true, sl_false, so_true, so_false]
                  · simpa [Iv.upd, hi, hd] using hw
              · rintro f a0 wv ⟨qv, rfl, hw⟩ hall
                simp only [hall 0 (by decide), hall 1 (by decide), hall 2 (by decide), hall 3 (by decide), hall 4 (by decide), hall 5 (by decide), hall 6 (by decide), hall 7 (by decide), hall 8 (by decide), hall 9 (by decide), hall 10 (by decide), hall 11 (by decide), hall 12 (by decide), sl_true, ↓reduceIte, so_true, so_false] at hw ⊢
                clear hall
                have HV4 := Lib.hid (hw.fin rfl)
                have HBQ := Lib.hid hw.bel
                clear hw
                have HB4 := Lib.hid (HB1.out.trans (HBQ.out.mono HB1.out.size))
                have HX4 := Lib.hid (HX1.out.call HBQ.out)
                have HWB4 := Lib.hid (HWB1.out.below HBQ.out HWB1.out.lt)
                clear HBQ
                go_upto_region 5 with fail
                refine Iv.region (fun f aa yy => ∃ px, aa = ⟨#[ptr g, ptE ⟨p1, p2, p3, true⟩, undef, .pointer (some ⟨w.heap.size, 0, none⟩), .int .i64 0, .int .i64 0, .int .i64 fee, .int .i64 0, .pointer (some ⟨qv, 0, none⟩), .bool true, so (f 10) (.pointer (some ⟨px, 0, none⟩)) (undef), so (f 12) (.bool false) (undef), .tuple #[.int .i64 fee, .int .i64 0], .pointer (some ⟨w.heap.size, 2, none⟩), .int .i64 p3, ptr g, ptr g, .pointer (some ⟨g, 2, none⟩), .float .f64 v.rate, .tuple #[.int .i64 fee, .int .i64 0], .int .i64 fee, .int .i64 0, .pointer (some ⟨w.heap.size, 3, none⟩), .bool true, .bool false, .tuple #[.agg #[.int .i64 y1, .int .i64 y2], .bool true], ptr g, ptr g, .pointer (some ⟨g, 1, none⟩), ptr sg, .pointer (some ⟨w.heap.size, 1, none⟩), .int .i64 p2, .tuple #[.agg #[.int .i64 y1, .int .i64 y2], .bool true], .agg #[.int .i64 y1, .int .i64 y2], .bool true, so (f 7) (.tuple #[.agg #[.int .i64 g1, .int .i64 g2, .int .i64 g3, .bool g4, .int .i64 g5, .int .i64 g6], .bool false]) (undef), so (f 0) (ptr g) (undef), so (f 1) (ptr g) (undef), so (f 2) (.pointer (some ⟨g, 3, none⟩)) (undef), so (f 3) (.map (some hb)) (undef), so (f 4) (.pointer (some ⟨w.heap.size, 1, none⟩)) (undef), so (f 5) (.int .i64 p2) (undef), so (f 6) (.tuple #[.agg #[.int .i64 g1, .int .i64 g2, .int .i64 g3, .bool g4, .int .i64 g5, .int .i64 g6], .bool false]) (undef), so (f 8) (.agg #[.int .i64 g1, .int .i64 g2, .int .i64 g3, .bool g4, .int .i64 g5, .int .i64 g6]) (undef), so (f 9) (.bool false) (undef), undef, undef, undef, undef, undef, undef, undef, undef, undef, undef, undef, undef, undef, undef, undef, undef, undef, undef, undef, undef, undef, undef, undef, undef, undef, undef, undef, undef, undef, undef, undef, undef, undef, undef, undef, undef, undef, undef, undef, undef, undef, undef, undef], []⟩ ∧ Nb wv yy 54 #[.int .i64 0, .int .i64 0, .int .i64 0, .bool false, .int .i64 0, .int .i64 0] #[.int .i64 g1, .int .i64 g2, .int .i64 g3, .bool g4, .int .i64 g5, .int .i64 g6] px (f 10) (f 11)) (by kernel_rfl) (by kernel_rfl) ?_ ?_ ?_
                · exact ⟨0, rfl, Nb.start (drew_below wv 1) _ _ _ _⟩
                · refine ⟨?_, ?_, ?_, ?_, ?_, ?_, ?_, ?_, ?_, ?_, ?_, ?_, ?_, trivial⟩
                  · rintro f a0 yy Q' ⟨px, rfl, hw⟩ hi hd hQ
                    replace hQ := Lib.hid hQ
                    simp [Iv.depsB, Region.binds] at hd
                    try simp only [hi, hd, sl_true, sl_false, so_true, so_false]
                    try simp only [hi, sl_true, sl_false, so_true, so_false]
                    go_wp2_with fail
                    refine hQ.out _ _ ⟨px, ?_, ?_⟩
                    · simp [Iv.upd, hi, hd, sl_true, sl_false, so_true, so_false]
                    · simpa [Iv.upd, hi, hd] using hw
                  · rintro f a0 yy Q' ⟨px, rfl, hw⟩ hi hd hQ
                    replace hQ := Lib.hid hQ
                    simp [Iv.depsB, Region.binds] at hd
                    try simp only [hi, hd, sl_true, sl_false, so_true, so_false]
                    try simp only [hi, sl_true, sl_false, so_true, so_false]
                    go_wp2_with fail
                    refine hQ.out _ _ ⟨px, ?_, ?_⟩
                    · simp [Iv.upd, hi, hd, sl_true, sl_false, so_true, so_false]
                    · simpa [Iv.upd, hi, hd] using hw
                  · rintro f a0 yy Q' ⟨px, rfl, hw⟩ hi hd hQ
                    replace hQ := Lib.hid hQ
                    simp [Iv.depsB, Region.binds] at hd
                    try simp only [hi, hd, sl_true, sl_false, so_true, so_false]
                    try simp only [hi, sl_true, sl_false, so_true, so_false]
                    go_wp2_with fail
                    refine hQ.out _ _ ⟨px, ?_, ?_⟩
                    · simp [Iv.upd, hi, hd, sl_true, sl_false, so_true, so_false]
                    · simpa [Iv.upd, hi, hd] using hw
                  · rintro f a0 yy Q' ⟨px, rfl, hw⟩ hi hd hQ
                    replace hQ := Lib.hid hQ
                    simp [Iv.depsB, Region.binds] at hd
                    try simp only [hi, hd, sl_true, sl_false, so_true, so_false]
                    try simp only [hi, sl_true, sl_false, so_true, so_false]
                    obtain ⟨c0, c1, c2, c3, c4, c5, cf, cz⟩ := (HX4.out.call hw.bel).cells
                    go_wp2_with fail
                    refine hQ.out _ _ ⟨px, ?_, ?_⟩
                    · simp [Iv.upd, hi, hd, sl_true, sl_false, so_true, so_false]
                    · simpa [Iv.upd, hi, hd] using hw
                  · rintro f a0 yy Q' ⟨px, rfl, hw⟩ hi hd hQ
                    replace hQ := Lib.hid hQ
                    simp [Iv.depsB, Region.binds] at hd
                    try simp only [hi, hd, sl_true, sl_false, so_true, so_false]
                    try simp only [hi, sl_true, sl_false, so_true, so_false]
                    go_wp2_with fail
                    refine hQ.out _ _ ⟨px, ?_, ?_⟩
                    · simp [Iv.upd, hi, hd, sl_true, sl_false, so_true, so_false]
                    · simpa [Iv.upd, hi, hd] using hw
                  · rintro f a0 yy Q' ⟨px, rfl, hw⟩ hi hd hQ
                    replace hQ := Lib.hid hQ
                    simp [Iv.depsB, Region.binds] at hd
                    try simp only [hi, hd, sl_true, sl_false, so_true, so_false]
                    try simp only [hi, sl_true, sl_false, so_true, so_false]
                    have ky := HWB4.out.below hw.bel HWB4.out.lt
                    have k1 := ky.cell 1
                    have kz := ky.lt
                    simp only [List.getElem?_toArray, List.getElem?_cons_zero, List.getElem?_cons_succ] at k1
                    clear ky
                    go_wp2_with fail
                    refine hQ.out _ _ ⟨px, ?_, ?_⟩
                    · simp [Iv.upd, hi, hd, sl_true, sl_false, so_true, so_false]
                    · simpa [Iv.upd, hi, hd] using hw
                  · rintro f a0 yy Q' ⟨px, rfl, hw⟩ hi hd hQ
                    replace hQ := Lib.hid hQ
                    simp [Iv.depsB, Region.binds] at hd
                    try simp only [hi, hd, sl_true, sl_false, so_true, so_false]
                    try simp only [hi, sl_true, sl_false, so_true, so_false]
                    have hl := HLK.out yy (HX4.out.call hw.bel)
                    go_wp2_with fail
                    refine hQ.out _ _ ⟨px, ?_, ?_⟩
                    · simp [Iv.upd, hi, hd, sl_true, sl_false, so_true, so_false]
                    · simpa [Iv.upd, hi, hd] using hw
                  · rintro f a0 yy Q' ⟨px, rfl, hw⟩ hi hd hQ
                    replace hQ := Lib.hid hQ
                    simp [Iv.depsB, Region.binds] at hd
                    try simp only [hi, hd, sl_true, sl_false, so_true, so_false]
                    try simp only [hi, sl_true, sl_false, so_true, so_false]
                    go_wp2_with fail
                    refine hQ.out _ _ ⟨px, ?_, ?_⟩
                    · simp [Iv.upd, hi, hd, sl_true, sl_false, so_true, so_false]
                    · simpa [Iv.upd, hi, hd] using hw
                  · rintro f a0 yy Q' ⟨px, rfl, hw⟩ hi hd hQ
                    replace hQ := Lib.hid hQ
                    simp [Iv.depsB, Region.binds] at hd
                    try simp only [hi, hd, sl_true, sl_false, so_true, so_false]
                    try simp only [hi, sl_true, sl_false, so_true, so_false]
                    go_wp2_with fail
                    refine hQ.out _ _ ⟨px, ?_, ?_⟩
                    · simp [Iv.upd, hi, hd, sl_true, sl_false, so_true, so_false]
                    · simpa [Iv.upd, hi, hd] using hw
                  · rintro f a0 yy Q' ⟨px, rfl, hw⟩ hi hd hQ
                    replace hQ := Lib.hid hQ
                    simp [Iv.depsB, Region.binds] at hd
                    try simp only [hi, hd, sl_true, sl_false, so_true, so_false]
                    try simp only [hi, sl_true, sl_false, so_true, so_false]
                    go_wp2_with fail
                    refine hQ.out _ _ ⟨px, ?_, ?_⟩
                    · simp [Iv.upd, hi, hd, sl_true, sl_false, so_true, so_false]
                    · simpa [Iv.upd, hi, hd] using hw
                  · rintro f a0 yy Q' ⟨px, rfl, hw⟩ hi hd hQ
                    replace hQ := Lib.hid hQ
                    simp [Iv.depsB, Region.binds] at hd
                    try simp only [hi, hd, sl_true, sl_false, so_true, so_false]
                    try simp only [hi, sl_true, sl_false, so_true, so_false]
                    have hw2 := hw
                    rw [hi] at hw2
                    go_wp2_with fail
                    refine hQ.out _ _ ⟨yy.heap.size, ?_, ?_⟩
                    · simp [Iv.upd, hi, hd, sl_true, sl_false, so_true, so_false]
                    · simpa [Iv.upd, hi, hd] using hw2.make
                  · rintro f a0 yy Q' ⟨px, rfl, hw⟩ hi hd hQ
                    replace hQ := Lib.hid hQ
                    simp [Iv.depsB, Region.binds] at hd
                    try simp only [hi, hd, sl_true, sl_false, so_true, so_false]
                    try simp only [hi, sl_true, sl_false, so_true, so_false]
                    have ea : f 10 = true := by simp [hd]
                    have eb : f 8 = true := by simp [hd]
                    have hw2 := hw
                    rw [hi, ea] at hw2
                    have kx := (hw2.box rfl rfl).1
                    have t0 := kx.cell 0
                    have t1 := kx.cell 1
                    have t2 := kx.cell 2
                    have t3 := kx.cell 3
                    have t4 := kx.cell 4
                    have t5 := kx.cell 5
                    have d0 := kx.free 0
                    have d1 := kx.free 1
                    have d2 := kx.free 2
                    have d3 := kx.free 3
                    have d4 := kx.free 4
                    have d5 := kx.free 5
                    have tz := kx.lt
                    simp only [List.getElem?_toArray, List.getElem?_cons_zero, List.getElem?_cons_succ] at t0 t1 t2 t3 t4 t5
                    have HN := Lib.hid hw2.store6
                    clear kx hw2
                    try simp only [ea, eb, so_true, so_false]
                    go_wp2_with fail
                    refine hQ.out _ _ ⟨px, ?_, ?_⟩
                    · simp [Iv.upd, hi, hd, sl_true, sl_false, so_true, so_false, ea, eb]
                    · simpa [Iv.upd, hi, hd, ea, eb] using HN.out
                  · rintro f a0 yy Q' ⟨px, rfl, hw⟩ hi hd hQ
                    replace hQ := Lib.hid hQ
                    simp [Iv.depsB, Region.binds] at hd
                    try simp only [hi, hd, sl_true, sl_false, so_true, so_false]
                    try simp only [hi, sl_true, sl_false, so_true, so_false]
                    go_wp2_with fail
                    refine hQ.out _ _ ⟨px, ?_, ?_⟩
                    · simp [Iv.upd, hi, hd, sl_true, sl_false, so_true, so_false]
                    · simpa [Iv.upd, hi, hd] using hw
                · rintro f a0 wz ⟨px, rfl, hw⟩ hall
                  simp only [hall 0 (by decide), hall 1 (by decide), hall 2 (by decide), hall 3 (by decide), hall 4 (by decide), hall 5 (by decide), hall 6 (by decide), hall 7 (by decide), hall 8 (by decide), hall 9 (by decide), hall 10 (by decide), hall 11 (by decide), hall 12 (by decide), sl_true, ↓reduceIte, so_true, so_false] at hw ⊢
                  clear hall
                  have HV5 := Lib.hid (hw.fin rfl)
                  have HBQ := Lib.hid hw.bel
                  clear hw
                  have HB6 := Lib.hid (HB4.out.trans (HBQ.out.mono HB4.out.size))
                  have HWB6 := Lib.hid (HWB4.out.below HBQ.out HWB4.out.lt)
                  have HVB6 := Lib.hid (HV4.out.1.below HBQ.out HV4.out.1.lt)
                  clear HBQ HV4 HV5
                  have ky := HWB6.out
                  have k0 := ky.cell 0
                  have k1 := ky.cell 1
                  have k2 := ky.cell 2
                  have k3 := ky.cell 3
                  have kz := ky.lt
                  clear ky
                  have ky := HVB6.out
                  have m0 := ky.cell 0
                  have m1 := ky.cell 1
                  have mz := ky.lt
                  clear ky
                  simp only [List.getElem?_toArray, List.getElem?_cons_zero, List.getElem?_cons_succ] at k0 k1 k2 k3 m0 m1
                  go_wp2_with fail
                  refine (HA.out _).mono ?_
                  rintro e w7 ⟨rfl, rfl⟩
                  go_wp2_with fail
                  go_ret2
                  exact ⟨by rw [HE.out.1, HE.out.2]; rfl, HB6.out⟩
          | true =>
            clear hi2 hfr hN0 hab
            have HE : Hid (CN = 0 ∧ CE = 160) := Lib.hid (by
              have e : CE = 160 := by rw [HCE.out, if_neg (by decide), if_neg (by rintro (h | h); cases h; exact hz h), if_neg (by decide), if_pos rfl]
              exact ⟨by rw [HCH.out, e, if_neg (by decide)], e⟩)
            clear HCE HCH
            go_enter Tryz.func37, Tryz.ntmps37
            go_upto_region 1 with fail
            generalize hw0 : w.alloc (.cells #[.int .i64 p1, .int .i64 p2, .int .i64 p3, .bool true] 52) = w0 at *
            clear hw0
            obtain ⟨C, hC, HCc, HCf⟩ := vbelow_class w0
            refine region_in C hC (by kernel_rfl) (by kernel_rfl) ?_
            iterate 12
              (refine WQ.step (fun K hK => ?_)
               go_simp
               first
                 | (refine hK _ ?_; clear hK K)
                 | (apply Exists.intro
                    refine ⟨fun z hz => ?_, hK _ ?_⟩
                    · first
                        | rfl
                        | (go_at_call 54; refine (HF.out z).mono ?_; rintro e z2 ⟨rfl, hb⟩; exact ⟨rfl, HCc.out _ _ hz hb⟩)
                        | (obtain ⟨c0, c1, c2, c3, c4, c5, cf, cz⟩ := (HX0.out.call (HCf.out _ hz)).cells
                           have ky := HWB0.out.below (HCf.out _ hz) HWB0.out.lt
                           have k0 := ky.cell 0
                           have k1 := ky.cell 1
                           have k2 := ky.cell 2
                           have k3 := ky.cell 3
                           have kz := ky.lt
                           simp only [List.getElem?_toArray, List.getElem?_cons_zero, List.getElem?_cons_succ] at k0 k1 k2 k3
                           clear ky
                           go_simp
                           rfl)
                    clear hK K))
            refine WQ.nil ?_
            intro w1 hw
            have HB1 := Lib.hid (HB0.out.trans ((HCf.out _ hw).mono HB0.out.size))
            have HX1 := Lib.hid (HX0.out.call (HCf.out _ hw))
            have HWB1 := Lib.hid (HWB0.out.below (HCf.out _ hw) HWB0.out.lt)
            clear hw hC HCc HCf C
            have ky := HWB1.out
            have k0 := ky.cell 0
            have k1 := ky.cell 1
            have k2 := ky.cell 2
            have k3 := ky.cell 3
            have kz := ky.lt
            clear ky
            simp only [List.getElem?_toArray, List.getElem?_cons_zero, List.getElem?_cons_succ] at k0 k1 k2 k3
            go_upto_region 4 with fail
            clear k0 k1 k2 k3 kz
            refine Iv.region (fun f aa yy => ∃ px, aa = ⟨#[ptr g, ptE ⟨p1, p2, p3, true⟩, undef, .pointer (some ⟨w.heap.size, 0, none⟩), .int .i64 0, .int .i64 0, .int .i64 fee, .int .i64 0, so (f 10) (.pointer (some ⟨px, 0, none⟩)) (undef), so (f 12) (.bool true) (undef), undef, undef, .tuple #[.int .i64 fee, .int .i64 0], .pointer (some ⟨w.heap.size, 2, none⟩), .int .i64 p3, ptr g, ptr g, .pointer (some ⟨g, 2, none⟩), .float .f64 v.rate, .tuple #[.int .i64 fee, .int .i64 0], .int .i64 fee, .int .i64 0, .pointer (some ⟨w.heap.size, 3, none⟩), .bool true, .bool false, so (f 7) (.tuple #[.agg #[.int .i64 y1, .int .i64 y2], .bool true]) (undef), so (f 0) (ptr g) (undef), so (f 1) (ptr g) (undef), so (f 2) (.pointer (some ⟨g, 1, none⟩)) (undef), so (f 3) (ptr sg) (undef), so (f 4) (.pointer (some ⟨w.heap.size, 1, none⟩)) (undef), so (f 5) (.int .i64 p2) (undef), so (f 6) (.tuple #[.agg #[.int .i64 y1, .int .i64 y2], .bool true]) (undef), so (f 8) (.agg #[.int .i64 y1, .int .i64 y2]) (undef), so (f 9) (.bool true) (undef), undef, undef, undef, undef, undef, undef, undef, undef, undef, undef, undef, undef, undef, undef, undef, undef, undef, undef, undef, undef, undef, undef, undef, undef, undef, undef, undef, undef, undef, undef, undef, undef, undef, undef, undef, undef, undef, undef, undef, undef, undef, undef, undef, undef, undef, undef, undef, undef, undef, undef, undef, undef, undef], []⟩ ∧ Nb w1 yy 81 #[.int .i64 0, .int .i64 0] #[.int .i64 y1, .int .i64 y2] px (f 10) (f 11)) (by kernel_rfl) (by kernel_rfl) ?_ ?_ ?_
            · exact ⟨0, rfl, Nb.start (drew_below w1 1) _ _ _ _⟩
            · refine ⟨?_, ?_, ?_, ?_, ?_, ?_, ?_, ?_, ?_, ?_, ?_, ?_, ?_, trivial⟩
              · rintro f a0 yy Q' ⟨px, rfl, hw⟩ hi hd hQ
                replace hQ := Lib.hid hQ
                simp [Iv.depsB, Region.binds] at hd
                try simp only [hi, hd, sl_true, sl_false, so_true, so_false]
                try simp only [hi, sl_true, sl_false, so_true, so_false]
                go_wp2_with fail
                refine hQ.out _ _ ⟨px, ?_, ?_⟩
                · simp [Iv.upd, hi, hd, sl_true, sl_false, so_true, so_false]
                · simpa [Iv.upd, hi, hd] using hw
              · rintro f a0 yy Q' ⟨px, rfl, hw⟩ hi hd hQ
                replace hQ := Lib.hid hQ
                simp [Iv.depsB, Region.binds] at hd
                try simp only [hi, hd, sl_true, sl_false, so_true, so_false]
                try simp only [hi, sl_true, sl_false, so_true, so_false]
                go_wp2_with fail
                refine hQ.out _ _ ⟨px, ?_, ?_⟩
                · simp [Iv.upd, hi, hd, sl_true, sl_false, so_true, so_false]
                · simpa [Iv.upd, hi, hd] using hw
              · rintro f a0 yy Q' ⟨px, rfl, hw⟩ hi hd hQ
                replace hQ := Lib.hid hQ
                simp [Iv.depsB, Region.binds] at hd
                try simp only [hi, hd, sl_true, sl_false, so_true, so_false]
                try simp only [hi, sl_true, sl_false, so_true, so_false]
                go_wp2_with fail
                refine hQ.out _ _ ⟨px, ?_, ?_⟩
                · simp [Iv.upd, hi, hd, sl_true, sl_false, so_true, so_false]
                · simpa [Iv.upd, hi, hd] using hw
              · rintro f a0 yy Q' ⟨px, rfl, hw⟩ hi hd hQ
                replace hQ := Lib.hid hQ
                simp [Iv.depsB, Region.binds] at hd
                try simp only [hi, hd, sl_true, sl_false, so_true, so_false]
                try simp only [hi, sl_true, sl_false, so_true, so_false]
                obtain ⟨c0, c1, c2, c3, c4, c5, cf, cz⟩ := (HX1.out.call hw.bel).cells
                go_wp2_with fail
                refine hQ.out _ _ ⟨px, ?_, ?_⟩
                · simp [Iv.upd, hi, hd, sl_true, sl_false, so_true, so_false]
                · simpa [Iv.upd, hi, hd] using hw
              · rintro f a0 yy Q' ⟨px, rfl, hw⟩ hi hd hQ
                replace hQ := Lib.hid hQ
                simp [Iv.depsB, Region.binds] at hd
                try simp only [hi, hd, sl_true, sl_false, so_true, so_false]
                try simp only [hi, sl_true, sl_false, so_true, so_false]
                go_wp2_with fail
                refine hQ.out _ _ ⟨px, ?_, ?_⟩
                · simp [Iv.upd, hi, hd, sl_true, sl_false, so_true, so_false]
                · simpa [Iv.upd, hi, hd] using hw
              · rintro f a0 yy Q' ⟨px, rfl, hw⟩ hi hd hQ
                replace hQ := Lib.hid hQ
                simp [Iv.depsB, Region.binds] at hd
                try simp only [hi, hd, sl_true, sl_false, so_true, so_false]
                try simp only [hi, sl_true, sl_false, so_true, so_false]
                have ky := HWB1.out.below hw.bel HWB1.out.lt
                have k1 := ky.cell 1
                have kz := ky.lt
                simp only [List.getElem?_toArray, List.getElem?_cons_zero, List.getElem?_cons_succ] at k1
                clear ky
                go_wp2_with fail
                refine hQ.out _ _ ⟨px, ?_, ?_⟩
                · simp [Iv.upd, hi, hd, sl_true, sl_false, so_true, so_false]
                · simpa [Iv.upd, hi, hd] using hw
              · rintro f a0 yy Q' ⟨px, rfl, hw⟩ hi hd hQ
                replace hQ := Lib.hid hQ
                simp [Iv.depsB, Region.binds] at hd
                try simp only [hi, hd, sl_true, sl_false, so_true, so_false]
                try simp only [hi, sl_true, sl_false, so_true, so_false]
                have HQW := Lib.hid hw
                clear hw
                have e3 : f 3 = true := by simp [hd]
                have e5 : f 5 = true := by simp [hd]
                try simp only [e3, e5, so_true, so_false]
                go_wp2_with fail
                refine (HL.out yy (HX1.out.call HQW.out.bel)).mono ?_
                rintro e y1w ⟨rfl, hb⟩
                have HN := Lib.hid (HQW.out.call hb)
                clear hb
                go_wp2_with fail
                refine hQ.out _ _ ⟨px, ?_, ?_⟩
                · simp [Iv.upd, hi, hd, sl_true, sl_false, so_true, so_false, e3, e5]
                · simpa [Iv.upd, hi, hd, e3, e5] using HN.out
              · rintro f a0 yy Q' ⟨px, rfl, hw⟩ hi hd hQ
                replace hQ := Lib.hid hQ
                simp [Iv.depsB, Region.binds] at hd
                try simp only [hi, hd, sl_true, sl_false, so_true, so_false]
                try simp only [hi, sl_true, sl_false, so_true, so_false]
                go_wp2_with fail
                refine hQ.out _ _ ⟨px, ?_, ?_⟩
                · simp [Iv.upd, hi, hd, sl_true, sl_false, so_true, so_false]
                · simpa [Iv.upd, hi, hd] using hw
              · rintro f a0 yy Q' ⟨px, rfl, hw⟩ hi hd hQ
                replace hQ := Lib.hid hQ
                simp [Iv.depsB, Region.binds] at hd
                try simp only [hi, hd, sl_true, sl_false, so_true, so_false]
                try simp only [hi, sl_true, sl_false, so_true, so_false]
                go_wp2_with fail
                refine hQ.out _ _ ⟨px, ?_, ?_⟩
                · simp [Iv.upd, hi, hd, sl_true, sl_false, so_true, so_false]
                · simpa [Iv.upd, hi, hd] using hw
              · rintro f a0 yy Q' ⟨px, rfl, hw⟩ hi hd hQ
                replace hQ := Lib.hid hQ
                simp [Iv.depsB, Region.binds] at hd
                try simp only [hi, hd, sl_true, sl_false, so_true, so_false]
                try simp only [hi, sl_true, sl_false, so_true, so_false]
                go_wp2_with fail
                refine hQ.out _ _ ⟨px, ?_, ?_⟩
                · simp [Iv.upd, hi, hd, sl_true, sl_false, so_true, so_false]
                · simpa [Iv.upd, hi, hd] using hw
              · rintro f a0 yy Q' ⟨px, rfl, hw⟩ hi hd hQ
                replace hQ := Lib.hid hQ
                simp [Iv.depsB, Region.binds] at hd
                try simp only [hi, hd, sl_true, sl_false, so_true, so_false]
                try simp only [hi, sl_true, sl_false, so_true, so_false]
                have hw2 := hw
                rw [hi] at hw2
                go_wp2_with fail
                refine hQ.out _ _ ⟨yy.heap.size, ?_, ?_⟩
                · simp [Iv.upd, hi, hd, sl_true, sl_false, so_true, so_false]
                · simpa [Iv.upd, hi, hd] using hw2.make
              · rintro f a0 yy Q' ⟨px, rfl, hw⟩ hi hd hQ
                replace hQ := Lib.hid hQ
                simp [Iv.depsB, Region.binds] at hd
                try simp only [hi, hd, sl_true, sl_false, so_true, so_false]
                try simp only [hi, sl_true, sl_false, so_true, so_false]
                have ea : f 10 = true := by simp [hd]
                have eb : f 8 = true := by simp [hd]
                have hw2 := hw
                rw [hi, ea] at hw2
                have kx := (hw2.box rfl rfl).1
                have t0 := kx.cell 0
                have t1 := kx.cell 1
                have d0 := kx.free 0
                have d1 := kx.free 1
                have tz := kx.lt
                simp only [List.getElem?_toArray, List.getElem?_cons_zero, List.getElem?_cons_succ] at t0 t1
                have HN := Lib.hid hw2.store2
                clear kx hw2
                try simp only [ea, eb, so_true, so_false]
                go_wp2_with fail
                refine hQ.out _ _ ⟨px, ?_, ?_⟩
                · simp [Iv.upd, hi, hd, sl_true, sl_false, so_true, so_false, ea, eb]
                · simpa [Iv.upd, hi, hd, ea, eb] using HN.out
              · rintro f a0 yy Q' ⟨px, rfl, hw⟩ hi hd hQ
                replace hQ := Lib.hid hQ
                simp [Iv.depsB, Region.binds] at hd
                try simp only [hi, hd, sl_true, sl_false, so_true, so_false]
                try simp only [hi, sl_true, sl_false, so_true, so_false]
                go_wp2_with fail
                refine hQ.out _ _ ⟨px, ?_, ?_⟩
                · simp [Iv.upd, hi, hd, sl_true, sl_false, so_true, so_false]
                · simpa [Iv.upd, hi, hd] using hw
            · rintro f a0 wv ⟨qv, rfl, hw⟩ hall
              simp only [hall 0 (by decide), hall 1 (by decide), hall 2 (by decide), hall 3 (by decide), hall 4 (by decide), hall 5 (by decide), hall 6 (by decide), hall 7 (by decide), hall 8 (by decide), hall 9 (by decide), hall 10 (by decide), hall 11 (by decide), hall 12 (by decide), sl_true, ↓reduceIte, so_true, so_false] at hw ⊢
              clear hall
              have HV4 := Lib.hid (hw.fin rfl)
              have HBQ := Lib.hid hw.bel
              clear hw
              have HB4 := Lib.hid (HB1.out.trans (HBQ.out.mono HB1.out.size))
              have HX4 := Lib.hid (HX1.out.call HBQ.out)
              have HWB4 := Lib.hid (HWB1.out.below HBQ.out HWB1.out.lt)
              clear HBQ
              go_upto_region 5 with fail
              refine Iv.region (fun f aa yy => ∃ px, aa = ⟨#[ptr g, ptE ⟨p1, p2, p3, true⟩, undef, .pointer (some ⟨w.heap.size, 0, none⟩), .int .i64 0, .int .i64 0, .int .i64 fee, .int .i64 0, .pointer (some ⟨qv, 0, none⟩), .bool true, so (f 10) (.pointer (some ⟨px, 0, none⟩)) (undef), so (f 12) (.bool true) (undef), .tuple #[.int .i64 fee, .int .i64 0], .pointer (some ⟨w.heap.size, 2, none⟩), .int .i64 p3, ptr g, ptr g, .pointer (some ⟨g, 2, none⟩), .float .f64 v.rate, .tuple #[.int .i64 fee, .int .i64 0], .int .i64 fee, .int .i64 0, .pointer (some ⟨w.heap.size, 3, none⟩), .bool true, .bool false, .tuple #[.agg #[.int .i64 y1, .int .i64 y2], .bool true], ptr g, ptr g, .pointer (some ⟨g, 1, none⟩), ptr sg, .pointer (some ⟨w.heap.size, 1, none⟩), .int .i64 p2, .tuple #[.agg #[.int .i64 y1, .int .i64 y2], .bool true], .agg #[.int .i64 y1, .int .i64 y2], .bool true, so (f 7) (.tuple #[.agg #[.int .i64 g1, .int .i64 g2, .int .i64 g3, .bool g4, .int .i64 g5, .int .i64 g6], .bool true]) (undef), so (f 0) (ptr g) (undef), so (f 1) (ptr g) (undef), so (f 2) (.pointer (some ⟨g, 3, none⟩)) (undef), so (f 3) (.map (some hb)) (undef), so (f 4) (.pointer (some ⟨w.heap.size, 1, none⟩)) (undef), so (f 5) (.int .i64 p2) (undef), so (f 6) (.tuple #[.agg #[.int .i64 g1, .int .i64 g2, .int .i64 g3, .bool g4, .int .i64 g5, .int .i64 g6], .bool true]) (undef), so (f 8) (.agg #[.int .i64 g1, .int .i64 g2, .int .i64 g3, .bool g4, .int .i64 g5, .int .i64 g6]) (undef), so (f 9) (.bool true) (undef), undef, undef, undef, undef, undef, undef, undef, undef, undef, undef, undef, undef, undef, undef, undef, undef, undef, undef, undef, undef, undef, undef, undef, undef, undef, undef, undef, undef, undef, undef, undef, undef, undef, undef, undef, undef, undef, undef, undef, undef, undef, undef, undef], []⟩ ∧ Nb wv yy 54 #[.int .i64 0, .int .i64 0, .int .i64 0, .bool false, .int .i64 0, .int .i64 0] #[.int .i64 g1, .int .i64 g2, .int .i64 g3, .bool g4, .int .i64 g5, .int .i64 g6] px (f 10) (f 11)) (by kernel_rfl) (by kernel_rfl) ?_ ?_ ?_
              · exact ⟨0, rfl, Nb.start (drew_below wv 1) _ _ _ _⟩
              · refine ⟨?_, ?_, ?_, ?_, ?_, ?_, ?_, ?_, ?_, ?_, ?_, ?_, ?_, trivial⟩
                · rintro f a0 yy Q' ⟨px, rfl, hw⟩ hi hd hQ
                  replace hQ := Lib.hid hQ
                  simp [Iv.depsB, Region.binds] at hd
                  try simp only [hi, hd, sl_true, sl_false, so_true, so_false]
                  try simp only [hi, sl_true, sl_false, so_true, so_false]
                  go_wp2_with fail
                  refine hQ.out _ _ ⟨px, ?_, ?_⟩
                  · simp [Iv.upd, hi, hd, sl_true, sl_false, so_true, so_false]
                  · simpa [Iv.upd, hi, hd] using hw
                · rintro f a0 yy Q' ⟨px, rfl, hw⟩ hi hd hQ
                  replace hQ := Lib.hid hQ
                  simp [Iv.depsB, Region.binds] at hd
                  try simp only [hi, hd, sl_true, sl_false, so_true, so_false]
                  try simp only [hi, sl_true, sl_false, so_true, so_false]
                  go_wp2_with fail
                  refine hQ.out _ _ ⟨px, ?_, ?_⟩
                  · simp [Iv.upd, hi, hd, sl_true, sl_false, so_true, so_false]
                  · simpa [Iv.upd, hi, hd] using hw
                · rintro f a0 yy Q' ⟨px, rfl, hw⟩ hi hd hQ
                  replace hQ := Lib.hid hQ
                  simp [Iv.depsB, Region.binds] at hd
                  try simp only [hi, hd, sl_true, sl_false, so_true, so_false]
                  try simp only [hi, sl_true, sl_false, so_true, so_false]
                  go_wp2_with fail
                  refine hQ.out _ _ ⟨px, ?_, ?_⟩
                  · simp [Iv.upd, hi, hd, sl_true, sl_false, so_true, so_false]
                  · simpa [Iv.upd, hi, hd] using hw
                · rintro f a0 yy Q' ⟨px, rfl, hw⟩ hi hd hQ
                  replace hQ := Lib.hid hQ
                  simp [Iv.depsB, Region.binds] at hd
                  try simp only [hi, hd, sl_true, sl_false, so_true, so_false]
                  try simp only [hi, sl_true, sl_false, so_true, so_false]
                  obtain ⟨c0, c1, c2, c3, c4, c5, cf, cz⟩ := (HX4.out.call hw.bel).cells
                  go_wp2_with fail
                  refine hQ.out _ _ ⟨px, ?_, ?_⟩
                  · simp [Iv.upd, hi, hd, sl_true, sl_false, so_true, so_false]
                  · simpa [Iv.upd, hi, hd] using hw
                · rintro f a0 yy Q' ⟨px, rfl, hw⟩ hi hd hQ
                  replace hQ := Lib.hid hQ
                  simp [Iv.depsB, Region.binds] at hd
                  try simp only [hi, hd, sl_true, sl_false, so_true, so_false]
                  try simp only [hi, sl_true, sl_false, so_true, so_false]
                  go_wp2_with fail
                  refine hQ.out _ _ ⟨px, ?_, ?_⟩
                  · simp [Iv.upd, hi, hd, sl_true, sl_false, so_true, so_false]
                  · simpa [Iv.upd, hi, hd] using hw
                · rintro f a0 yy Q' ⟨px, rfl, hw⟩ hi hd hQ
                  replace hQ := Lib.hid hQ
                  simp [Iv.depsB, Region.binds] at hd
                  try simp only [hi, hd, sl_true, sl_false, so_true, so_false]
                  try simp only [hi, sl_true, sl_false, so_true, so_false]
                  have ky := HWB4.out.below hw.bel HWB4.out.lt
                  have k1 := ky.cell 1
                  have kz := ky.lt
                  simp only [List.getElem?_toArray, List.getElem?_cons_zero, List.getElem?_cons_succ] at k1
                  clear ky
                  go_wp2_with fail
                  refine hQ.out _ _ ⟨px, ?_, ?_⟩
                  · simp [Iv.upd, hi, hd, sl_true, sl_false, so_true, so_false]
                  · simpa [Iv.upd, hi, hd] using hw
                · rintro f a0 yy Q' ⟨px, rfl, hw⟩ hi hd hQ
                  replace hQ := Lib.hid hQ
                  simp [Iv.depsB, Region.binds] at hd
                  try simp only [hi, hd, sl_true, sl_false, so_true, so_false]
                  try simp only [hi, sl_true, sl_false, so_true, so_false]
                  have hl := HLK.out yy (HX4.out.call hw.bel)
                  go_wp2_with fail
                  refine hQ.out _ _ ⟨px, ?_, ?_⟩
                  · simp [Iv.upd, hi, hd, sl_true, sl_false, so_true, so_false]
                  · simpa [Iv.upd, hi, hd] using hw
                · rintro f a0 yy Q' ⟨px, rfl, hw⟩ hi hd hQ
                  replace hQ := Lib.hid hQ
                  simp [Iv.depsB, Region.binds] at hd
                  try simp only [hi, hd, sl_true, sl_false, so_true, so_false]
                  try simp only [hi, sl_true, sl_false, so_true, so_false]
                  go_wp2_with fail
                  refine hQ.out _ _ ⟨px, ?_, ?_⟩
                  · simp [Iv.upd, hi, hd, sl_true, sl_false, so_true, so_false]
                  · simpa [Iv.upd, hi, hd] using hw
                · rintro f a0 yy Q' ⟨px, rfl, hw⟩ hi hd hQ
                  replace hQ := Lib.hid hQ
                  simp [Iv.depsB, Region.binds] at hd
                  try simp only [hi, hd, sl_true, sl_false, so_true, so_false]
                  try simp only [hi, sl_true, sl_false, so_true, so_false]
                  go_wp2_with fail
                  refine hQ.out _ _ ⟨px, ?_, ?_⟩
                  · simp [Iv.upd, hi, hd, sl_true, sl_false, so_true, so_false]
                  · simpa [Iv.upd, hi, hd] using hw
                · rintro f a0 yy Q' ⟨px, rfl, hw⟩ hi hd hQ
                  replace hQ := Lib.hid hQ
                  simp [Iv.depsB, Region.binds] at hd
                  try simp only [hi, hd, sl_true, sl_false, so_true, so_false]
                  try simp only [hi, sl_true, sl_false, so_true, so_false]
                  go_wp2_with fail
                  refine hQ.out _ _ ⟨px, ?_, ?_⟩
                  · simp [Iv.upd, hi, hd, sl_true, sl_false, so_true, so_false]
                  · simpa [Iv.upd, hi, hd] using hw
                · rintro f a0 yy Q' ⟨px, rfl, hw⟩ hi hd hQ
                  replace hQ := Lib.hid hQ
                  simp [Iv.depsB, Region.binds] at hd
                  try simp only [hi, hd, sl_true, sl_false, so_true, so_false]
                  try simp only [hi, sl_true, sl_false, so_true, so_false]
                  have hw2 := hw
                  rw [hi] at hw2
                  go_wp2_with fail
                  refine hQ.out _ _ ⟨yy.heap.size, ?_, ?_⟩
                  · simp [Iv.upd, hi, hd, sl_true, sl_false, so_true, so_false]
                  · simpa [Iv.upd, hi, hd] using hw2.make
                · rintro f a0 yy Q' ⟨px, rfl, hw⟩ hi hd hQ
                  replace hQ := Lib.hid hQ
                  simp [Iv.depsB, Region.binds] at hd
                  try simp only [hi, hd, sl_true, sl_false, so_true, so_false]
                  try simp only [hi, sl_true, sl_false, so_true, so_false]
                  have ea : f 10 = true := by simp [hd]
                  have eb : f 8 = true := by simp [hd]
                  have hw2 := hw
                  rw [hi, ea] at hw2
                  have kx := (hw2.box rfl rfl).1
                  have t0 := kx.cell 0
                  have t1 := kx.cell 1
                  have t2 := kx.cell 2
                  have t3 := kx.cell 3
                  have t4 := kx.cell 4
                  have t5 := kx.cell 5
                  have d0 := kx.free 0
                  have d1 := kx.free 1
                  have d2 := kx.free 2
                  have d3 := kx.free 3
                  have d4 := kx.free 4
                  have d5 := kx.free 5
                  have tz := kx.lt
                  simp only [List.getElem?_toArray, List.getElem?_cons_zero, List.getElem?_cons_succ] at t0 t1 t2 t3 t4 t5
                  have HN := Lib.hid hw2.store6
                  clear kx hw2
                  try simp only [ea, eb, so_true, so_false]
                  go_wp2_with fail
                  refine hQ.out _ _ ⟨px, ?_, ?_⟩
                  · simp [Iv.upd, hi, hd, sl_true, sl_false, so_true, so_false, ea, eb]
                  · simpa [Iv.upd, hi, hd, ea, eb] using HN.out
                · rintro f a0 yy Q' ⟨px, rfl, hw⟩ hi hd hQ
                  replace hQ := Lib.hid hQ
                  simp [Iv.depsB, Region.binds] at hd
                  try simp only [hi, hd, sl_true, sl_false, so_true, so_false]
                  try simp only [hi, sl_true, sl_false, so_true, so_false]
                  go_wp2_with fail
                  refine hQ.out _ _ ⟨px, ?_, ?_⟩
                  · simp [Iv.upd, hi, hd, sl_true, sl_false, so_true, so_false]
                  · simpa [Iv.upd, hi, hd] using hw
              · rintro f a0 wz ⟨px, rfl, hw⟩ hall
                simp only [hall 0 (by decide), hall 1 (by decide), hall 2 (by decide), hall 3 (by decide), hall 4 (by decide), hall 5 (by decide), hall 6 (by decide), hall 7 (by decide), hall 8 (by decide), hall 9 (by decide), hall 10 (by decide), hall 11 (by decide), hall 12 (by decide), sl_true, ↓reduceIte, so_true, so_false] at hw ⊢
                clear hall
                have HV5 := Lib.hid (hw.fin rfl)
                have HBQ := Lib.hid hw.bel
                clear hw
                have HB6 := Lib.hid (HB4.out.trans (HBQ.out.mono HB4.out.size))
                have HWB6 := Lib.hid (HWB4.out.below HBQ.out HWB4.out.lt)
                have HVB6 := Lib.hid (HV4.out.1.below HBQ.out HV4.out.1.lt)
                clear HBQ HV4 HV5
                have ky := HWB6.out
                have k0 := ky.cell 0
                have k1 := ky.cell 1
                have k2 := ky.cell 2
                have k3 := ky.cell 3
                have kz := ky.lt
                clear ky
                have ky := HVB6.out
                have m0 := ky.cell 0
                have m1 := ky.cell 1
                have mz := ky.lt
                clear ky
                simp only [List.getElem?_toArray, List.getElem?_cons_zero, List.getElem?_cons_succ] at k0 k1 k2 k3 m0 m1
                go_wp2_with fail
                refine (HA.out _).mono ?_
                rintro e w7 ⟨rfl, rfl⟩
                go_wp2_with fail
                go_ret2
                exact ⟨by rw [HE.out.1, HE.out.2]; rfl, HB6.out⟩
theorem vcharge_any {w : World} {g sg hb fb : Nat} {v : Vt} {Fs F : Nat → Prop} {m : Nat} (p : Pt) (h1 : W64 p.id) (h2 : W64 p.acc) (h3 : W64 p.n) (hg : Vt.Good v m) (x : Vx w g sg hb fb v Fs F) :
    Calls Tryz.prog 37 #[ptr g, ptE p] w fun e w' => e = .returned (.tuple #[.int .i64 (chN v p), .int .i64 (chargeE v p)]) ∧ Below w.heap.size w w' := by
  cases hpp : p.pays with
  | false => exact vcharge_gets p hpp h1 h2 h3 hg x
  | true => exact vcharge_pays p hpp h1 h2 h3 hg x
end Go.Proofs.YtckhddndeojobaaGreat
