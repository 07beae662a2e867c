/- Whoever asks for keys and ends, each answer is the document's, and so is who holds, waits and is dead then; for every input, without conditions (of more calls the first 30 are made). -/
import Derived.Test.YtcjefigcaifmeaaLokPs
namespace Go.Proofs.Ytcjefigcaifmeaa.locksPlays
open Go.ChangeShapes Go.WideShapes Go.ChangeAt Go.RowKit Go.Lk
set_option linter.unusedVariables false
set_option linter.unusedSimpArgs false

set_option maxHeartbeats 16000000 in
set_option maxRecDepth 100000 in
theorem walk (A : Option Addr) (len cap : Nat) (l : List Op13) (w : World) (hL : IsR w A len cap 4 encO GO l) :
    Calls Try.prog 3 #[.slice A len cap] w fun r w' => r = .returned (.bool true) ∧ Below w.heap.size w w' := by
  obtain ⟨hlen, hs, hc1, hc2, hnil, hg⟩ := hL
  subst hlen
  have HS := Lib.hid hs
  have HGO := Lib.hid hg
  clear hs hg hnil
  go_enter Try.func3, Try.ntmps3
  go_wp2_with fail
  refine (knew _).mono ?_
  rintro e w1 ⟨rfl, -, k1⟩
  have HPS := Lib.hid (Pd.start k1 w1.heap.size rfl)
  have HLO : Hid (w.heap.size ≤ w1.heap.size) := Lib.hid k1.st.below.size
  clear k1
  generalize w.heap.size + 1 + 1 = g at *
  go_wp2_with fail
  refine (awake_any _).mono ?_
  rintro r w3 ⟨rfl, hb1⟩
  have H := Lib.hid (HPS.out.call hb1)
  clear hb1 HPS
  generalize w1.heap.size = p at *
  go_wp2_with fail
  go_loopw [5, 6, 7, 8, 9, 10, 11, 12, 13, 14, 15, 16, 17] (fun i v6 v7 v8 v9 v10 v11 v12 v13 v14 v15 v16 v17 wr => ∃ (n : Nat) (s : Tb) (vh vw vd : Value) (H Wt : List Rw) (D : List Int), n ≤ l.length ∧ n ≤ 30 ∧ i = .int .i64 (n : Int) ∧ Pd w wr [] g s p vh vw vd H Wt D n ∧ Go2 s H Wt D n) (fun i v6 v7 v8 v9 v10 v11 v12 v13 v14 v15 v16 v17 _ => l.length - (intOf i).toNat)
  case atStart => exact ⟨0, newT, _, _, _, [], [], [], by omega, by omega, rfl, H.out, Go2.new⟩
  case round =>
    obtain ⟨n, s, vh, vw, vd, Hd, Wt, Dd, hn1, hn2, rfl, hp, hg2⟩ := hrel
    have HP := Lib.hid hp
    have HG2 := Lib.hid hg2
    obtain ⟨A1, c1, rfl, -⟩ := own_slice0 hp.t.hh
    obtain ⟨A2, c2, rfl, -⟩ := own_slice0 hp.t.hw
    obtain ⟨A3, c3, rfl, -⟩ := own_slice0 hp.t.hd
    clear hp H hg2
    by_cases hlt : n < l.length ∧ n < 30
    · obtain ⟨h1, h2⟩ := hlt
      obtain ⟨o, ho⟩ : ∃ o, l[n]? = some o := ⟨_, List.getElem?_eq_getElem h1⟩
      obtain ⟨b0, off, rfl, hb, hcc⟩ := (HS.out.below HP.out.t.st.below).item encO_len (by omega) n o ho
      have HCA : Hid (∀ (j : Nat) (q : Op13), l[j]? = some q → ∀ y, Below w.heap.size w y → y.cell? ⟨b0, off + j * 4 + 1, none⟩ = some (.int .i64 q.x) ∧ y.cell? ⟨b0, off + j * 4 + 2, none⟩ = some (.int .i64 q.key)) := Lib.hid fun j q hq y hy => by
        obtain ⟨b9, off9, hA9, -, hc9⟩ := (HS.out.below hy).item encO_len (by omega) j q hq
        injection hA9 with hA9
        injection hA9 with hA9 hA10
        subst hA9 hA10
        exact ⟨hc9 1 _ rfl, hc9 2 _ rfl⟩
      have q0 := hcc 0 _ rfl
      have q1 := hcc 1 _ rfl
      have q2 := hcc 2 _ rfl
      have q3 := hcc 3 _ rfl
      rw [Nat.add_zero] at q0
      have i1 : (n : Int) < (l.length : Int) := by omega
      have i2 : (n : Int) < 30 := by omega
      have hgo := HGO.out o (List.mem_of_getElem? ho)
      have hx := hgo.x
      have hkey := hgo.key
      obtain ⟨o0, o1, o2, o3⟩ := o
      dsimp only at *
      clear hcc ho hgo hb
      have HWS : Hid (w.heap.size ≤ wr.heap.size) := Lib.hid HP.out.t.st.below.size
      have HPO := Lib.hid (HP.out.alloc wr.heap.size rfl 31 #[.int .i64 o0, .int .i64 o1, .int .i64 o2, .bool o3] (by decide))
      go_upto_region 9 with fail
      generalize hw2 : wr.alloc (.cells #[.int .i64 o0, .int .i64 o1, .int .i64 o2, .bool o3] 31) = w2 at *
      clear hw2 q0 q1 q2 q3
      have HQL : Hid (w.heap.size ≤ wr.heap.size) := Lib.hid HWS.out
      clear HP HWS
      generalize wr.heap.size = qo at *
      have ky := HPO.out.t.st.knows.at 0 rfl
      have d0 := ky.cell 0
      have d1 := ky.cell 1
      have d2 := ky.cell 2
      have d3 := ky.cell 3
      have dz := ky.lt
      simp only [List.getElem?_toArray, List.getElem?_cons_zero, List.getElem?_cons_succ] at d0 d1 d2 d3
      clear ky
      by_cases h0 : o0 = 0
      · subst h0
        have HA := Lib.hid (pdask o1 o2 o3 hx hkey HPO.out (by omega))
        go_wp2_with fail
        refine HA.out.mono ?_
        rintro e w3 ⟨A5, c5, A6, c6, rfl, hp3, hz3, ho5, ho6⟩
        clear HA d0 d1 d2 d3 dz
        have HW3 : Hid (w2.heap.size ≤ w3.heap.size) := Lib.hid hz3
        have HP3 := Lib.hid (hp3.alloc w3.heap.size rfl 34 #[.bool (askA s o1 o3 o2).granted, .slice A5 (askA s o1 o3 o2).wounded.length c5, .slice A6 (askA s o1 o3 o2).woken.length c6] (by decide))
        have HAL : Hid (Below w3.heap.size w3 (w3.alloc (.cells #[.bool (askA s o1 o3 o2).granted, .slice A5 (askA s o1 o3 o2).wounded.length c5, .slice A6 (askA s o1 o3 o2).woken.length c6] 34))) := Lib.hid ((Below.refl _ _).alloc (Nat.le_refl _) _)
        have HO5 := Lib.hid (own_call ho5 HAL.out)
        have HO6 := Lib.hid (own_call ho6 HAL.out)
        clear hp3 hz3 ho5 ho6
        go_upto_region 11 with fail
        generalize hw4 : w3.alloc (.cells #[.bool (askA s o1 o3 o2).granted, .slice A5 (askA s o1 o3 o2).wounded.length c5, .slice A6 (askA s o1 o3 o2).woken.length c6] 34) = w4 at *
        clear hw4 HAL
        have HQ3 : Hid (w.heap.size ≤ w3.heap.size ∧ qo < w3.heap.size) := Lib.hid ⟨Nat.le_trans HPO.out.t.st.below.size HW3.out, Nat.lt_of_lt_of_le (HPO.out.t.st.knows.at 0 rfl).lt HW3.out⟩
        generalize w3.heap.size = q3 at *
        obtain ⟨H', W', D', hgo2, hca⟩ := docAskG HPO.out.fine HG2.out h2 w.heap.size (.slice A1 Hd.length c1) (.slice A2 Wt.length c2) (.slice A3 Dd.length c3) o1 o2 o3 hx w4 HP3.out.t.st.below.size HP3.out.t.hh HP3.out.t.hw HP3.out.t.hd
        have HGN := Lib.hid hgo2
        have HCA2 := Lib.hid hca
        clear hgo2 hca HG2
        generalize askA s o1 o3 o2 = R at *
        generalize askE s o1 o2 = E at *
        generalize askS s o1 o3 o2 = s' at *
        obtain ⟨R1, R2, R3⟩ := R
        dsimp only at *
        obtain ⟨s0, s1, s2, r0, r1, r2, sz⟩ := HP3.out.t.cells
        have ky := HP3.out.t.st.knows.at 1 rfl
        have d0 := ky.cell 0
        have d1 := ky.cell 1
        have d2 := ky.cell 2
        have d3 := ky.cell 3
        have dz := ky.lt
        simp only [List.getElem?_toArray, List.getElem?_cons_zero, List.getElem?_cons_succ] at d0 d1 d2 d3
        clear ky
        go_wp2_with fail
        refine HCA2.out.mono ?_
        rintro e w5 ⟨B1, e1, B2, e2, B3, e3, A7, c7, A8, c8, rfl, k1, k2, k3, k7, k8, hb⟩
        have HP5 := Lib.hid (HP3.out.call hb)
        have HB5 := Lib.hid hb
        have HK7 := Lib.hid k7
        have HK8 := Lib.hid k8
        have HK123 := Lib.hid (show _ ∧ _ ∧ _ from ⟨k1, k2, k3⟩)
        have HO5b := Lib.hid (own_call HO5.out hb)
        have HO6b := Lib.hid (own_call HO6.out hb)
        clear k1 k2 k3 k7 k8 hb s0 s1 s2 r0 r1 r2 sz d0 d1 d2 d3 dz HCA2
        go_upto_region 12 with fail
        have HP6 := Lib.hid ((HP5.out.alloc w5.heap.size rfl 28 #[.slice B1 H'.length e1, .slice B2 W'.length e2, .slice B3 D'.length e3] (by decide)).alloc (w5.heap.size + 1) (by simp) 34 #[.bool R1, .slice A7 R2.length c7, .slice A8 R3.length c8] (by decide))
        have HAL : Hid (Below w5.heap.size w5 ((w5.alloc (.cells #[.slice B1 H'.length e1, .slice B2 W'.length e2, .slice B3 D'.length e3] 28)).alloc (.cells #[.bool R1, .slice A7 R2.length c7, .slice A8 R3.length c8] 34))) := Lib.hid (((Below.refl _ _).alloc (Nat.le_refl _) _).alloc (by simp) _)
        have HK := Lib.hid (show _ ∧ _ ∧ _ from ⟨own_call HK123.out.1 HAL.out, own_call HK123.out.2.1 HAL.out, own_call HK123.out.2.2 HAL.out⟩)
        have HR8 := Lib.hid (own_call HK8.out HAL.out)
        have HR7 := Lib.hid (own_call HK7.out HAL.out)
        have HR6 := Lib.hid (own_call HO6b.out HAL.out)
        have HR5 := Lib.hid (own_call HO5b.out HAL.out)
        clear HK123 HK8 HK7 HO6b HO5b HP5
        generalize hw6 : (w5.alloc (.cells #[.slice B1 H'.length e1, .slice B2 W'.length e2, .slice B3 D'.length e3] 28)).alloc (.cells #[.bool R1, .slice A7 R2.length c7, .slice A8 R3.length c8] 34) = w6 at *
        clear hw6 HAL HP3 HPO
        generalize w5.heap.size = q5 at *
        have ky := HP6.out.t.st.knows.at 1 rfl
        have x0 := ky.cell 0
        have x1 := ky.cell 1
        have x2 := ky.cell 2
        have xz := ky.lt
        simp only [List.getElem?_toArray, List.getElem?_cons_zero, List.getElem?_cons_succ] at x0 x1 x2
        clear ky
        obtain ⟨s0, s1, s2, r0, r1, r2, sz⟩ := HP6.out.t.cells
        have HP7 := Lib.hid (HP6.out.set3 HK.out.1 HK.out.2.1 HK.out.2.2)
        have HT8 := Lib.hid (own_set3k HR8.out HP6.out.t.box (by decide) (.slice B1 H'.length e1) (.slice B2 W'.length e2) (.slice B3 D'.length e3))
        have HT7 := Lib.hid (own_set3k HR7.out HP6.out.t.box (by decide) (.slice B1 H'.length e1) (.slice B2 W'.length e2) (.slice B3 D'.length e3))
        have HT6 := Lib.hid (own_set3k HR6.out HP6.out.t.box (by decide) (.slice B1 H'.length e1) (.slice B2 W'.length e2) (.slice B3 D'.length e3))
        have HT5 := Lib.hid (own_set3k HR5.out HP6.out.t.box (by decide) (.slice B1 H'.length e1) (.slice B2 W'.length e2) (.slice B3 D'.length e3))
        go_upto_region 13 with fail
        clear HR8 HR7 HR6 HR5 HK s0 s1 s2 r0 r1 r2 sz x0 x1 x2 xz HP6
        generalize hw7 : (((w6.setCell ⟨p, 0, none⟩ (.slice B1 H'.length e1)).setCell ⟨p, 1, none⟩ (.slice B2 W'.length e2)).setCell ⟨p, 2, none⟩ (.slice B3 D'.length e3)) = w7 at *
        clear hw7
        have ht5 := HT5.out
        rw [← flat_encN] at ht5
        have HGI := Lib.hid (rints_any A5 c5 A7 c7 R2 w7 (Sees.own ht5) (Sees.own HT7.out) (own_room HT5.out) (own_room HT7.out) (own_small HT5.out))
        clear ht5
        have ky := HP7.out.t.st.knows.at 0 rfl
        have y0 := ky.cell 0
        have y1 := ky.cell 1
        have y2 := ky.cell 2
        have yz := ky.lt
        simp only [List.getElem?_toArray, List.getElem?_cons_zero, List.getElem?_cons_succ] at y0 y1 y2
        clear ky
        have ky := HP7.out.t.st.knows.at 2 rfl
        have z0 := ky.cell 0
        have z1 := ky.cell 1
        have z2 := ky.cell 2
        have zz := ky.lt
        simp only [List.getElem?_toArray, List.getElem?_cons_zero, List.getElem?_cons_succ] at z0 z1 z2
        clear ky
        have hEE : (E != E) = false := by simp
        go_wp2_with fail
        refine HGI.out.mono ?_
        rintro e w8 ⟨rfl, hb8⟩
        have HP8 := Lib.hid (HP7.out.call hb8)
        have hs6 := own_call HT6.out hb8
        have hs8 := own_call HT8.out hb8
        have HGR := Lib.hid (rgrants_any A6 c6 A8 c8 R3 w8 (Sees.own hs6) (Sees.own hs8) (own_room hs6) (own_room hs8) (own_small hs6))
        clear hs6 hs8 hb8 y0 y1 y2 yz z0 z1 z2 zz HP7 HT5 HT6 HT7 HT8 HGI
        have ky := HP8.out.t.st.knows.at 0 rfl
        have y0 := ky.cell 0
        have y1 := ky.cell 1
        have y2 := ky.cell 2
        have yz := ky.lt
        simp only [List.getElem?_toArray, List.getElem?_cons_zero, List.getElem?_cons_succ] at y0 y1 y2
        clear ky
        have ky := HP8.out.t.st.knows.at 2 rfl
        have z0 := ky.cell 0
        have z1 := ky.cell 1
        have z2 := ky.cell 2
        have zz := ky.lt
        simp only [List.getElem?_toArray, List.getElem?_cons_zero, List.getElem?_cons_succ] at z0 z1 z2
        clear ky
        go_wp2_with fail
        refine HGR.out.mono ?_
        rintro e w9 ⟨rfl, hb9⟩
        have HPF := Lib.hid ((HP8.out.call hb9).few' (L' := []) fun r hr => by cases hr)
        clear hb9 HP8 HGR y0 y1 y2 yz z0 z1 z2 zz
        go_wp2_with fail
        go_loopw [17] (fun j wr => ∃ kk : Nat, kk ≤ n + 1 ∧ j = .int .i64 (kk : Int) ∧ Pd w wr [] g s' p (.slice B1 H'.length e1) (.slice B2 W'.length e2) (.slice B3 D'.length e3) H' W' D' (n + 1)) (fun j _ => n + 1 - (intOf j).toNat)
        case atStart => exact ⟨0, by omega, rfl, HPF.out⟩
        case round =>
          obtain ⟨kk, hkk, rfl, hp⟩ := hrel
          have HPX := Lib.hid hp
          clear hp HPF
          by_cases hk2 : kk < n + 1
          · obtain ⟨oq, hoq⟩ : ∃ oq, l[kk]? = some oq := ⟨_, List.getElem?_eq_getElem (by omega)⟩
            have hgq := HGO.out oq (List.mem_of_getElem? hoq)
            have HCC := Lib.hid (HCA.out kk oq hoq)
            have HTD := Lib.hid (fun z (hz : Below wr.heap.size wr z) => told_any oq.key hgq.key (HPX.out.call hz) HGN.out.h HGN.out.w (by omega) (by have := HGN.out.lh; omega) (by have := HGN.out.lw; omega))
            have HDD := Lib.hid (fun z (hz : Below wr.heap.size wr z) => pddead oq.x hgq.x (HPX.out.call hz))
            have HII := Lib.hid (fun z (hz : Below wr.heap.size wr z) => rin_any B3 e3 D' oq.x z (Sees.own (HPX.out.call hz).t.hd) (by have := HGN.out.ld; omega))
            rw [dead_in HGN.out.d] at HII
            have HMB : Hid (∀ z, Below wr.heap.size wr z → (z.cell? ⟨p, 0, none⟩ = some (.slice B1 H'.length e1) ∧ z.cell? ⟨p, 1, none⟩ = some (.slice B2 W'.length e2) ∧ z.cell? ⟨p, 2, none⟩ = some (.slice B3 D'.length e3) ∧ p < z.heap.size) ∧ z.cell? ⟨b0, off + kk * 4 + 1, none⟩ = some (.int .i64 oq.x) ∧ z.cell? ⟨b0, off + kk * 4 + 2, none⟩ = some (.int .i64 oq.key)) := Lib.hid fun z hz => by
              obtain ⟨s0, s1, s2, r0, r1, r2, sz⟩ := (HPX.out.call hz).t.cells
              exact ⟨⟨s0, s1, s2, sz⟩, HCC.out z (HPX.out.call hz).t.st.below⟩
            have j1 : (kk : Int) ≤ (n : Int) := by omega
            have j2 : (kk : Int) < (l.length : Int) := by omega
            have j3 : (0 : Int) ≤ (kk : Int) := by omega
            generalize s'.dead oq.x = dd at *
            obtain ⟨oq0, oq1, oq2, oq3⟩ := oq
            dsimp only at *
            clear hoq hgq HCC
            obtain ⟨C, hC, HCc, HCf⟩ := below_class wr
            go_wp2_with fail
            refine region_in C hC (by kernel_rfl) (by kernel_rfl) ?_
            iterate 27
              (refine WQ.step (fun K hK => ?_)
               go_simp
               first
                 | (refine hK _ ?_; clear hK K)
                 | (apply Exists.intro
                    refine ⟨fun z hz => ?_, hK _ ?_⟩
                    · first
                        | rfl
                        | (go_at_call 12; refine (HTD.out z (HCf.out _ hz)).mono ?_; rintro e z2 ⟨rfl, hb⟩; exact ⟨rfl, HCc.out _ _ hz hb⟩)
                        | (go_at_call 13; refine (HDD.out z (HCf.out _ hz)).mono ?_; rintro e z2 ⟨rfl, rfl⟩; exact ⟨rfl, hz⟩)
                        | (go_at_call 14; refine (HII.out z (HCf.out _ hz)).mono ?_; rintro e z2 ⟨rfl, hb⟩; exact ⟨rfl, HCc.out _ _ hz hb⟩)
                        | (obtain ⟨⟨m0, m1, m2, mz⟩, n1, n2⟩ := HMB.out z (HCf.out _ hz); go_simp; rfl)
                    clear hK K))
            refine WQ.nil ?_
            intro wn hw
            have HPN := Lib.hid (HPX.out.call (HCf.out _ hw))
            clear hw hC HCc HCf C HMB HTD HDD HII
            go_wp2_with fail
            go_roundw
            case rel => exact ⟨kk + 1, by omega, by go_num, HPN.out⟩
            case measure => simp [intOf]; omega
          · obtain rfl : kk = n + 1 := by omega
            have j1 : ¬ (((n + 1 : Nat) : Int) ≤ (n : Int)) := by omega
            go_wp2_with fail
            go_roundw
            case rel => exact ⟨n + 1, s', _, _, _, H', W', D', by omega, by omega, by go_num, HPX.out, HGN.out⟩
            case measure => simp [intOf]; omega
      · have i0 : (o0 == 0) = false := by simpa using h0
        have HA := Lib.hid (pdend o1 hx HPO.out (by omega))
        go_wp2_with fail
        refine HA.out.mono ?_
        rintro e w3 ⟨A6, c6, rfl, hp3, hz3, ho6⟩
        clear HA d0 d1 d2 d3 dz
        have HP3 := Lib.hid hp3
        have HO6 := Lib.hid ho6
        have HW3 : Hid (w2.heap.size ≤ w3.heap.size) := Lib.hid hz3
        clear hp3 hz3 ho6
        have HQ3 : Hid (w.heap.size ≤ w3.heap.size ∧ qo < w3.heap.size) := Lib.hid ⟨Nat.le_trans HPO.out.t.st.below.size HW3.out, Nat.lt_of_lt_of_le (HPO.out.t.st.knows.at 0 rfl).lt HW3.out⟩
        obtain ⟨H', W', D', hgo2, hca⟩ := docEndG HPO.out.fine HG2.out h2 w.heap.size (.slice A1 Hd.length c1) (.slice A2 Wt.length c2) (.slice A3 Dd.length c3) o1 w3 HP3.out.t.st.below.size HP3.out.t.hh HP3.out.t.hw HP3.out.t.hd
        have HGN := Lib.hid hgo2
        have HCA2 := Lib.hid hca
        clear hgo2 hca HG2
        generalize endA s o1 = R at *
        generalize (if o1 < 1 then (130 : Int) else 0) = E at *
        generalize endS s o1 = s' at *
        obtain ⟨s0, s1, s2, r0, r1, r2, sz⟩ := HP3.out.t.cells
        have ky := HP3.out.t.st.knows.at 0 rfl
        have d0 := ky.cell 0
        have d1 := ky.cell 1
        have d2 := ky.cell 2
        have d3 := ky.cell 3
        have dz := ky.lt
        simp only [List.getElem?_toArray, List.getElem?_cons_zero, List.getElem?_cons_succ] at d0 d1 d2 d3
        clear ky
        go_wp2_with fail
        refine HCA2.out.mono ?_
        rintro e w5 ⟨B1, e1, B2, e2, B3, e3, A8, c8, rfl, k1, k2, k3, k8, hb⟩
        have HP5 := Lib.hid (HP3.out.call hb)
        have HB5 := Lib.hid hb
        have HK8 := Lib.hid k8
        have HK123 := Lib.hid (show _ ∧ _ ∧ _ from ⟨k1, k2, k3⟩)
        have HO6b := Lib.hid (own_call HO6.out hb)
        clear k1 k2 k3 k8 hb s0 s1 s2 r0 r1 r2 sz d0 d1 d2 d3 dz HCA2
        go_upto_region 17 with fail
        have HP6 := Lib.hid (HP5.out.alloc w5.heap.size rfl 28 #[.slice B1 H'.length e1, .slice B2 W'.length e2, .slice B3 D'.length e3] (by decide))
        have HAL : Hid (Below w5.heap.size w5 (w5.alloc (.cells #[.slice B1 H'.length e1, .slice B2 W'.length e2, .slice B3 D'.length e3] 28))) := Lib.hid ((Below.refl _ _).alloc (Nat.le_refl _) _)
        have HK := Lib.hid (show _ ∧ _ ∧ _ from ⟨own_call HK123.out.1 HAL.out, own_call HK123.out.2.1 HAL.out, own_call HK123.out.2.2 HAL.out⟩)
        have HR8 := Lib.hid (own_call HK8.out HAL.out)
        have HR6 := Lib.hid (own_call HO6b.out HAL.out)
        clear HK123 HK8 HO6b HP5
        generalize hw6 : w5.alloc (.cells #[.slice B1 H'.length e1, .slice B2 W'.length e2, .slice B3 D'.length e3] 28) = w6 at *
        clear hw6 HAL HP3 HPO
        generalize w5.heap.size = q5 at *
        have ky := HP6.out.t.st.knows.at 0 rfl
        have x0 := ky.cell 0
        have x1 := ky.cell 1
        have x2 := ky.cell 2
        have xz := ky.lt
        simp only [List.getElem?_toArray, List.getElem?_cons_zero, List.getElem?_cons_succ] at x0 x1 x2
        clear ky
        obtain ⟨s0, s1, s2, r0, r1, r2, sz⟩ := HP6.out.t.cells
        have HP7 := Lib.hid ((HP6.out.set3 HK.out.1 HK.out.2.1 HK.out.2.2).few' (L' := []) fun r hr => by cases hr)
        have HT8 := Lib.hid (own_set3k HR8.out HP6.out.t.box (by decide) (.slice B1 H'.length e1) (.slice B2 W'.length e2) (.slice B3 D'.length e3))
        have HT6 := Lib.hid (own_set3k HR6.out HP6.out.t.box (by decide) (.slice B1 H'.length e1) (.slice B2 W'.length e2) (.slice B3 D'.length e3))
        go_upto_region 18 with fail
        clear HR8 HR6 HK s0 s1 s2 r0 r1 r2 sz x0 x1 x2 xz HP6
        generalize hw7 : (((w6.setCell ⟨p, 0, none⟩ (.slice B1 H'.length e1)).setCell ⟨p, 1, none⟩ (.slice B2 W'.length e2)).setCell ⟨p, 2, none⟩ (.slice B3 D'.length e3)) = w7 at *
        clear hw7
        have HGR := Lib.hid (rgrants_any A6 c6 A8 c8 R w7 (Sees.own HT6.out) (Sees.own HT8.out) (own_room HT6.out) (own_room HT8.out) (own_small HT6.out))
        go_wp2_with fail
        refine HGR.out.mono ?_
        rintro e w8 ⟨rfl, hb8⟩
        have HPF : Hid (Pd w w8 [] g s' p (.slice B1 H'.length e1) (.slice B2 W'.length e2) (.slice B3 D'.length e3) H' W' D' (n + 1)) := Lib.hid (by
          have h := HP7.out.call hb8
          exact ⟨h.t, h.tab, h.ty, h.fine, Nat.le_succ_of_le h.few⟩)
        clear hb8 HP7 HT8 HT6 HGR
        go_wp2_with fail
        go_loopw [17] (fun j wr => ∃ kk : Nat, kk ≤ n + 1 ∧ j = .int .i64 (kk : Int) ∧ Pd w wr [] g s' p (.slice B1 H'.length e1) (.slice B2 W'.length e2) (.slice B3 D'.length e3) H' W' D' (n + 1)) (fun j _ => n + 1 - (intOf j).toNat)
        case atStart => exact ⟨0, by omega, rfl, HPF.out⟩
        case round =>
          obtain ⟨kk, hkk, rfl, hp⟩ := hrel
          have HPX := Lib.hid hp
          clear hp HPF
          by_cases hk2 : kk < n + 1
          · obtain ⟨oq, hoq⟩ : ∃ oq, l[kk]? = some oq := ⟨_, List.getElem?_eq_getElem (by omega)⟩
            have hgq := HGO.out oq (List.mem_of_getElem? hoq)
            have HCC := Lib.hid (HCA.out kk oq hoq)
            have HTD := Lib.hid (fun z (hz : Below wr.heap.size wr z) => told_any oq.key hgq.key (HPX.out.call hz) HGN.out.h HGN.out.w (by omega) (by have := HGN.out.lh; omega) (by have := HGN.out.lw; omega))
            have HDD := Lib.hid (fun z (hz : Below wr.heap.size wr z) => pddead oq.x hgq.x (HPX.out.call hz))
            have HII := Lib.hid (fun z (hz : Below wr.heap.size wr z) => rin_any B3 e3 D' oq.x z (Sees.own (HPX.out.call hz).t.hd) (by have := HGN.out.ld; omega))
            rw [dead_in HGN.out.d] at HII
            have HMB : Hid (∀ z, Below wr.heap.size wr z → (z.cell? ⟨p, 0, none⟩ = some (.slice B1 H'.length e1) ∧ z.cell? ⟨p, 1, none⟩ = some (.slice B2 W'.length e2) ∧ z.cell? ⟨p, 2, none⟩ = some (.slice B3 D'.length e3) ∧ p < z.heap.size) ∧ z.cell? ⟨b0, off + kk * 4 + 1, none⟩ = some (.int .i64 oq.x) ∧ z.cell? ⟨b0, off + kk * 4 + 2, none⟩ = some (.int .i64 oq.key)) := Lib.hid fun z hz => by
              obtain ⟨s0, s1, s2, r0, r1, r2, sz⟩ := (HPX.out.call hz).t.cells
              exact ⟨⟨s0, s1, s2, sz⟩, HCC.out z (HPX.out.call hz).t.st.below⟩
            have j1 : (kk : Int) ≤ (n : Int) := by omega
            have j2 : (kk : Int) < (l.length : Int) := by omega
            have j3 : (0 : Int) ≤ (kk : Int) := by omega
            generalize s'.dead oq.x = dd at *
            obtain ⟨oq0, oq1, oq2, oq3⟩ := oq
            dsimp only at *
            clear hoq hgq HCC
            obtain ⟨C, hC, HCc, HCf⟩ := below_class wr
            go_wp2_with fail
            refine region_in C hC (by kernel_rfl) (by kernel_rfl) ?_
            iterate 27
              (refine WQ.step (fun K hK => ?_)
               go_simp
               first
                 | (refine hK _ ?_; clear hK K)
                 | (apply Exists.intro
                    refine ⟨fun z hz => ?_, hK _ ?_⟩
                    · first
                        | rfl
                        | (go_at_call 12; refine (HTD.out z (HCf.out _ hz)).mono ?_; rintro e z2 ⟨rfl, hb⟩; exact ⟨rfl, HCc.out _ _ hz hb⟩)
                        | (go_at_call 13; refine (HDD.out z (HCf.out _ hz)).mono ?_; rintro e z2 ⟨rfl, rfl⟩; exact ⟨rfl, hz⟩)
                        | (go_at_call 14; refine (HII.out z (HCf.out _ hz)).mono ?_; rintro e z2 ⟨rfl, hb⟩; exact ⟨rfl, HCc.out _ _ hz hb⟩)
                        | (obtain ⟨⟨m0, m1, m2, mz⟩, n1, n2⟩ := HMB.out z (HCf.out _ hz); go_simp; rfl)
                    clear hK K))
            refine WQ.nil ?_
            intro wn hw
            have HPN := Lib.hid (HPX.out.call (HCf.out _ hw))
            clear hw hC HCc HCf C HMB HTD HDD HII
            go_wp2_with fail
            go_roundw
            case rel => exact ⟨kk + 1, by omega, by go_num, HPN.out⟩
            case measure => simp [intOf]; omega
          · obtain rfl : kk = n + 1 := by omega
            have j1 : ¬ (((n + 1 : Nat) : Int) ≤ (n : Int)) := by omega
            go_wp2_with fail
            go_roundw
            case rel => exact ⟨n + 1, s', _, _, _, H', W', D', by omega, by omega, by go_num, HPX.out, HGN.out⟩
            case measure => simp [intOf]; omega
    · have hend : ((n : Int) < (l.length : Int) ∧ n = 30) ∨ (¬ (n : Int) < (l.length : Int)) := by omega
      clear hlt
      rcases hend with ⟨i1, rfl⟩ | i1
      all_goals
        go_wp2_with fail
        go_ret
        exact ⟨rfl, HP.out.t.st.below⟩

set_option maxRecDepth 100000 in
theorem lifted (os : Os) (started : os.Started) (H : Type) (enc : TypeId × Value → H) :
    ReturnsInHanded {} Try.checked os 3 .any (Rows.locksPlaysSpec.pre6 enc Try.prog Try.f3 Rows.locksPlaysRow.domain false) (Rows.locksPlaysSpec.post enc Try.prog Try.f3 false true false false) := by
  refine returnsInHanded_of_change (C := Try.checked) own started (by kernel_rfl) Try.func3
    (ChangeSpec.witness6 (enc := enc) (C := Try.checked) false ⟨#[], #[.slice none 0 0], []⟩ 8 (by kernel_rfl) (by kernel_rfl) (by kernel_rfl) (by kernel_rfl)) ?_
  intro W base args ds gs before hval0 hW hcnd _
  have hval : ∀ (j : Nat) t v, Try.f3.params[j]? = some t → args[j]? = some v → Value.okWide Try.prog W .any base t v := hval0
  have hW' := hW
  obtain ⟨p, q, hA0, hV, rfl, hfz, hnd⟩ := hW
  have hA : DataW.TrodAll enc Try.prog W 0 (fun _ => true) true Try.f3.params.toList args.toList ds p := hA0
  rw [Try.params3] at hA hval
  obtain ⟨v0, vs0, d0, ds0, p0, q0, hargs, rfl, rfl, h0, r0⟩ := trodAll_cons hA
  obtain ⟨rfl, rfl, rfl⟩ := trodAll_nil r0
  obtain rfl : args = #[v0] := by cases args; simp_all
  obtain ⟨rfl, rfl⟩ := trodVars_none hV
  obtain ⟨A0, len0, cap0, rfl⟩ := okWide_slice Try.underlying22 (hval 0 22 v0 rfl rfl)
  obtain ⟨l0, w0⟩ := open_ops h0
  have lt0 : ∀ x ∈ p0, x.block < W.heap.size := by obtain ⟨m, hm⟩ := h0; exact DataW.trod_lt m _ _ _ hm
  clear hA0 hval0
  simp only [List.append_nil] at hW'
  refine (walk A0 len0 cap0 l0 W w0).mono fun e W' ⟨he, bel⟩ => ?_
  subst he
  exact ⟨_, rfl, _, _, _, [], _, [], hW', trodAll_mk1 (shut_bool Try.underlying4 _), (trodAll_cons_mk (Below.trod laidOut (by kernel_rfl) (of_decide_eq_true (by kernel_rfl)) h0 bel lt0) trodAll_mk0), rfl, bel.frame _, fun h => by cases h⟩

theorem proved : Rows.LocksPlaysSaid :=
  OpenClaim.holds_of_wide 3 Try.f3 rfl rfl rfl rfl rfl rfl rfl ⟨rfl, rfl, rfl, rfl, rfl⟩ rfl rfl rfl rfl rfl (by kernel_rfl) Try.func3 (by kernel_rfl)
    (of_decide_eq_true (by kernel_rfl)) (by unfold Func.isWrapper; first | (rw [if_pos (by decide +kernel)]; kernel_rfl) | (rw [if_neg (by decide +kernel)]; exact ⟨rfl, rfl⟩))
    (fun os started H enc _ => lifted os started H enc)
#print axioms proved
end Go.Proofs.Ytcjefigcaifmeaa.locksPlays
