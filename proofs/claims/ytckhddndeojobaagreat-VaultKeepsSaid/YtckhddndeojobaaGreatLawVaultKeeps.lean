/- What all accounts have and have paid is what was opened and got, less what was paid out; for every input, without conditions (of more calls the first 40 are made). -/
import Derived.Test.YtckhddndeojobaaGreatVltY
namespace Go.Proofs.YtckhddndeojobaaGreat.vaultKeeps
open Go.ChangeShapes Go.WideShapes Go.ChangeAt Go.RowKit Go.Cn Go.So Go.Vt
set_option linter.unusedVariables false
set_option linter.unusedSimpArgs false

set_option maxHeartbeats 16000000 in
set_option maxRecDepth 100000 in
theorem walk (x : Nat) (hx : x < 18446744073709551616) (A : Option Addr) (len cap : Nat) (l : List Op15) (w : World) (hL : IsR w A len cap 6 encO GO l) :
    Calls Tryz.prog 6 #[.float .f64 x, .slice A len cap] w fun r w' => r = .returned (.bool true) ∧ Below w.heap.size w w' := by
  obtain ⟨hlen, hs, hc1, hc2, hnil, hg⟩ := hL
  subst hlen
  have HN := Lib.hid (vnew_any x hx w)
  have HS := Lib.hid hs
  have HGO := Lib.hid hg
  clear hs hg hnil hx
  go_enter Tryz.func6, Tryz.ntmps6
  go_wp2_with fail
  refine HN.out.mono ?_
  rintro r w1 ⟨hb1, ⟨hr, rfl⟩ | ⟨g, F, hr, rfl, hv, hF⟩⟩
  · have HB := Lib.hid hb1
    clear hb1 hr HN
    go_wp2_with fail
    refine (awake_any _).mono ?_
    rintro e w2 ⟨rfl, hb2⟩
    have HB2 := Lib.hid (HB.out.trans (hb2.mono HB.out.size))
    clear hb2
    go_wp2_with fail
    refine (awake_any _).mono ?_
    rintro e w3 ⟨rfl, hb3⟩
    have HB3 := Lib.hid (HB2.out.trans (hb3.mono HB2.out.size))
    clear hb3
    go_wp2_with fail
    go_ret
    exact ⟨rfl, HB3.out⟩
  have H := Lib.hid (Vp.start hb1 hv hF hr)
  clear hb1 hv hF hr HN
  go_wp2_with fail
  refine (awake_any _).mono ?_
  rintro e w2 ⟨rfl, hb2⟩
  have H2 := Lib.hid (H.out.call hb2)
  clear hb2 H
  have HT0 := Lib.hid (tot_new x)
  generalize newV x = c0 at *
  go_wp2_with fail
  go_loopw [7, 8] (fun sv i wr => ∃ (n : Nat) (c : Vt), n ≤ l.length ∧ n ≤ 40 ∧ sv = .int .i64 (totV c) ∧ i = .int .i64 (n : Int) ∧ Vp w wr g c n (fun _ => False) ∧ totV c ≤ 1000000000000000 * (n : Int)) (fun _ i _ => l.length - (intOf i).toNat)
  case atStart => exact ⟨0, c0, by omega, by omega, by rw [HT0.out], rfl, H2.out, by rw [HT0.out]; simp⟩
  case round =>
    obtain ⟨n, c, hn1, hn2, rfl, rfl, hp, htb⟩ := hrel
    have HP := Lib.hid hp
    have HTN := Lib.hid (tot_nn hp.good)
    have ht1 := tot_nn hp.good
    have ht2 : totV c ≤ 40000000000000000 := by omega
    have HTB := Lib.hid htb
    clear hp H2 htb HT0
    by_cases hlt : n < l.length ∧ n < 40
    · obtain ⟨h1, h2⟩ := hlt
      obtain ⟨o, ho⟩ : ∃ o, l[n]? = some o := ⟨_, List.getElem?_eq_getElem h1⟩
      obtain ⟨b0, off, rfl, hb, hcc⟩ := (HS.out.below HP.out.bel).item encO_len (by omega) n o ho
      have HO := Lib.hid (HGO.out o (List.mem_of_getElem? ho))
      have q0 := hcc 0 _ rfl
      have q1 := hcc 1 _ rfl
      have q2 := hcc 2 _ rfl
      have q3 := hcc 3 _ rfl
      have q4 := hcc 4 _ rfl
      have q5 := hcc 5 _ rfl
      rw [Nat.add_zero] at q0
      have i1 : (n : Int) < (l.length : Int) := by omega
      have i2 : (n : Int) < 40 := by omega
      have ht0 := tot_one HP.out.good (by omega) o
      have HTT : Hid ((oneE c o ≠ 0 → totV (oneV c o) = totV c) ∧ (oneE c o = 0 → o.k = 0 → totV (oneV c o) = totV c + o.n ∧ 0 ≤ o.n ∧ o.n ≤ 1000000000000000) ∧ (o.k ≠ 0 → o.k ≠ 2 → totV (oneV c o) = totV c) ∧ (oneE c o = 0 → o.k = 2 → totV (oneV c o) = totV c + (if o.id ∈ Go.Lk.supp (byId c) then dOf (hvBy c o.id) else 0))) := Lib.hid ⟨ht0.bad, ht0.opn, ht0.other, ht0.com⟩
      clear ht0
      have HGR := Lib.hid (fun id y => gone_range HP.out.good id y)
      have HGS := Lib.hid (fun id y j (h : (Go.Lk.supp (byId c))[y]? = some j) => gone_succ (v := c) id (Go.Lk.supp_rises (byId_fin HP.out.good)) h)
      have HGA := Lib.hid (fun id => gone_all c (Go.Lk.supp (byId c)) id)
      have HGZ := Lib.hid (fun id => gone_zero c (Go.Lk.supp (byId c)) id)
      have HIT := Lib.hid (fun id (h : id ∈ Go.Lk.supp (byId c)) => item_of HP.out.good h)
      have hsl : (Go.Lk.supp (byId c)).length ≤ 1000000 := by
        have h1 := ids_len HP.out.good
        have h2 := HP.out.num.1
        omega
      have HPx := Lib.hid (Vp.more (Y' := fun b => b = wr.heap.size) HP.out ((Below.refl _ _).alloc (Nat.le_refl _) (.cells #[.int .i64 o.k, .int .i64 o.id, .int .i64 o.acc, .int .i64 o.t, .int .i64 o.n, .bool o.pays] 41)) (fun b hb2 => .inr (by subst hb2; simp)))
      have HBX := Lib.hid (Whole.fresh wr 41 #[.int .i64 o.k, .int .i64 o.id, .int .i64 o.acc, .int .i64 o.t, .int .i64 o.n, .bool o.pays])
      obtain ⟨ok, id, oa, ot, nn, op⟩ := o
      dsimp only at *
      clear hcc ho
      go_upto_region 9 with fail
      clear q0 q1 q2 q3 q4 q5 HP
      generalize hwb : wr.alloc (.cells #[.int .i64 ok, .int .i64 id, .int .i64 oa, .int .i64 ot, .int .i64 nn, .bool op] 41) = wb at *
      clear hwb
      generalize wr.heap.size = hk at *
      go_wp2_with fail
      refine (vp_held HPx.out).mono ?_
      rintro r w3 ⟨A3, cap3, rfl, hb3, ho3⟩
      have hroom : (Go.Lk.supp (byId c)).length ≤ cap3 := by
        obtain ⟨_, _, e, h, _⟩ := own_slice0 ho3
        injection e with _ _ e
        omega
      have HP3 := Lib.hid (HPx.out.more (Y' := (fun b => b = hk ∨ ∃ a, A3 = some a ∧ b = a.block)) hb3 fun b hb2 => by
        rcases hb2 with h | ⟨a, ha, hb2⟩
        · exact .inl h
        · have := own_block ho3 ha
          exact .inr ⟨by omega, by omega⟩)
      have HV3 := Lib.hid (Sees.own ho3)
      have HB3 := Lib.hid (HBX.out.below hb3 HBX.out.lt)
      clear hb3 ho3 HPx HBX
      generalize Go.Lk.supp (byId c) = S at *
      have HONE := Lib.hid (one_any ⟨ok, id, oa, ot, nn, op⟩ HO.out HP3.out (by omega))
      have ky := HB3.out
      have k0 := ky.cell 0
      have k1 := ky.cell 1
      have k2 := ky.cell 2
      have k3 := ky.cell 3
      have k4 := ky.cell 4
      have k5 := ky.cell 5
      have kz := ky.lt
      simp only [List.getElem?_toArray, List.getElem?_cons_zero, List.getElem?_cons_succ] at k0 k1 k2 k3 k4 k5
      clear ky
      generalize oneE c ⟨ok, id, oa, ot, nn, op⟩ = E at *
      generalize oneV c ⟨ok, id, oa, ot, nn, op⟩ = v2 at *
      go_wp2_with fail
      refine HONE.out.mono ?_
      rintro r w4 ⟨rfl, hp, hk4⟩
      have HP4 := Lib.hid hp
      have HB4 := Lib.hid (Whole.keep HB3.out hk4 (.inl rfl))
      have HV4 := Lib.hid (sees_keep HV3.out hk4 fun _ a ha => .inr ⟨a, ha, rfl⟩)
      clear hp hk4 HP3 HB3 HV3 HONE k0 k1 k2 k3 k4 k5 kz
      have HPL := Lib.hid (HP4.out.less (Y' := fun _ => False) fun b hb => hb.elim)
      by_cases e0 : E = 0
      · subst e0
        have ky := HB4.out
        have k0 := ky.cell 0
        have k1 := ky.cell 1
        have k4 := ky.cell 4
        have kz := ky.lt
        simp only [List.getElem?_toArray, List.getElem?_cons_zero, List.getElem?_cons_succ] at k0 k1 k4
        clear ky
        by_cases z0 : ok = 0
        · subst z0
          obtain ⟨e1, e2, e3⟩ := HTT.out.2.1 rfl rfl
          have HE1 := Lib.hid e1
          have hb5 := HTB.out
          have hle : totV v2 ≤ 1000000000000000 * ((n + 1 : Nat) : Int) := by rw [e1]; push_cast; omega
          have HLE := Lib.hid hle
          clear e1 hle hb5
          go_wp2_with fail
          go_roundw
          case rel => exact ⟨n + 1, v2, by omega, by omega, by rw [HE1.out], by go_num, HPL.out, HLE.out⟩
          case measure => simp [intOf]; omega
        · have z1 : (ok == 0) = false := by simpa using z0
          by_cases z2 : ok = 2
          · subst z2
            have HE1 := Lib.hid (HTT.out.2.2.2 rfl rfl)
            clear HTT HPL
            go_wp2_with fail
            go_loopw [7, 12] (fun sv j wx => ∃ y : Nat, y ≤ S.length ∧ sv = .int .i64 (totV c + gone c S id y) ∧ j = .int .i64 (y : Int) ∧ Vp w wx g v2 (n + 1) (fun b => b = hk ∨ ∃ a, A3 = some a ∧ b = a.block) ∧ Whole wx hk 41 #[.int .i64 2, .int .i64 id, .int .i64 oa, .int .i64 ot, .int .i64 nn, .bool op] ∧ Sees wx wx.heap.size 6 A3 S.length (flat (encI c) S)) (fun _ j _ => S.length - (intOf j).toNat)
            case atStart => exact ⟨0, by omega, by rw [HGZ.out, Int.add_zero], rfl, HP4.out, HB4.out, HV4.out⟩
            case round =>
              obtain ⟨y, hy, rfl, rfl, hp, hbx, hv⟩ := hrel
              have HP5 := Lib.hid hp
              have HB5 := Lib.hid hbx
              have HV5 := Lib.hid hv
              clear hp hbx hv HP4 HB4 HV4 k0 k1 k4 kz
              have hgr := HGR.out id y
              have ky := HB5.out
              have k1 := ky.cell 1
              have kz := ky.lt
              simp only [List.getElem?_toArray, List.getElem?_cons_zero, List.getElem?_cons_succ] at k1
              clear ky
              by_cases hyl : y < S.length
              · obtain ⟨j, hj⟩ : ∃ j, S[y]? = some j := ⟨_, List.getElem?_eq_getElem hyl⟩
                obtain ⟨q, hq⟩ := HIT.out j (List.mem_of_getElem? hj)
                obtain ⟨b5, off5, rfl, hb5, hcc⟩ := HV5.out.item (encI_len c) (by omega) y j hj
                have r0 := hcc 0 _ rfl
                have r2 := hcc 2 _ rfl
                have r3 := hcc 3 _ rfl
                rw [Nat.add_zero] at r0
                rw [hq.byq] at r2 r3
                have hst := HGS.out id y j hj
                have ham := hq.amt
                have HBY := Lib.hid hq.byq
                have i5 : (y : Int) < (S.length : Int) := by omega
                clear hcc hj hq
                obtain ⟨⟨qi, qa, qn, qp⟩, qt, qf⟩ := q
                dsimp only at *
                by_cases ej : j = id
                · subst j
                  rw [if_pos rfl, HBY.out] at hst
                  unfold dOf at hst
                  dsimp only at hst
                  cases qp with
                  | true =>
                    rw [if_pos rfl] at hst
                    have HST := Lib.hid hst
                    clear hst
                    generalize hgy : gone c S id y = gy at *
                    have HGY := Lib.hid hgy
                    clear hgy
                    obtain ⟨C, hC, HCc, HCf⟩ := HP5.out.class
                    go_upto_region 18 with fail
                    refine region_in C hC (by kernel_rfl) (by kernel_rfl) ?_
                    iterate 17
                      (refine WQ.step (fun K hK => ?_)
                       go_simp
                       first
                         | (refine hK _ ?_; clear hK K)
                         | (apply Exists.intro
                            refine ⟨fun x hx => ?_, hK _ ?_⟩
                            · first
                                | rfl
                                | (have ky := HB5.out.below (HCf.out _ hx).2 HB5.out.lt
                                   have k1 := ky.cell 1
                                   have kz := ky.lt
                                   simp only [List.getElem?_toArray, List.getElem?_cons_zero, List.getElem?_cons_succ] at k1
                                   clear ky
                                   have r0 := ((HCf.out _ hx).2.cell (p := ⟨b5, off5 + y * 6, none⟩) hb5).trans r0
                                   have r3 := ((HCf.out _ hx).2.cell (p := ⟨b5, off5 + y * 6 + 3, none⟩) hb5).trans r3
                                   go_simp
                                   rfl)
                            clear hK K))
                    refine WQ.nil ?_
                    intro wn hw
                    replace r0 := ((HCf.out _ hw).2.cell (p := ⟨b5, off5 + y * 6, none⟩) hb5).trans r0
                    replace r2 := ((HCf.out _ hw).2.cell (p := ⟨b5, off5 + y * 6 + 2, none⟩) hb5).trans r2
                    replace r3 := ((HCf.out _ hw).2.cell (p := ⟨b5, off5 + y * 6 + 3, none⟩) hb5).trans r3
                    replace hb5 := Nat.lt_of_lt_of_le hb5 (HCf.out _ hw).2.size
                    have HV5n := Lib.hid ((HV5.out.below (HCf.out _ hw).2).more (HCf.out _ hw).2.size)
                    have HB5n := Lib.hid (HB5.out.below (HCf.out _ hw).2 HB5.out.lt)
                    have HP5n := Lib.hid (HCf.out _ hw).1
                    clear hw hC HCc HCf C HP5 HB5 HV5 k1 kz
                    have HP5 := HP5n
                    have HB5 := HB5n
                    have HV5 := HV5n
                    clear HP5n HB5n HV5n
                    have k1 := HB5.out.cell 1
                    have kz := HB5.out.lt
                    simp only [List.getElem?_toArray, List.getElem?_cons_zero, List.getElem?_cons_succ] at k1
                    go_wp2_with fail
                    go_roundw
                    case rel => exact ⟨y + 1, by omega, by rw [HST.out]; congr 1; omega, by go_num, HP5.out, HB5.out, HV5.out⟩
                    case measure => simp [intOf]; omega
                  | false =>
                    rw [if_neg (by simp)] at hst
                    have HST := Lib.hid hst
                    clear hst
                    generalize hgy : gone c S id y = gy at *
                    have HGY := Lib.hid hgy
                    clear hgy
                    obtain ⟨C, hC, HCc, HCf⟩ := HP5.out.class
                    go_upto_region 18 with fail
                    refine region_in C hC (by kernel_rfl) (by kernel_rfl) ?_
                    iterate 17
                      (refine WQ.step (fun K hK => ?_)
                       go_simp
                       first
                         | (refine hK _ ?_; clear hK K)
                         | (apply Exists.intro
                            refine ⟨fun x hx => ?_, hK _ ?_⟩
                            · first
                                | rfl
                                | (have ky := HB5.out.below (HCf.out _ hx).2 HB5.out.lt
                                   have k1 := ky.cell 1
                                   have kz := ky.lt
                                   simp only [List.getElem?_toArray, List.getElem?_cons_zero, List.getElem?_cons_succ] at k1
                                   clear ky
                                   have r0 := ((HCf.out _ hx).2.cell (p := ⟨b5, off5 + y * 6, none⟩) hb5).trans r0
                                   have r3 := ((HCf.out _ hx).2.cell (p := ⟨b5, off5 + y * 6 + 3, none⟩) hb5).trans r3
                                   go_simp
                                   rfl)
                            clear hK K))
                    refine WQ.nil ?_
                    intro wn hw
                    replace r0 := ((HCf.out _ hw).2.cell (p := ⟨b5, off5 + y * 6, none⟩) hb5).trans r0
                    replace r2 := ((HCf.out _ hw).2.cell (p := ⟨b5, off5 + y * 6 + 2, none⟩) hb5).trans r2
                    replace r3 := ((HCf.out _ hw).2.cell (p := ⟨b5, off5 + y * 6 + 3, none⟩) hb5).trans r3
                    replace hb5 := Nat.lt_of_lt_of_le hb5 (HCf.out _ hw).2.size
                    have HV5n := Lib.hid ((HV5.out.below (HCf.out _ hw).2).more (HCf.out _ hw).2.size)
                    have HB5n := Lib.hid (HB5.out.below (HCf.out _ hw).2 HB5.out.lt)
                    have HP5n := Lib.hid (HCf.out _ hw).1
                    clear hw hC HCc HCf C HP5 HB5 HV5 k1 kz
                    have HP5 := HP5n
                    have HB5 := HB5n
                    have HV5 := HV5n
                    clear HP5n HB5n HV5n
                    have k1 := HB5.out.cell 1
                    have kz := HB5.out.lt
                    simp only [List.getElem?_toArray, List.getElem?_cons_zero, List.getElem?_cons_succ] at k1
                    obtain ⟨C, hC, HCc, HCf⟩ := HP5.out.class
                    go_upto_region 20 with fail
                    refine region_in C hC (by kernel_rfl) (by kernel_rfl) ?_
                    iterate 9
                      (refine WQ.step (fun K hK => ?_)
                       go_simp
                       first
                         | (refine hK _ ?_; clear hK K)
                         | (apply Exists.intro
                            refine ⟨fun x hx => ?_, hK _ ?_⟩
                            · first
                                | rfl
                                | (have ky := HB5.out.below (HCf.out _ hx).2 HB5.out.lt
                                   have k1 := ky.cell 1
                                   have kz := ky.lt
                                   simp only [List.getElem?_toArray, List.getElem?_cons_zero, List.getElem?_cons_succ] at k1
                                   clear ky
                                   have r0 := ((HCf.out _ hx).2.cell (p := ⟨b5, off5 + y * 6, none⟩) hb5).trans r0
                                   have r3 := ((HCf.out _ hx).2.cell (p := ⟨b5, off5 + y * 6 + 3, none⟩) hb5).trans r3
                                   go_simp
                                   rfl)
                            clear hK K))
                    refine WQ.nil ?_
                    intro wn hw
                    replace r0 := ((HCf.out _ hw).2.cell (p := ⟨b5, off5 + y * 6, none⟩) hb5).trans r0
                    replace r2 := ((HCf.out _ hw).2.cell (p := ⟨b5, off5 + y * 6 + 2, none⟩) hb5).trans r2
                    replace r3 := ((HCf.out _ hw).2.cell (p := ⟨b5, off5 + y * 6 + 3, none⟩) hb5).trans r3
                    replace hb5 := Nat.lt_of_lt_of_le hb5 (HCf.out _ hw).2.size
                    have HV5n := Lib.hid ((HV5.out.below (HCf.out _ hw).2).more (HCf.out _ hw).2.size)
                    have HB5n := Lib.hid (HB5.out.below (HCf.out _ hw).2 HB5.out.lt)
                    have HP5n := Lib.hid (HCf.out _ hw).1
                    clear hw hC HCc HCf C HP5 HB5 HV5 k1 kz
                    have HP5 := HP5n
                    have HB5 := HB5n
                    have HV5 := HV5n
                    clear HP5n HB5n HV5n
                    have k1 := HB5.out.cell 1
                    have kz := HB5.out.lt
                    simp only [List.getElem?_toArray, List.getElem?_cons_zero, List.getElem?_cons_succ] at k1
                    go_wp2_with fail
                    go_roundw
                    case rel => exact ⟨y + 1, by omega, by rw [HST.out]; congr 1; omega, by go_num, HP5.out, HB5.out, HV5.out⟩
                    case measure => simp [intOf]; omega
                · rw [if_neg ej, Int.add_zero] at hst
                  have ej2 : (j == id) = false := by simpa using ej
                  have HST := Lib.hid hst
                  clear hst
                  obtain ⟨C, hC, HCc, HCf⟩ := HP5.out.class
                  go_upto_region 18 with fail
                  refine region_in C hC (by kernel_rfl) (by kernel_rfl) ?_
                  iterate 17
                    (refine WQ.step (fun K hK => ?_)
                     go_simp
                     first
                       | (refine hK _ ?_; clear hK K)
                       | (apply Exists.intro
                          refine ⟨fun x hx => ?_, hK _ ?_⟩
                          · first
                              | rfl
                              | (have ky := HB5.out.below (HCf.out _ hx).2 HB5.out.lt
                                 have k1 := ky.cell 1
                                 have kz := ky.lt
                                 simp only [List.getElem?_toArray, List.getElem?_cons_zero, List.getElem?_cons_succ] at k1
                                 clear ky
                                 have r0 := ((HCf.out _ hx).2.cell (p := ⟨b5, off5 + y * 6, none⟩) hb5).trans r0
                                 have r3 := ((HCf.out _ hx).2.cell (p := ⟨b5, off5 + y * 6 + 3, none⟩) hb5).trans r3
                                 go_simp
                                 rfl)
                          clear hK K))
                  refine WQ.nil ?_
                  intro wn hw
                  replace r0 := ((HCf.out _ hw).2.cell (p := ⟨b5, off5 + y * 6, none⟩) hb5).trans r0
                  replace r2 := ((HCf.out _ hw).2.cell (p := ⟨b5, off5 + y * 6 + 2, none⟩) hb5).trans r2
                  replace r3 := ((HCf.out _ hw).2.cell (p := ⟨b5, off5 + y * 6 + 3, none⟩) hb5).trans r3
                  replace hb5 := Nat.lt_of_lt_of_le hb5 (HCf.out _ hw).2.size
                  have HV5n := Lib.hid ((HV5.out.below (HCf.out _ hw).2).more (HCf.out _ hw).2.size)
                  have HB5n := Lib.hid (HB5.out.below (HCf.out _ hw).2 HB5.out.lt)
                  have HP5n := Lib.hid (HCf.out _ hw).1
                  clear hw hC HCc HCf C HP5 HB5 HV5 k1 kz
                  have HP5 := HP5n
                  have HB5 := HB5n
                  have HV5 := HV5n
                  clear HP5n HB5n HV5n
                  have k1 := HB5.out.cell 1
                  have kz := HB5.out.lt
                  simp only [List.getElem?_toArray, List.getElem?_cons_zero, List.getElem?_cons_succ] at k1
                  obtain ⟨C, hC, HCc, HCf⟩ := HP5.out.class
                  go_upto_region 20 with fail
                  refine region_in C hC (by kernel_rfl) (by kernel_rfl) ?_
                  iterate 9
                    (refine WQ.step (fun K hK => ?_)
                     go_simp
                     first
                       | (refine hK _ ?_; clear hK K)
                       | (apply Exists.intro
                          refine ⟨fun x hx => ?_, hK _ ?_⟩
                          · first
                              | rfl
                              | (have ky := HB5.out.below (HCf.out _ hx).2 HB5.out.lt
                                 have k1 := ky.cell 1
                                 have kz := ky.lt
                                 simp only [List.getElem?_toArray, List.getElem?_cons_zero, List.getElem?_cons_succ] at k1
                                 clear ky
                                 have r0 := ((HCf.out _ hx).2.cell (p := ⟨b5, off5 + y * 6, none⟩) hb5).trans r0
                                 have r3 := ((HCf.out _ hx).2.cell (p := ⟨b5, off5 + y * 6 + 3, none⟩) hb5).trans r3
                                 go_simp
                                 rfl)
                          clear hK K))
                  refine WQ.nil ?_
                  intro wn hw
                  replace r0 := ((HCf.out _ hw).2.cell (p := ⟨b5, off5 + y * 6, none⟩) hb5).trans r0
                  replace r2 := ((HCf.out _ hw).2.cell (p := ⟨b5, off5 + y * 6 + 2, none⟩) hb5).trans r2
                  replace r3 := ((HCf.out _ hw).2.cell (p := ⟨b5, off5 + y * 6 + 3, none⟩) hb5).trans r3
                  replace hb5 := Nat.lt_of_lt_of_le hb5 (HCf.out _ hw).2.size
                  have HV5n := Lib.hid ((HV5.out.below (HCf.out _ hw).2).more (HCf.out _ hw).2.size)
                  have HB5n := Lib.hid (HB5.out.below (HCf.out _ hw).2 HB5.out.lt)
                  have HP5n := Lib.hid (HCf.out _ hw).1
                  clear hw hC HCc HCf C HP5 HB5 HV5 k1 kz
                  have HP5 := HP5n
                  have HB5 := HB5n
                  have HV5 := HV5n
                  clear HP5n HB5n HV5n
                  have k1 := HB5.out.cell 1
                  have kz := HB5.out.lt
                  simp only [List.getElem?_toArray, List.getElem?_cons_zero, List.getElem?_cons_succ] at k1
                  go_wp2_with fail
                  go_roundw
                  case rel => exact ⟨y + 1, by omega, by rw [HST.out], by go_num, HP5.out, HB5.out, HV5.out⟩
                  case measure => simp [intOf]; omega
              · obtain rfl : y = S.length := by omega
                have HPL := Lib.hid (HP5.out.less (Y' := fun _ => False) fun b hb => hb.elim)
                have hga := HGA.out id
                rw [← hga] at HE1
                have hb5 := HTB.out
                have hle : totV v2 ≤ 1000000000000000 * ((n + 1 : Nat) : Int) := by rw [HE1.out]; push_cast; omega
                have HLE := Lib.hid hle
                clear hle hga hb5
                go_wp2_with fail
                go_roundw
                case rel => exact ⟨n + 1, v2, by omega, by omega, by rw [HE1.out], by go_num, HPL.out, HLE.out⟩
                case measure => simp [intOf]; omega
          · have z3 : (ok == 2) = false := by simpa using z2
            have z4 : (ok != 2) = true := by simpa using z2
            have HE1 := Lib.hid (HTT.out.2.2.1 z0 z2)
            have hle : totV v2 ≤ 1000000000000000 * ((n + 1 : Nat) : Int) := by rw [HE1.out]; have := HTB.out; push_cast; omega
            have HLE := Lib.hid hle
            clear hle
            go_wp2_with fail
            go_roundw
            case rel => exact ⟨n + 1, v2, by omega, by omega, by rw [HE1.out], by go_num, HPL.out, HLE.out⟩
            case measure => simp [intOf]; omega
      · have e1 : (E == 0) = false := by simpa using e0
        have e2 : (E != 0) = true := by simpa using e0
        have HE1 := Lib.hid (HTT.out.1 e0)
        have hle : totV v2 ≤ 1000000000000000 * ((n + 1 : Nat) : Int) := by rw [HE1.out]; have := HTB.out; push_cast; omega
        have HLE := Lib.hid hle
        clear hle
        go_wp2_with fail
        go_roundw
        case rel => exact ⟨n + 1, v2, by omega, by omega, by rw [HE1.out], by go_num, HPL.out, HLE.out⟩
        case measure => simp [intOf]; omega
    · have hend : ((n : Int) < (l.length : Int) ∧ n = 40) ∨ (¬ (n : Int) < (l.length : Int)) := by omega
      have HPM := Lib.hid (HP.out.le hn2)
      clear HP HTB
      have HGD := Lib.hid (HPM.out.good)
      have HDS := Lib.hid (Drops.start HPM.out.good)
      have HRI := Lib.hid (Go.Lk.supp_rises (byId_fin HPM.out.good))
      have hsl : (Go.Lk.supp (byId c)).length ≤ 1000000 := by
        have h1 := ids_len HPM.out.good
        have h2 := HPM.out.num.1
        omega
      have HIT := Lib.hid (fun id (h : id ∈ Go.Lk.supp (byId c)) => item_of HPM.out.good h)
      have HHE := Lib.hid (vp_held HPM.out)
      rcases hend with ⟨i1, rfl⟩ | i1
      all_goals
        go_wp2_with fail
        refine HHE.out.mono ?_
        rintro r w3 ⟨A3, cap3, rfl, hb3, ho3⟩
        have hroom : (Go.Lk.supp (byId c)).length ≤ cap3 := by
          obtain ⟨_, _, e, h, _⟩ := own_slice0 ho3
          injection e with _ _ e
          omega
        have HP3 := Lib.hid (HPM.out.more (Y' := fun b => ∃ a, A3 = some a ∧ b = a.block) hb3 fun b ⟨a, ha, hb2⟩ => by
          have := own_block ho3 ha
          exact .inr ⟨by omega, by omega⟩)
        have HV3 := Lib.hid (Sees.own ho3)
        clear hb3 ho3 HPM HHE
        generalize Go.Lk.supp (byId c) = S at *
        generalize hsq : totV c = s at *
        clear hsq
        go_wp2_with fail
        go_loopw [117] (fun i wx => ∃ (y : Nat) (d : Vt), y ≤ S.length ∧ i = .int .i64 (y : Int) ∧ Hid (Drops S s y d) ∧ Vp w wx g d 40 (fun b => ∃ a, A3 = some a ∧ b = a.block) ∧ Sees wx wx.heap.size 6 A3 S.length (flat (encI c) S)) (fun i _ => S.length - (intOf i).toNat)
        case atStart => exact ⟨0, c, by omega, rfl, HDS, HP3.out, HV3.out⟩
        case round =>
          obtain ⟨y, d, hy, rfl, HD, hp, hv⟩ := hrel
          have HP4 := Lib.hid hp
          have HV4 := Lib.hid hv
          clear hp hv HDS HP3 HV3
          by_cases hyl : y < S.length
          · obtain ⟨j, hj⟩ : ∃ j, S[y]? = some j := ⟨_, List.getElem?_eq_getElem hyl⟩
            obtain ⟨q, hq⟩ := HIT.out j (List.mem_of_getElem? hj)
            have h64 : W64 j := by
              refine HP4.out.key (id := j) ?_
              have hl := List.getElem?_eq_some_iff.1 hj
              have := HD.out.is_ j (by rw [List.drop_eq_getElem_cons hl.1, hl.2]; exact List.mem_cons_self ..)
              rw [fate_some (v := d) (id := j) (by rw [this]; decide)]
              rfl
            obtain ⟨hd0, hd1⟩ := Drops.step HP4.out.good HD.out HRI.out hj
            have HD1 := Lib.hid hd1
            obtain ⟨b5, off5, rfl, hb5, hcc⟩ := HV4.out.item (encI_len c) (by omega) y j hj
            have r0 := hcc 0 _ rfl
            have r1 := hcc 1 _ rfl
            have r2 := hcc 2 _ rfl
            have r3 := hcc 3 _ rfl
            have r4 := hcc 4 _ rfl
            have r5 := hcc 5 _ rfl
            rw [Nat.add_zero] at r0
            rw [hq.byq] at r1 r2 r3 r4 r5
            have i5 : (y : Int) < (S.length : Int) := by omega
            clear hcc hj hq hd1
            obtain ⟨⟨qi, qa, qn, qp⟩, qt, qf⟩ := q
            dsimp only at *
            have HP5 := Lib.hid (Vp.more (Y' := fun b => (∃ a, some (⟨b5, off5, none⟩ : Addr) = some a ∧ b = a.block) ∨ b = wr.heap.size) HP4.out ((Below.refl _ _).alloc (Nat.le_refl _) (.cells #[.int .i64 j, .int .i64 qa, .int .i64 qn, .bool qp, .int .i64 qt, .int .i64 qf] 54)) (fun b hb2 => by
              rcases hb2 with h | h
              · exact .inl h
              · exact .inr (by subst h; simp)))
            have HBX := Lib.hid (Whole.fresh wr 54 #[.int .i64 j, .int .i64 qa, .int .i64 qn, .bool qp, .int .i64 qt, .int .i64 qf])
            have HV5 := Lib.hid ((HV4.out.alloc (Nat.le_refl _) (.cells #[.int .i64 j, .int .i64 qa, .int .i64 qn, .bool qp, .int .i64 qt, .int .i64 qf] 54)).more (show wr.heap.size ≤ (wr.alloc (.cells #[.int .i64 j, .int .i64 qa, .int .i64 qn, .bool qp, .int .i64 qt, .int .i64 qf] 54)).heap.size by simp))
            go_upto_region 25 with fail
            clear r0 r1 r2 r3 r4 r5 HP4 HV4
            generalize hwb : wr.alloc (.cells #[.int .i64 j, .int .i64 qa, .int .i64 qn, .bool qp, .int .i64 qt, .int .i64 qf] 54) = wb at *
            clear hwb
            generalize wr.heap.size = hk at *
            have k0 := HBX.out.cell 0
            have kz := HBX.out.lt
            simp only [List.getElem?_toArray, List.getElem?_cons_zero, List.getElem?_cons_succ] at k0
            have HDR := Lib.hid (vp_drop j h64 HP5.out)
            rw [hd0] at HDR
            go_wp2_with fail
            refine HDR.out.mono ?_
            rintro r w6 ⟨rfl, hp6, hk6⟩
            have HP6 := Lib.hid (hp6.less (Y' := fun b => ∃ a, some (⟨b5, off5, none⟩ : Addr) = some a ∧ b = a.block) fun b hb2 => .inl hb2)
            have HV6 := Lib.hid (sees_keep HV5.out hk6 fun _ a ha => .inl ⟨a, ha, rfl⟩)
            clear hp6 hk6 HDR k0 kz
            go_wp2_with fail
            go_roundw
            case rel => exact ⟨y + 1, _, by omega, by go_num, HD1, HP6.out, HV6.out⟩
            case measure => simp [intOf]; omega
          · obtain rfl : y = S.length := by omega
            have hcl := Drops.close HD.out
            obtain ⟨e1, e2⟩ := closed_snap HP4.out.good hcl
            have htot := tot_close (v := d) 1125899906842624
            rw [HD.out.tot] at htot
            have hsm := snap_tot (HP4.out.good.close 1125899906842624) e1 e2
            have hps := snap_pos (HP4.out.good.close 1125899906842624) e1 e2
            have hsl2 : (snapL (closeV d 1125899906842624).s 1125899906842624).length ≤ 8192 := snap_len _ _
            have hsn : snapS (closeV d 1125899906842624).s 1125899906842624 = snapL (closeV d 1125899906842624).s 1125899906842624 := by unfold snapS; rw [if_pos e1]
            rw [htot] at hsm
            have HCLO := Lib.hid (vp_close 1125899906842624 (HP4.out.less (Y' := fun _ => False) fun b hb => hb.elim))
            rw [hcl] at HCLO
            clear hcl htot HD HV4 HP4 e2
            generalize closeV d 1125899906842624 = f at *
            have HSM := Lib.hid hsm
            have HPS := Lib.hid hps
            have HE1 := Lib.hid e1
            have HSN := Lib.hid hsn
            clear hsm hps e1 hsn
            go_wp2_with fail
            refine HCLO.out.mono ?_
            rintro r w7 ⟨rfl, hp7, -⟩
            have HP7 := Lib.hid hp7
            have HSP := Lib.hid (vp_snap 1125899906842624 hp7)
            rw [HE1.out, HSN.out] at HSP
            clear hp7 HCLO HE1 HSN
            generalize snapL f.s 1125899906842624 = R at *
            go_wp2_with fail
            refine HSP.out.mono ?_
            rintro r w8 ⟨A8, cap8, rfl, hb8, ho8⟩
            have hroom8 : R.length ≤ cap8 := by
              obtain ⟨_, _, e, h, _⟩ := own_slice0 ho8
              injection e with _ _ e
              omega
            have HB8 := Lib.hid (HP7.out.bel.trans (hb8.mono HP7.out.bel.size))
            have HV8 := Lib.hid (Sees.own ho8)
            have HSL := Lib.hid (fun k => sumTo_le (l := R) (fun e he => (HPS.out e he).1) k)
            have HSE : Hid (sumTo R R.length = s) := Lib.hid (by unfold sumTo; rw [List.take_length]; exact HSM.out)
            rw [HSM.out] at HSL
            clear hb8 ho8 HP7 HSP HSM
            go_wp2_with fail
            go_loopw [17, 18] (fun nv i wy => ∃ k : Nat, k ≤ R.length ∧ nv = .int .i64 (sumTo R k) ∧ i = .int .i64 (k : Int) ∧ Below w8.heap.size w8 wy) (fun _ i _ => R.length - (intOf i).toNat)
            case atStart => exact ⟨0, by omega, rfl, rfl, Below.refl _ _⟩
            case round =>
              obtain ⟨k, hkl, rfl, rfl, hby⟩ := hrel
              have HBY := Lib.hid hby
              have hsb := HSL.out k
              clear hby
              by_cases hlk : k < R.length
              · obtain ⟨e, he⟩ : ∃ e, R[k]? = some e := ⟨_, List.getElem?_eq_getElem hlk⟩
                have hpos := HPS.out e (List.mem_of_getElem? he)
                have HSS := Lib.hid (sumTo_succ he)
                obtain ⟨b9, off9, rfl, hb9, hcc⟩ := (HV8.out.below HBY.out).item encE_len (by omega) k e he
                have r1 := hcc 1 _ rfl
                have i9 : (k : Int) < (R.length : Int) := by omega
                have hsb2 := HSL.out (k + 1)
                rw [HSS.out] at hsb2
                obtain ⟨ek, ev⟩ := e
                dsimp only at *
                have g9 : ¬ ev < 0 := by omega
                clear hcc he
                generalize sumTo R k = sk at *
                go_wp2_with fail
                go_roundw
                case rel => exact ⟨k + 1, by omega, by rw [HSS.out], by go_num, HBY.out⟩
                case measure => simp [intOf]; omega
              · obtain rfl : k = R.length := by omega
                rw [HSE.out]
                go_wp2_with fail
                go_ret
                exact ⟨rfl, HB8.out.trans (HBY.out.mono HB8.out.size)⟩

set_option maxRecDepth 100000 in
theorem lifted (os : Os) (started : os.Started) (H : Type) (enc : TypeId × Value → H) :
    ReturnsInHanded {} Tryz.checked os 6 .any (Rows.vaultKeepsSpec.pre6 enc Tryz.prog Tryz.f6 Rows.vaultKeepsRow.domain false) (Rows.vaultKeepsSpec.post enc Tryz.prog Tryz.f6 false true false false) := by
  refine returnsInHanded_of_change (C := Tryz.checked) own started (by kernel_rfl) Tryz.func6
    (ChangeSpec.witness6 (enc := enc) (C := Tryz.checked) false ⟨#[], #[.float .f64 0, .slice none 0 0], []⟩ 8 (by kernel_rfl) (by kernel_rfl) (by kernel_rfl) (by kernel_rfl)) ?_
  intro W base args ds gs before hval0 hW hcnd _
  have hval : ∀ (j : Nat) t v, Tryz.f6.params[j]? = some t → args[j]? = some v → Value.okWide Tryz.prog W .any base t v := hval0
  have hW' := hW
  obtain ⟨p, q, hA0, hV, rfl, hfz, hnd⟩ := hW
  have hA : DataW.TrodAll enc Tryz.prog W 0 (fun _ => true) true Tryz.f6.params.toList args.toList ds p := hA0
  rw [Tryz.params6] at hA hval
  obtain ⟨v0, vs0, d0, ds0, p0, q0, hargs, rfl, rfl, h0, r0⟩ := trodAll_cons hA
  obtain ⟨v1, vs1, d1, ds1, p1, q1, rfl, rfl, rfl, h1, r1⟩ := trodAll_cons r0
  obtain ⟨rfl, rfl, rfl⟩ := trodAll_nil r1
  obtain rfl : args = #[v0, v1] := by cases args; simp_all
  obtain ⟨rfl, rfl⟩ := trodVars_none hV
  obtain ⟨a0, rfl⟩ := okWide_float Tryz.underlying22 (hval 0 22 v0 rfl rfl)
  have w0 : a0 < 18446744073709551616 := by
    obtain ⟨m, hm⟩ := h0
    obtain ⟨s, hs, hl⟩ := float_of (k := .f64) Tryz.underlying22 hm
    simp [Value.cells] at hs
    rw [hs]; simpa [Lit.wf] using hl
  have lt0 : ∀ x ∈ p0, x.block < W.heap.size := by obtain ⟨m, hm⟩ := h0; exact DataW.trod_lt m _ _ _ hm
  obtain ⟨A1, len1, cap1, rfl⟩ := okWide_slice Tryz.underlying23 (hval 1 23 v1 rfl rfl)
  obtain ⟨l1, w1⟩ := open_ops h1
  have lt1 : ∀ x ∈ p1, x.block < W.heap.size := by obtain ⟨m, hm⟩ := h1; exact DataW.trod_lt m _ _ _ hm
  clear hA0 hval0
  simp only [List.append_nil] at hW'
  refine (walk a0 w0 A1 len1 cap1 l1 W w1).mono fun e W' ⟨he, bel⟩ => ?_
  subst he
  exact ⟨_, rfl, _, _, _, [], _, [], hW', trodAll_mk1 (shut_bool Tryz.underlying4 _), (trodAll_cons_mk (Below.trod laidOut (by kernel_rfl) (of_decide_eq_true (by kernel_rfl)) h0 bel lt0) (trodAll_cons_mk (Below.trod laidOut (by kernel_rfl) (of_decide_eq_true (by kernel_rfl)) h1 bel lt1) trodAll_mk0)), rfl, bel.frame _, fun h => by cases h⟩

theorem proved : Rows.VaultKeepsSaid :=
  OpenClaim.holds_of_wide 6 Tryz.f6 rfl rfl rfl rfl rfl rfl rfl ⟨rfl, rfl, rfl, rfl, rfl⟩ rfl rfl rfl rfl rfl (by kernel_rfl) Tryz.func6 (by kernel_rfl)
    (of_decide_eq_true (by kernel_rfl)) (by unfold Func.isWrapper; first | (rw [if_pos (by decide +kernel)]; kernel_rfl) | (rw [if_neg (by decide +kernel)]; exact ⟨rfl, rfl⟩))
    (fun os started H enc _ => lifted os started H enc)
#print axioms proved
end Go.Proofs.YtckhddndeojobaaGreat.vaultKeeps
