/- A copy goes its own way, and the same way, if the same is done; for every input, without conditions (of more calls the first 40 are made, and of those that follow the first 40). -/
import Derived.Test.YtmemfbdikinegaaLedP
namespace Go.Proofs.Ytmemfbdikinegaa.ledgerOwn
open Go.ChangeShapes Go.WideShapes Go.ChangeAt Go.RowKit Go.Lk Go.Ld Go.Am
set_option linter.unusedVariables false
set_option linter.unusedSimpArgs false

set_option maxHeartbeats 16000000 in
set_option maxRecDepth 100000 in
theorem walk (x : Nat) (hx : x < 18446744073709551616) (A : Option Addr) (len cap : Nat) (l : List Op14) (A2 : Option Addr) (len2 cap2 : Nat) (l2 : List Op14) (w : World) (hL : IsR w A len cap 4 encO GO l) (hL2 : IsR w A2 len2 cap2 4 encO GO l2) :
    Calls Try.prog 7 #[.float .f64 x, .slice A len cap, .slice A2 len2 cap2] w fun r w' => r = .returned (.bool true) ∧ Below w.heap.size w w' := by
  obtain ⟨hlen, hs, hc1, hc2, hnil, hg⟩ := hL
  subst hlen
  obtain ⟨hlen, hs2, hd1, hd2, hnil2, hg2⟩ := hL2
  subst hlen
  have HS := Lib.hid hs2
  have HGO := Lib.hid hg2
  have HX := Lib.hid hx
  have H0 := Lib.hid (Lp.start w)
  have HM := Lib.hid (made_any x hx A cap l w hs hc1 hc2 hg)
  clear hs hg hnil hx hs2 hg2 hnil2
  go_enter Try.func7, Try.ntmps7
  go_wp2_with fail
  refine HM.out.mono ?_
  rintro e w1 ⟨hb1, h | ⟨g, mb, hr, rfl, hk, h1, h2⟩⟩
  · obtain ⟨-, rfl⟩ := h
    have H1 := Lib.hid (H0.out.call hb1)
    clear hb1 HM H0
    go_wp2_with fail
    refine (awake_any _).mono ?_
    rintro e w2 ⟨rfl, hb⟩
    have H2 := Lib.hid (H1.out.call hb)
    clear hb H1
    go_wp2_with fail
    refine (awake_any _).mono ?_
    rintro e w3 ⟨rfl, hb⟩
    have H3 := Lib.hid (H2.out.call hb)
    clear hb H2
    go_wp2_with fail
    go_ret
    exact ⟨rfl, H3.out.st.below⟩
  · have HP := Lib.hid (H0.out.more hb1 hk h1 h2)
    have hok := mk_ok hr (l.take 40)
    have hll : (l.take 40).length ≤ 40 := by simp; omega
    clear hb1 hk h1 h2 HM H0
    generalize mk x (l.take 40) = f at *
    obtain ⟨hF, htot, hg0, hg1⟩ := hok
    have HF := Lib.hid hF
    have hto : tot f ≤ 40000000000000000 := by omega
    have HTO := Lib.hid hto
    have HRT := Lib.hid hr
    have HSL := Lib.hid (supp_len hF)
    have HRN := Lib.hid (fun k (hk : k ≤ 40) => runs_keep hr hF l2 k hk hto)
    clear hg0 hg1 htot hll hr hF hto
    go_wp2_with fail
    refine (awake_any _).mono ?_
    rintro e w2 ⟨rfl, hb⟩
    have HP2 := Lib.hid (HP.out.call hb)
    clear hb HP
    go_wp2_with fail
    have HC := Lib.hid (copy_any (HP2.out.bk (List.mem_cons_self ..) (List.mem_cons_self ..)) HF.out)
    go_wp2_with fail
    refine HC.out.mono ?_
    rintro e w3 ⟨g2, m2, rfl, hb, hk, h1, h2⟩
    have HP3 := Lib.hid (HP2.out.more hb hk h1 h2)
    clear hb hk h1 h2 HC HP2
    have HC := Lib.hid (list_any (HP3.out.bk (List.mem_cons_of_mem _ (List.mem_cons_self ..)) (List.mem_cons_of_mem _ (List.mem_cons_self ..))) HF.out)
    go_wp2_with fail
    refine HC.out.mono ?_
    rintro e w4 ⟨A4, c4, rfl, hb, ho⟩
    have HP4 := Lib.hid (HP3.out.call hb)
    have HO4 := Lib.hid (own_less0 ho)
    clear hb ho HC HP3
    go_wp2_with fail
    go_loopw [11] (fun i wr => ∃ n : Nat, n ≤ l2.length ∧ n ≤ 40 ∧ i = .int .i64 (n : Int) ∧ Lp w wr [faceR g2 m2 x, faceR g mb x] [(m2, runs x f (l2.take n)), (mb, f)] ∧ wr.ownsRow 0 31 2 (.slice A4 (supp (ent f)).length c4) (supp (ent f)).length (flat (encL (val f)) (supp (ent f)))) (fun i _ => l2.length - (intOf i).toNat)
    case atStart => exact ⟨0, by omega, by omega, rfl, HP4.out, HO4.out⟩
    case round =>
      obtain ⟨n, hn1, hn2, rfl, hp, ho⟩ := hrel
      have HP := Lib.hid hp
      have HO := Lib.hid ho
      clear hp ho HP4 HO4
      by_cases hlt : n < l2.length ∧ n < 40
      · obtain ⟨h1, h2⟩ := hlt
        obtain ⟨o, ho⟩ : ∃ o, l2[n]? = some o := ⟨_, List.getElem?_eq_getElem h1⟩
        obtain ⟨b0, off, rfl, hb0, hcc⟩ := (HS.out.below HP.out.st.below).item encO_len (by omega) n o ho
        have q0 := hcc 0 _ rfl
        have q1 := hcc 1 _ rfl
        have q2 := hcc 2 _ rfl
        have q3 := hcc 3 _ rfl
        rw [Nat.add_zero] at q0
        have i1 : (n : Int) < (l2.length : Int) := by omega
        have i2 : (n : Int) < 40 := by omega
        have hrn := HRN.out n hn2
        have HDO := Lib.hid (does_any o (HGO.out o (List.mem_of_getElem? ho)) (HP.out.bk (List.mem_cons_self ..) (List.mem_cons_self ..)) hrn.1 HX.out HRT.out hrn.2)
        have HSN := Lib.hid (runs_at x f ho)
        rw [← HSN.out] at HDO
        clear hcc ho hrn
        generalize doV x (runs x f (l2.take n)) o = V at *
        generalize doE x (runs x f (l2.take n)) o = E at *
        obtain ⟨k, a, b, m⟩ := o
        dsimp only at *
        go_wp2_with fail
        refine HDO.out.mono ?_
        rintro e w9 ⟨rfl, ho, hk⟩
        have HP9 := Lib.hid (HP.out.put ho hk.mv)
        have HO9 := Lib.hid (own_put14 HO.out (HP.out.maps _ (List.mem_cons_self ..)).1 ho)
        clear ho hk HDO HP
        go_wp2_with fail
        go_roundw
        case rel => exact ⟨n + 1, by omega, by omega, by go_num, HP9.out, HO9.out⟩
        case measure => simp [intOf]; omega
      · have hend : ((n : Int) < (l2.length : Int) ∧ n = 40) ∨ (¬ (n : Int) < (l2.length : Int)) := by omega
        have he : l2.take n = l2.take 40 := take_end hn1 hlt hn2
        rw [he] at HP
        have hrn := HRN.out 40 (Nat.le_refl _)
        have HR4 := Lib.hid hrn
        have HC := Lib.hid (list_any (HP.out.bk (List.mem_cons_self ..) (List.mem_cons_self ..)) hrn.1)
        clear he hrn
        generalize hf2 : runs x f (l2.take 40) = f2 at *
        have HF2 := Lib.hid hf2
        have HL2 := Lib.hid (supp_len HR4.out.1)
        clear hf2
        rcases hend with ⟨i1, rfl⟩ | i1
        all_goals
          clear hlt
          go_wp2_with fail
          refine HC.out.mono ?_
          rintro e w9 ⟨A9, c9, rfl, hb, ho9⟩
          have HB9 := Lib.hid hb
          have hrm := own_room ho9
          have hrn9 := HL2.out
          rcases Ow.start ho9 with hz | ⟨q, cs0, rfl, hq, how⟩
          · have i5 : ¬ (0 : Int) < ((supp (ent f2)).length : Int) := by omega
            clear hb ho9 hz
            go_wp2_with fail
            go_loopw [13] (fun i wy => i = .int .i64 0 ∧ wy = w9) (fun i _ => 0)
            case atStart => exact ⟨rfl, rfl⟩
            case round =>
              obtain ⟨rfl, e9⟩ := hrel
              subst e9
              have HBY := Lib.hid HB9.out
              clear HB9
              have HPY := Lib.hid (HP.out.call HBY.out)
              have HOY := Lib.hid (own_keep0 HO.out HBY.out)
              clear HP HO HBY
              have HC := Lib.hid (list_any (HPY.out.bk (List.mem_cons_of_mem _ (List.mem_cons_self ..)) (List.mem_cons_of_mem _ (List.mem_cons_self ..))) HF.out)
              go_wp2_with fail
              clear i5
              refine HC.out.mono ?_
              rintro e wa ⟨A10, c10, rfl, hb, ho⟩
              have HPA := Lib.hid (HPY.out.call hb)
              have HSM := Lib.hid (rsame_any A10 c10 A4 c4 (val f) (supp (ent f)) wa (Sees.own ho) (Sees.own (own_keep0 HOY.out hb)) (own_room ho) (own_room HOY.out) (by have := HSL.out; omega))
              clear hb ho HC HOY HPY
              go_wp2_with fail
              refine HSM.out.mono ?_
              rintro e wb ⟨rfl, hb⟩
              have HPB := Lib.hid (HPA.out.call hb).swap
              clear hb HSM HPA
              go_wp2_with fail
              go_loopw [14] (fun i wz => ∃ n : Nat, n ≤ l2.length ∧ n ≤ 40 ∧ i = .int .i64 (n : Int) ∧ Lp w wz [faceR g2 m2 x, faceR g mb x] [(mb, runs x f (l2.take n)), (m2, f2)]) (fun i _ => l2.length - (intOf i).toNat)
              case atStart => exact ⟨0, by omega, by omega, rfl, HPB.out⟩
              case round =>
                obtain ⟨n, hn1, hn2, rfl, hp⟩ := hrel
                have HP := Lib.hid hp
                clear hp HPB
                by_cases hlt : n < l2.length ∧ n < 40
                · obtain ⟨h1, h2⟩ := hlt
                  obtain ⟨o, ho⟩ : ∃ o, l2[n]? = some o := ⟨_, List.getElem?_eq_getElem h1⟩
                  obtain ⟨b0, off, rfl, hb0, hcc⟩ := (HS.out.below HP.out.st.below).item encO_len (by omega) n o ho
                  have q0 := hcc 0 _ rfl
                  have q1 := hcc 1 _ rfl
                  have q2 := hcc 2 _ rfl
                  have q3 := hcc 3 _ rfl
                  rw [Nat.add_zero] at q0
                  have i1 : (n : Int) < (l2.length : Int) := by omega
                  have i2 : (n : Int) < 40 := by omega
                  have hrn := HRN.out n hn2
                  have HDO := Lib.hid (does_any o (HGO.out o (List.mem_of_getElem? ho)) (HP.out.bk (List.mem_cons_of_mem _ (List.mem_cons_self ..)) (List.mem_cons_self ..)) hrn.1 HX.out HRT.out hrn.2)
                  have HSN := Lib.hid (runs_at x f ho)
                  rw [← HSN.out] at HDO
                  clear hcc ho hrn
                  generalize doV x (runs x f (l2.take n)) o = V at *
                  generalize doE x (runs x f (l2.take n)) o = E at *
                  obtain ⟨k, a, b, m⟩ := o
                  dsimp only at *
                  go_wp2_with fail
                  refine HDO.out.mono ?_
                  rintro e w9 ⟨rfl, ho, hk⟩
                  have HP9 := Lib.hid (HP.out.put ho hk.mv)
                  clear ho hk HDO HP
                  go_wp2_with fail
                  go_roundw
                  case rel => exact ⟨n + 1, by omega, by omega, by go_num, HP9.out⟩
                  case measure => simp [intOf]; omega
                · have hend : ((n : Int) < (l2.length : Int) ∧ n = 40) ∨ (¬ (n : Int) < (l2.length : Int)) := by omega
                  have he : l2.take n = l2.take 40 := take_end hn1 hlt hn2
                  rw [he, HF2.out] at HP
                  have HFF := Lib.hid HR4.out.1
                  clear he hlt
                  rcases hend with ⟨j1, rfl⟩ | j1
                  all_goals try (exfalso; omega)
                  all_goals
                    have HC := Lib.hid (list_any (HP.out.bk (List.mem_cons_of_mem _ (List.mem_cons_self ..)) (List.mem_cons_self ..)) HFF.out)
                    go_wp2_with fail
                    refine HC.out.mono ?_
                    rintro e wa ⟨A1, c1, rfl, hb, ho⟩
                    have HPA := Lib.hid (HP.out.call hb)
                    have HOA := Lib.hid ho
                    clear hb ho HC
                    have HC := Lib.hid (list_any (HPA.out.bk (List.mem_cons_self ..) (List.mem_cons_of_mem _ (List.mem_cons_self ..))) HFF.out)
                    go_wp2_with fail
                    refine HC.out.mono ?_
                    rintro e wb ⟨A2, c2, rfl, hb, ho⟩
                    have HPB := Lib.hid (HPA.out.call hb)
                    have HS := Lib.hid (rsame_any A1 c1 A2 c2 (val f2) (supp (ent f2)) wb (((Sees.own HOA.out).below hb).more hb.size) (Sees.own ho) (own_room HOA.out) (own_room ho) (by have := HL2.out; omega))
                    clear hb ho HC HOA
                    go_wp2_with fail
                    refine HS.out.mono ?_
                    rintro e wc ⟨rfl, hb⟩
                    have HPC := Lib.hid (HPB.out.call hb)
                    clear hb HS HPB HPA
                    go_wp2_with fail
                    go_ret
                    exact ⟨rfl, HPC.out.st.below⟩
          · have HC1 := Lib.hid how
            have HQ := Lib.hid hq
            clear hb ho9 how hq
            go_wp2_with fail
            go_loopw [13] (fun i wy => ∃ (j : Nat) (cs : Array Value), j ≤ (supp (ent f2)).length ∧ i = .int .i64 (j : Int) ∧ Ow w9 wy q (supp (ent f2)).length cs) (fun i _ => (supp (ent f2)).length - (intOf i).toNat)
            case atStart => exact ⟨0, cs0, by omega, rfl, HC1.out⟩
            case round =>
              obtain ⟨j, cs, hj, rfl, how⟩ := hrel
              have HC2 := Lib.hid how
              clear how HC1
              by_cases hlt : j < (supp (ent f2)).length
              · have j1 : (j : Int) < ((supp (ent f2)).length : Int) := by omega
                obtain ⟨⟨u0, k0⟩, f0, z0⟩ := HC2.out.at (j * 2) (by omega)
                obtain ⟨⟨u1, k1⟩, f1, -⟩ := HC2.out.at (j * 2 + 1) (by omega)
                go_wp2_with fail
                go_roundw
                case rel => exact ⟨j + 1, _, by omega, by go_num, (HC2.out.set _ _).set _ _⟩
                case measure => simp [intOf]; omega
              · obtain rfl : j = (supp (ent f2)).length := by omega
                have HBY := Lib.hid (HB9.out.trans (HC2.out.off.below HB9.out.size fun k hk => by rw [hk]; exact HQ.out))
                clear HB9 HC2
                have HPY := Lib.hid (HP.out.call HBY.out)
                have HOY := Lib.hid (own_keep0 HO.out HBY.out)
                clear HP HO HBY
                have HC := Lib.hid (list_any (HPY.out.bk (List.mem_cons_of_mem _ (List.mem_cons_self ..)) (List.mem_cons_of_mem _ (List.mem_cons_self ..))) HF.out)
                go_wp2_with fail
                refine HC.out.mono ?_
                rintro e wa ⟨A10, c10, rfl, hb, ho⟩
                have HPA := Lib.hid (HPY.out.call hb)
                have HSM := Lib.hid (rsame_any A10 c10 A4 c4 (val f) (supp (ent f)) wa (Sees.own ho) (Sees.own (own_keep0 HOY.out hb)) (own_room ho) (own_room HOY.out) (by have := HSL.out; omega))
                clear hb ho HC HOY HPY
                go_wp2_with fail
                refine HSM.out.mono ?_
                rintro e wb ⟨rfl, hb⟩
                have HPB := Lib.hid (HPA.out.call hb).swap
                clear hb HSM HPA
                go_wp2_with fail
                go_loopw [14] (fun i wz => ∃ n : Nat, n ≤ l2.length ∧ n ≤ 40 ∧ i = .int .i64 (n : Int) ∧ Lp w wz [faceR g2 m2 x, faceR g mb x] [(mb, runs x f (l2.take n)), (m2, f2)]) (fun i _ => l2.length - (intOf i).toNat)
                case atStart => exact ⟨0, by omega, by omega, rfl, HPB.out⟩
                case round =>
                  obtain ⟨n, hn1, hn2, rfl, hp⟩ := hrel
                  have HP := Lib.hid hp
                  clear hp HPB
                  by_cases hlt : n < l2.length ∧ n < 40
                  · obtain ⟨h1, h2⟩ := hlt
                    obtain ⟨o, ho⟩ : ∃ o, l2[n]? = some o := ⟨_, List.getElem?_eq_getElem h1⟩
                    obtain ⟨b0, off, rfl, hb0, hcc⟩ := (HS.out.below HP.out.st.below).item encO_len (by omega) n o ho
                    have q0 := hcc 0 _ rfl
                    have q1 := hcc 1 _ rfl
                    have q2 := hcc 2 _ rfl
                    have q3 := hcc 3 _ rfl
                    rw [Nat.add_zero] at q0
                    have i1 : (n : Int) < (l2.length : Int) := by omega
                    have i2 : (n : Int) < 40 := by omega
                    have hrn := HRN.out n hn2
                    have HDO := Lib.hid (does_any o (HGO.out o (List.mem_of_getElem? ho)) (HP.out.bk (List.mem_cons_of_mem _ (List.mem_cons_self ..)) (List.mem_cons_self ..)) hrn.1 HX.out HRT.out hrn.2)
                    have HSN := Lib.hid (runs_at x f ho)
                    rw [← HSN.out] at HDO
                    clear hcc ho hrn
                    generalize doV x (runs x f (l2.take n)) o = V at *
                    generalize doE x (runs x f (l2.take n)) o = E at *
                    obtain ⟨k, a, b, m⟩ := o
                    dsimp only at *
                    go_wp2_with fail
                    refine HDO.out.mono ?_
                    rintro e w9 ⟨rfl, ho, hk⟩
                    have HP9 := Lib.hid (HP.out.put ho hk.mv)
                    clear ho hk HDO HP
                    go_wp2_with fail
                    go_roundw
                    case rel => exact ⟨n + 1, by omega, by omega, by go_num, HP9.out⟩
                    case measure => simp [intOf]; omega
                  · have hend : ((n : Int) < (l2.length : Int) ∧ n = 40) ∨ (¬ (n : Int) < (l2.length : Int)) := by omega
                    have he : l2.take n = l2.take 40 := take_end hn1 hlt hn2
                    rw [he, HF2.out] at HP
                    have HFF := Lib.hid HR4.out.1
                    clear he hlt
                    rcases hend with ⟨j1, rfl⟩ | j1
                    all_goals try (exfalso; omega)
                    all_goals
                      have HC := Lib.hid (list_any (HP.out.bk (List.mem_cons_of_mem _ (List.mem_cons_self ..)) (List.mem_cons_self ..)) HFF.out)
                      go_wp2_with fail
                      refine HC.out.mono ?_
                      rintro e wa ⟨A1, c1, rfl, hb, ho⟩
                      have HPA := Lib.hid (HP.out.call hb)
                      have HOA := Lib.hid ho
                      clear hb ho HC
                      have HC := Lib.hid (list_any (HPA.out.bk (List.mem_cons_self ..) (List.mem_cons_of_mem _ (List.mem_cons_self ..))) HFF.out)
                      go_wp2_with fail
                      refine HC.out.mono ?_
                      rintro e wb ⟨A2, c2, rfl, hb, ho⟩
                      have HPB := Lib.hid (HPA.out.call hb)
                      have HS := Lib.hid (rsame_any A1 c1 A2 c2 (val f2) (supp (ent f2)) wb (((Sees.own HOA.out).below hb).more hb.size) (Sees.own ho) (own_room HOA.out) (own_room ho) (by have := HL2.out; omega))
                      clear hb ho HC HOA
                      go_wp2_with fail
                      refine HS.out.mono ?_
                      rintro e wc ⟨rfl, hb⟩
                      have HPC := Lib.hid (HPB.out.call hb)
                      clear hb HS HPB HPA
                      go_wp2_with fail
                      go_ret
                      exact ⟨rfl, HPC.out.st.below⟩

set_option maxRecDepth 100000 in
theorem lifted (os : Os) (started : os.Started) (H : Type) (enc : TypeId × Value → H) :
    ReturnsInHanded {} Try.checked os 7 .any (Rows.ledgerOwnSpec.pre6 enc Try.prog Try.f7 Rows.ledgerOwnRow.domain false) (Rows.ledgerOwnSpec.post enc Try.prog Try.f7 false true false false) := by
  refine returnsInHanded_of_change (C := Try.checked) own started (by kernel_rfl) Try.func7
    (ChangeSpec.witness6 (enc := enc) (C := Try.checked) false ⟨#[], #[.float .f64 0, .slice none 0 0, .slice none 0 0], []⟩ 8 (by kernel_rfl) (by kernel_rfl) (by kernel_rfl) (by kernel_rfl)) ?_
  intro W base args ds gs before hval0 hW hcnd _
  have hval : ∀ (j : Nat) t v, Try.f7.params[j]? = some t → args[j]? = some v → Value.okWide Try.prog W .any base t v := hval0
  have hW' := hW
  obtain ⟨p, q, hA0, hV, rfl, hfz, hnd⟩ := hW
  have hA : DataW.TrodAll enc Try.prog W 0 (fun _ => true) true Try.f7.params.toList args.toList ds p := hA0
  rw [Try.params7] at hA hval
  obtain ⟨v0, vs0, d0, ds0, p0, q0, hargs, rfl, rfl, h0, r0⟩ := trodAll_cons hA
  obtain ⟨v1, vs1, d1, ds1, p1, q1, rfl, rfl, rfl, h1, r1⟩ := trodAll_cons r0
  obtain ⟨v2, vs2, d2, ds2, p2, q2, rfl, rfl, rfl, h2, r2⟩ := trodAll_cons r1
  obtain ⟨rfl, rfl, rfl⟩ := trodAll_nil r2
  obtain rfl : args = #[v0, v1, v2] := by cases args; simp_all
  obtain ⟨rfl, rfl⟩ := trodVars_none hV
  obtain ⟨a0, rfl⟩ := okWide_float Try.underlying22 (hval 0 22 v0 rfl rfl)
  have w0 : a0 < 18446744073709551616 := by
    obtain ⟨m, hm⟩ := h0
    obtain ⟨s, hs, hl⟩ := float_of (k := .f64) Try.underlying22 hm
    simp [Value.cells] at hs
    rw [hs]; simpa [Lit.wf] using hl
  have lt0 : ∀ x ∈ p0, x.block < W.heap.size := by obtain ⟨m, hm⟩ := h0; exact DataW.trod_lt m _ _ _ hm
  obtain ⟨A1, len1, cap1, rfl⟩ := okWide_slice Try.underlying23 (hval 1 23 v1 rfl rfl)
  obtain ⟨l1, w1⟩ := open_ops h1
  have lt1 : ∀ x ∈ p1, x.block < W.heap.size := by obtain ⟨m, hm⟩ := h1; exact DataW.trod_lt m _ _ _ hm
  obtain ⟨A2, len2, cap2, rfl⟩ := okWide_slice Try.underlying23 (hval 2 23 v2 rfl rfl)
  obtain ⟨l2, w2⟩ := open_ops h2
  have lt2 : ∀ x ∈ p2, x.block < W.heap.size := by obtain ⟨m, hm⟩ := h2; exact DataW.trod_lt m _ _ _ hm
  clear hA0 hval0
  simp only [List.append_nil] at hW'
  refine (walk a0 w0 A1 len1 cap1 l1 A2 len2 cap2 l2 W w1 w2).mono fun e W' ⟨he, bel⟩ => ?_
  subst he
  exact ⟨_, rfl, _, _, _, [], _, [], hW', trodAll_mk1 (shut_bool Try.underlying4 _), (trodAll_cons_mk (Below.trod laidOut (by kernel_rfl) (of_decide_eq_true (by kernel_rfl)) h0 bel lt0) (trodAll_cons_mk (Below.trod laidOut (by kernel_rfl) (of_decide_eq_true (by kernel_rfl)) h1 bel lt1) (trodAll_cons_mk (Below.trod laidOut (by kernel_rfl) (of_decide_eq_true (by kernel_rfl)) h2 bel lt2) trodAll_mk0))), rfl, bel.frame _, fun h => by cases h⟩

theorem proved : Rows.LedgerOwnSaid :=
  OpenClaim.holds_of_wide 7 Try.f7 rfl rfl rfl rfl rfl rfl rfl ⟨rfl, rfl, rfl, rfl, rfl⟩ rfl rfl rfl rfl rfl (by kernel_rfl) Try.func7 (by kernel_rfl)
    (of_decide_eq_true (by kernel_rfl)) (by unfold Func.isWrapper; first | (rw [if_pos (by decide +kernel)]; kernel_rfl) | (rw [if_neg (by decide +kernel)]; exact ⟨rfl, rfl⟩))
    (fun os started H enc _ => lifted os started H enc)
#print axioms proved
end Go.Proofs.Ytmemfbdikinegaa.ledgerOwn
