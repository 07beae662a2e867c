/- A move changes its two accounts by its amount and its charge, and no other one, and one that is refused changes nothing; for every input, without conditions (of more calls the first 40 are made). -/
import Derived.Test.YtmemfbdikinegaaLedN
namespace Go.Proofs.Ytmemfbdikinegaa.ledgerMoves
open Go.ChangeShapes Go.WideShapes Go.ChangeAt Go.RowKit Go.Lk Go.Ld Go.Am
set_option linter.unusedVariables false
set_option linter.unusedSimpArgs false

set_option maxHeartbeats 16000000 in
set_option maxRecDepth 100000 in
theorem walk (x : Nat) (hx : x < 18446744073709551616) (A : Option Addr) (len cap : Nat) (l : List Op14) (o : Op14) (ho : GO o) (w : World) (hL : IsR w A len cap 4 encO GO l) :
    Calls Try.prog 4 #[.float .f64 x, .slice A len cap, aggO o] w fun r w' => r = .returned (.bool true) ∧ Below w.heap.size w w' := by
  obtain ⟨hlen, hs, hc1, hc2, hnil, hg⟩ := hL
  subst hlen
  obtain ⟨k0, a, b, n⟩ := o
  obtain ⟨-, ha64, hb64, hn64⟩ := ho
  dsimp only at ha64 hb64 hn64
  have H0 := Lib.hid ((Lp.start w).alloc w.heap.size rfl 35 #[.int .i64 k0, .int .i64 a, .int .i64 b, .int .i64 n])
  have HS := Lib.hid hs
  have HGO := Lib.hid hg
  have HX := Lib.hid hx
  have HW := Lib.hid (show _ ∧ _ ∧ _ from ⟨ha64, hb64, hn64⟩)
  have HM := Lib.hid (made_any x hx A cap l _ ((hs.below H0.out.st.below).more H0.out.st.below.size) hc1 hc2 hg)
  clear hs hg hnil hx ha64 hb64 hn64
  go_enter Try.func4, Try.ntmps4
  go_wp2_with fail
  refine HM.out.mono ?_
  rintro e w1 ⟨hb1, h | ⟨g, mb, hr, rfl, hk, h1, h2⟩⟩
  · obtain ⟨-, rfl⟩ := h
    have H1 := Lib.hid (H0.out.call hb1)
    clear hb1 HM H0
    go_wp2_with fail
    refine (awake_any _).mono ?_
    rintro e w2 ⟨rfl, hb⟩
    have H2 := Lib.hid (H1.out.call hb)
    clear hb H1
    go_wp2_with fail
    refine (awake_any _).mono ?_
    rintro e w3 ⟨rfl, hb⟩
    have H3 := Lib.hid (H2.out.call hb)
    clear hb H2
    go_wp2_with fail
    go_ret
    exact ⟨rfl, H3.out.st.below⟩
  · have HP := Lib.hid (H0.out.more hb1 hk h1 h2)
    have hok := mk_ok hr (l.take 40)
    have hll : (l.take 40).length ≤ 40 := by simp; omega
    clear hb1 hk h1 h2 HM H0
    generalize mk x (l.take 40) = f at *
    obtain ⟨hF, htot, hg0, hg1⟩ := hok
    have HF := Lib.hid hF
    have hto : tot f ≤ 8000000000000000000 := by omega
    have HTO := Lib.hid hto
    have HRT := Lib.hid hr
    have HSL := Lib.hid (supp_len hF)
    have HTP := Lib.hid (fun a (p : Pu) (e : f a = some p) => (show _ ∧ _ ∧ _ from ⟨hF.has a p e, hF.paid a p e, Int.le_trans (hF.le e) hto⟩))
    clear hg0 hg1 htot hll hr hF hto
    go_wp2_with fail
    refine (awake_any _).mono ?_
    rintro e w2 ⟨rfl, hb⟩
    have HP2 := Lib.hid (HP.out.call hb)
    clear hb HP
    go_wp2_with fail
    have HC := Lib.hid (copy_any (HP2.out.bk (List.mem_cons_self ..) (List.mem_cons_self ..)) HF.out)
    go_wp2_with fail
    refine HC.out.mono ?_
    rintro e w3 ⟨g2, m2, rfl, hb, hk, h1, h2⟩
    have HP3 := Lib.hid (HP2.out.more hb hk h1 h2)
    clear hb hk h1 h2 HC HP2
    have kk := HP3.out.st.knows.at 2 rfl
    have e1 := kk.cell 1
    have e2 := kk.cell 2
    have e3 := kk.cell 3
    have ez := kk.lt
    clear kk
    simp only [List.getElem?_toArray, List.getElem?_cons_zero, List.getElem?_cons_succ] at e1 e2 e3
    have HC := Lib.hid (move_any a b n HW.out.1 HW.out.2.1 HW.out.2.2 (HP3.out.bk (List.mem_cons_of_mem _ (List.mem_cons_self ..)) (List.mem_cons_of_mem _ (List.mem_cons_self ..))) HF.out HX.out HRT.out HTO.out)
    by_cases hE : moveE x f a b n = 0
    · obtain ⟨p, q, hp, hq, hpa, hqb, hv, -, -, hi, hi1, hi2⟩ := move_at hE
      have HOT := Lib.hid (fun c => move_other (x := x) (f := f) (a := a) (b := b) (n := n) (c := c))
      have HFF := Lib.hid (HF.out.moves HRT.out a b n)
      rw [hE, hv] at HC
      obtain ⟨hf0, hf1, -⟩ := fee_in HRT.out hi
      obtain ⟨hn0, hn1⟩ := (isA_iff n).1 hi
      generalize moveF x f a b n = f' at *
      generalize feeV n x = V at *
      clear hE hi hv
      obtain ⟨hp1, hp2, hp3⟩ := HTP.out a p hp
      obtain ⟨hq1, hq2, hq3⟩ := HTP.out b q hq
      obtain ⟨ph, pp⟩ := p
      obtain ⟨qh, qp⟩ := q
      dsimp only at *
      have HA := Lib.hid (show _ ∧ _ ∧ _ ∧ _ from ⟨hp, hq, hpa, hqb⟩)
      clear hp hq hpa hqb
      go_wp2_with fail
      refine HC.out.mono ?_
      rintro e w4 ⟨rfl, ho, hk⟩
      have HP4 := Lib.hid (HP3.out.swap.put ho hk.mv)
      clear ho hk HC HP3 e1 e2 e3 ez
      have kk := HP4.out.st.knows.at 2 rfl
      have e1 := kk.cell 1
      have e2 := kk.cell 2
      have e3 := kk.cell 3
      have ez := kk.lt
      clear kk
      simp only [List.getElem?_toArray, List.getElem?_cons_zero, List.getElem?_cons_succ] at e1 e2 e3
      have HC := Lib.hid (has_any a HW.out.1 (HP4.out.bk (List.mem_cons_self ..) (List.mem_cons_of_mem _ (List.mem_cons_self ..))))
      rw [HA.out.1] at HC
      simp only [Option.getD_some, Option.isSome_some] at HC
      go_wp2_with fail
      refine HC.out.mono ?_
      rintro e w5 ⟨rfl, hb⟩
      have HP5 := Lib.hid (HP4.out.call hb)
      clear hb HC HP4 e1 e2 e3 ez
      have kk := HP5.out.st.knows.at 2 rfl
      have e1 := kk.cell 1
      have e2 := kk.cell 2
      have e3 := kk.cell 3
      have ez := kk.lt
      clear kk
      simp only [List.getElem?_toArray, List.getElem?_cons_zero, List.getElem?_cons_succ] at e1 e2 e3
      have HC := Lib.hid (has_any b HW.out.2.1 (HP5.out.bk (List.mem_cons_self ..) (List.mem_cons_of_mem _ (List.mem_cons_self ..))))
      rw [HA.out.2.1] at HC
      simp only [Option.getD_some, Option.isSome_some] at HC
      go_wp2_with fail
      refine HC.out.mono ?_
      rintro e w6 ⟨rfl, hb⟩
      have HP6 := Lib.hid (HP5.out.call hb)
      clear hb HC HP5 e1 e2 e3 ez
      have kk := HP6.out.st.knows.at 2 rfl
      have e1 := kk.cell 1
      have e2 := kk.cell 2
      have e3 := kk.cell 3
      have ez := kk.lt
      clear kk
      simp only [List.getElem?_toArray, List.getElem?_cons_zero, List.getElem?_cons_succ] at e1 e2 e3
      have HC := Lib.hid (has_any a HW.out.1 (HP6.out.bk (List.mem_cons_of_mem _ (List.mem_cons_self ..)) (List.mem_cons_self ..)))
      rw [HA.out.2.2.1] at HC
      simp only [Option.getD_some, Option.isSome_some] at HC
      go_wp2_with fail
      refine HC.out.mono ?_
      rintro e w7 ⟨rfl, hb⟩
      have HP7 := Lib.hid (HP6.out.call hb)
      clear hb HC HP6 e1 e2 e3 ez
      have kk := HP7.out.st.knows.at 2 rfl
      have e1 := kk.cell 1
      have e2 := kk.cell 2
      have e3 := kk.cell 3
      have ez := kk.lt
      clear kk
      simp only [List.getElem?_toArray, List.getElem?_cons_zero, List.getElem?_cons_succ] at e1 e2 e3
      have HC := Lib.hid (has_any b HW.out.2.1 (HP7.out.bk (List.mem_cons_of_mem _ (List.mem_cons_self ..)) (List.mem_cons_self ..)))
      rw [HA.out.2.2.2] at HC
      simp only [Option.getD_some, Option.isSome_some] at HC
      go_wp2_with fail
      refine HC.out.mono ?_
      rintro e w8 ⟨rfl, hb⟩
      have HP8 := Lib.hid (HP7.out.call hb)
      clear hb HC HP7 e1 e2 e3 ez
      have HPP := Lib.hid (fun (z : World) (hz : Below w8.heap.size w8 z) => HP8.out.call hz)
      have HPW := Lib.hid (fun (z : World) (hz : Below w8.heap.size w8 z) (c : Int) (hc : W64 c) => paid_any c hc ((HPP.out z hz).bk (List.mem_cons_self ..) (List.mem_cons_of_mem _ (List.mem_cons_self ..))))
      have HPC := Lib.hid (fun (z : World) (hz : Below w8.heap.size w8 z) (c : Int) (hc : W64 c) => paid_any c hc ((HPP.out z hz).bk (List.mem_cons_of_mem _ (List.mem_cons_self ..)) (List.mem_cons_self ..)))
      have HWa := Lib.hid (fun z hz => HPW.out z hz a HW.out.1)
      have HWb := Lib.hid (fun z hz => HPW.out z hz b HW.out.2.1)
      have HCa := Lib.hid (fun z hz => HPC.out z hz a HW.out.1)
      have HCb := Lib.hid (fun z hz => HPC.out z hz b HW.out.2.1)
      rw [HA.out.1] at HWa
      rw [HA.out.2.1] at HWb
      rw [HA.out.2.2.1] at HCa
      rw [HA.out.2.2.2] at HCb
      simp only [Option.getD_some] at HWa HWb HCa HCb
      have g1 : (V < 0) = False := by simp; omega
      have g2 : (V > n) = False := by simp; omega
      have hw1 : IntKind.i64.wrap (ph - n) = ph - n := by rw [IntKind.wrap_i64]; omega
      have hw2 : IntKind.i64.wrap (ph - n - V) = ph - n - V := by rw [IntKind.wrap_i64]; omega
      have hw3 : IntKind.i64.wrap (pp + V) = pp + V := by rw [IntKind.wrap_i64]; omega
      have hw4 : IntKind.i64.wrap (qh + n) = qh + n := by rw [IntKind.wrap_i64]; omega
      obtain ⟨C, hC, HCc, HCf⟩ := below_class w8
      go_wp2_with fail
      refine region_in C hC (by kernel_rfl) (by kernel_rfl) ?_
      iterate 38
        (refine WQ.step (fun K hK => ?_)
         go_simp
         first
           | (refine hK _ ?_; clear hK K)
           | (apply Exists.intro
              refine ⟨fun x1 hx1 => ?_, hK _ ?_⟩
              · first
                  | rfl
                  | (have kk := (HPP.out _ (HCf.out _ hx1)).st.knows.at 2 rfl
                     have e1 := kk.cell 1
                     have e2 := kk.cell 2
                     have e3 := kk.cell 3
                     have ez := kk.lt
                     clear kk
                     simp only [List.getElem?_toArray, List.getElem?_cons_zero, List.getElem?_cons_succ] at e1 e2 e3
                     go_simp
                     rfl)
              clear hK K))
      iterate 1
        (refine WQ.step (fun K hK => ?_)
         go_simp
         first
           | (refine hK _ ?_; clear hK K)
           | (apply Exists.intro
              refine ⟨fun x1 hx1 => ?_, hK _ ?_⟩
              · (go_at_call 16; refine (HCa.out _ (HCf.out _ hx1)).mono ?_; rintro e x2 ⟨rfl, rfl⟩; exact ⟨rfl, hx1⟩)
              clear hK K))
      iterate 3
        (refine WQ.step (fun K hK => ?_)
         go_simp
         first
           | (refine hK _ ?_; clear hK K)
           | (apply Exists.intro
              refine ⟨fun x1 hx1 => ?_, hK _ ?_⟩
              · first
                  | rfl
                  | (have kk := (HPP.out _ (HCf.out _ hx1)).st.knows.at 2 rfl
                     have e1 := kk.cell 1
                     have e2 := kk.cell 2
                     have e3 := kk.cell 3
                     have ez := kk.lt
                     clear kk
                     simp only [List.getElem?_toArray, List.getElem?_cons_zero, List.getElem?_cons_succ] at e1 e2 e3
                     go_simp
                     rfl)
              clear hK K))
      iterate 1
        (refine WQ.step (fun K hK => ?_)
         go_simp
         first
           | (refine hK _ ?_; clear hK K)
           | (apply Exists.intro
              refine ⟨fun x1 hx1 => ?_, hK _ ?_⟩
              · (go_at_call 16; refine (HWa.out _ (HCf.out _ hx1)).mono ?_; rintro e x2 ⟨rfl, rfl⟩; exact ⟨rfl, hx1⟩)
              clear hK K))
      iterate 8
        (refine WQ.step (fun K hK => ?_)
         go_simp
         first
           | (refine hK _ ?_; clear hK K)
           | (apply Exists.intro
              refine ⟨fun x1 hx1 => ?_, hK _ ?_⟩
              · first
                  | rfl
                  | (have kk := (HPP.out _ (HCf.out _ hx1)).st.knows.at 2 rfl
                     have e1 := kk.cell 1
                     have e2 := kk.cell 2
                     have e3 := kk.cell 3
                     have ez := kk.lt
                     clear kk
                     simp only [List.getElem?_toArray, List.getElem?_cons_zero, List.getElem?_cons_succ] at e1 e2 e3
                     go_simp
                     rfl)
              clear hK K))
      iterate 1
        (refine WQ.step (fun K hK => ?_)
         go_simp
         first
           | (refine hK _ ?_; clear hK K)
           | (apply Exists.intro
              refine ⟨fun x1 hx1 => ?_, hK _ ?_⟩
              · (go_at_call 16; refine (HCb.out _ (HCf.out _ hx1)).mono ?_; rintro e x2 ⟨rfl, rfl⟩; exact ⟨rfl, hx1⟩)
              clear hK K))
      iterate 3
        (refine WQ.step (fun K hK => ?_)
         go_simp
         first
           | (refine hK _ ?_; clear hK K)
           | (apply Exists.intro
              refine ⟨fun x1 hx1 => ?_, hK _ ?_⟩
              · first
                  | rfl
                  | (have kk := (HPP.out _ (HCf.out _ hx1)).st.knows.at 2 rfl
                     have e1 := kk.cell 1
                     have e2 := kk.cell 2
                     have e3 := kk.cell 3
                     have ez := kk.lt
                     clear kk
                     simp only [List.getElem?_toArray, List.getElem?_cons_zero, List.getElem?_cons_succ] at e1 e2 e3
                     go_simp
                     rfl)
              clear hK K))
      iterate 1
        (refine WQ.step (fun K hK => ?_)
         go_simp
         first
           | (refine hK _ ?_; clear hK K)
           | (apply Exists.intro
              refine ⟨fun x1 hx1 => ?_, hK _ ?_⟩
              · (go_at_call 16; refine (HWb.out _ (HCf.out _ hx1)).mono ?_; rintro e x2 ⟨rfl, rfl⟩; exact ⟨rfl, hx1⟩)
              clear hK K))
      iterate 2
        (refine WQ.step (fun K hK => ?_)
         go_simp
         first
           | (refine hK _ ?_; clear hK K)
           | (apply Exists.intro
              refine ⟨fun x1 hx1 => ?_, hK _ ?_⟩
              · first
                  | rfl
                  | (have kk := (HPP.out _ (HCf.out _ hx1)).st.knows.at 2 rfl
                     have e1 := kk.cell 1
                     have e2 := kk.cell 2
                     have e3 := kk.cell 3
                     have ez := kk.lt
                     clear kk
                     simp only [List.getElem?_toArray, List.getElem?_cons_zero, List.getElem?_cons_succ] at e1 e2 e3
                     go_simp
                     rfl)
              clear hK K))
      refine WQ.nil ?_
      intro wn hw
      have HP9 := Lib.hid (HPP.out _ (HCf.out _ hw))
      clear hw hC HCc HCf C HPP HPW HPC HWa HWb HCa HCb HP8 g1 g2 hw1 hw2 hw3 hw4
      go_wp2_with fail
      go_loopw [20] (fun i wr => ∃ k : Nat, k ≤ l.length ∧ k ≤ 40 ∧ i = .int .i64 (k : Int) ∧ Below wn.heap.size wn wr) (fun i _ => l.length - (intOf i).toNat)
      case atStart => exact ⟨0, by omega, by omega, rfl, Below.refl _ _⟩
      case round =>
        obtain ⟨k, hn1', hn2', rfl, hb⟩ := hrel
        have HP := Lib.hid (HP9.out.call hb)
        have HB := Lib.hid hb
        clear hb
        by_cases hlt : k < l.length ∧ k < 40
        · obtain ⟨h1, h2⟩ := hlt
          obtain ⟨o, ho⟩ : ∃ o, l[k]? = some o := ⟨_, List.getElem?_eq_getElem h1⟩
          obtain ⟨b0, off, rfl, hb, hcc⟩ := (HS.out.below HP.out.st.below).item encO_len (by omega) k o ho
          have q2 := hcc 2 _ rfl
          have i1 : (k : Int) < (l.length : Int) := by omega
          have i2 : (k : Int) < 40 := by omega
          have hgo := HGO.out o (List.mem_of_getElem? ho)
          have HTO64 := Lib.hid hgo.b
          obtain ⟨o1, o2, o3, o4⟩ := o
          dsimp only at *
          clear hcc ho hgo
          have kk := HP.out.st.knows.at 2 rfl
          have e1 := kk.cell 1
          have e2 := kk.cell 2
          have e3 := kk.cell 3
          have ez := kk.lt
          clear kk
          simp only [List.getElem?_toArray, List.getElem?_cons_zero, List.getElem?_cons_succ] at e1 e2 e3
          by_cases c1 : o3 = a
          · have d1 : (o3 == a) = true := by simpa using c1
            go_wp2_with fail
            go_roundw
            case rel => exact ⟨k + 1, by omega, by omega, by go_num, HB.out⟩
            case measure => simp [intOf]; omega
          · have d1 : (o3 == a) = false := by simpa using c1
            by_cases c2 : o3 = b
            · have d2 : (o3 == b) = true := by simpa using c2
              go_wp2_with fail
              go_roundw
              case rel => exact ⟨k + 1, by omega, by omega, by go_num, HB.out⟩
              case measure => simp [intOf]; omega
            · have d2 : (o3 == b) = false := by simpa using c2
              have hs := HOT.out o3 c1 c2
              have HC := Lib.hid (has_any o3 HTO64.out (HP.out.bk (List.mem_cons_self ..) (List.mem_cons_of_mem _ (List.mem_cons_self ..))))
              generalize hP : ((f o3).getD ⟨0, 0⟩).has = P at *
              generalize hS : (f o3).isSome = S at *
              go_wp2_with fail
              refine HC.out.mono ?_
              rintro e w10 ⟨rfl, hb⟩
              have HP10 := Lib.hid (HP.out.call hb)
              have HB10 := Lib.hid (HB.out.trans (hb.mono HB.out.size))
              clear hb HC e1 e2 e3 ez
              have HC := Lib.hid (has_any o3 HTO64.out (HP10.out.bk (List.mem_cons_of_mem _ (List.mem_cons_self ..)) (List.mem_cons_self ..)))
              rw [hs, hP, hS] at HC
              go_wp2_with fail
              refine HC.out.mono ?_
              rintro e w11 ⟨rfl, hb⟩
              have HP11 := Lib.hid (HP10.out.call hb)
              have HB11 := Lib.hid (HB10.out.trans (hb.mono HB10.out.size))
              clear hb HC
              have HC := Lib.hid (paid_any o3 HTO64.out (HP11.out.bk (List.mem_cons_self ..) (List.mem_cons_of_mem _ (List.mem_cons_self ..))))
              have HC2 := Lib.hid (paid_any o3 HTO64.out (HP11.out.bk (List.mem_cons_of_mem _ (List.mem_cons_self ..)) (List.mem_cons_self ..)))
              rw [hs] at HC2
              clear hP hS hs
              generalize ((f o3).getD ⟨0, 0⟩).paid = Q at *
              go_wp2_with fail
              refine HC.out.mono ?_
              rintro e y ⟨rfl, e9⟩
              subst y
              go_wp2_with fail
              refine HC2.out.mono ?_
              rintro e y ⟨rfl, e9⟩
              subst y
              go_wp2_with fail
              go_roundw
              case rel => exact ⟨k + 1, by omega, by omega, by go_num, HB11.out⟩
              case measure => simp [intOf]; omega
        · by_cases h1 : k < l.length
          · obtain rfl : k = 40 := by omega
            go_wp2_with fail
            go_ret
            exact ⟨rfl, HP.out.st.below⟩
          · obtain rfl : k = l.length := by omega
            go_wp2_with fail
            go_ret
            exact ⟨rfl, HP.out.st.below⟩
    · obtain ⟨-, hv, hf⟩ := move_bad rfl hE
      rw [hv, hf] at HC
      have hE2 : (moveE x f a b n == 0) = false := by simpa using hE
      generalize moveE x f a b n = E at *
      clear hv hf
      go_wp2_with fail
      refine HC.out.mono ?_
      rintro e w4 ⟨rfl, ho, hk⟩
      have HP4 := Lib.hid (HP3.out.swap.put ho hk.mv)
      clear ho hk HC HP3 e1 e2 e3 ez
      have HC := Lib.hid (list_any (HP4.out.bk (List.mem_cons_self ..) (List.mem_cons_of_mem _ (List.mem_cons_self ..))) HF.out)
      go_wp2_with fail
      refine HC.out.mono ?_
      rintro e wa ⟨A1, c1, rfl, hb, ho⟩
      have HPA := Lib.hid (HP4.out.call hb)
      have HOA := Lib.hid ho
      clear hb ho HC
      have HC := Lib.hid (list_any (HPA.out.bk (List.mem_cons_of_mem _ (List.mem_cons_self ..)) (List.mem_cons_self ..)) HF.out)
      go_wp2_with fail
      refine HC.out.mono ?_
      rintro e wb ⟨A2, c2, rfl, hb, ho⟩
      have HPB := Lib.hid (HPA.out.call hb)
      have HS := Lib.hid (rsame_any A1 c1 A2 c2 (val f) (supp (ent f)) wb (((Sees.own HOA.out).below hb).more hb.size) (Sees.own ho) (own_room HOA.out) (own_room ho) (by have := HSL.out; omega))
      clear hb ho HC HOA
      go_wp2_with fail
      refine HS.out.mono ?_
      rintro e wc ⟨rfl, hb⟩
      have HPC := Lib.hid (HPB.out.call hb)
      clear hb HS HPB HPA
      go_wp2_with fail
      go_ret
      exact ⟨rfl, HPC.out.st.below⟩

set_option maxRecDepth 100000 in
theorem lifted (os : Os) (started : os.Started) (H : Type) (enc : TypeId × Value → H) :
    ReturnsInHanded {} Try.checked os 4 .any (Rows.ledgerMovesSpec.pre6 enc Try.prog Try.f4 Rows.ledgerMovesRow.domain false) (Rows.ledgerMovesSpec.post enc Try.prog Try.f4 false true false false) := by
  refine returnsInHanded_of_change (C := Try.checked) own started (by kernel_rfl) Try.func4
    (ChangeSpec.witness6 (enc := enc) (C := Try.checked) false ⟨#[], #[.float .f64 0, .slice none 0 0, .agg #[.int .i64 0, .int .i64 0, .int .i64 0, .int .i64 0]], []⟩ 8 (by kernel_rfl) (by kernel_rfl) (by kernel_rfl) (by kernel_rfl)) ?_
  intro W base args ds gs before hval0 hW hcnd _
  have hval : ∀ (j : Nat) t v, Try.f4.params[j]? = some t → args[j]? = some v → Value.okWide Try.prog W .any base t v := hval0
  have hW' := hW
  obtain ⟨p, q, hA0, hV, rfl, hfz, hnd⟩ := hW
  have hA : DataW.TrodAll enc Try.prog W 0 (fun _ => true) true Try.f4.params.toList args.toList ds p := hA0
  rw [Try.params4] at hA hval
  obtain ⟨v0, vs0, d0, ds0, p0, q0, hargs, rfl, rfl, h0, r0⟩ := trodAll_cons hA
  obtain ⟨v1, vs1, d1, ds1, p1, q1, rfl, rfl, rfl, h1, r1⟩ := trodAll_cons r0
  obtain ⟨v2, vs2, d2, ds2, p2, q2, rfl, rfl, rfl, h2, r2⟩ := trodAll_cons r1
  obtain ⟨rfl, rfl, rfl⟩ := trodAll_nil r2
  obtain rfl : args = #[v0, v1, v2] := by cases args; simp_all
  obtain ⟨rfl, rfl⟩ := trodVars_none hV
  obtain ⟨a0, rfl⟩ := okWide_float Try.underlying22 (hval 0 22 v0 rfl rfl)
  have w0 : a0 < 18446744073709551616 := by
    obtain ⟨m, hm⟩ := h0
    obtain ⟨s, hs, hl⟩ := float_of (k := .f64) Try.underlying22 hm
    simp [Value.cells] at hs
    rw [hs]; simpa [Lit.wf] using hl
  have lt0 : ∀ x ∈ p0, x.block < W.heap.size := by obtain ⟨m, hm⟩ := h0; exact DataW.trod_lt m _ _ _ hm
  obtain ⟨A1, len1, cap1, rfl⟩ := okWide_slice Try.underlying23 (hval 1 23 v1 rfl rfl)
  obtain ⟨l1, w1⟩ := open_ops h1
  have lt1 : ∀ x ∈ p1, x.block < W.heap.size := by obtain ⟨m, hm⟩ := h1; exact DataW.trod_lt m _ _ _ hm
  obtain ⟨o2, rfl, w2⟩ := open_op (hval 2 35 v2 rfl rfl) h2
  have lt2 : ∀ x ∈ p2, x.block < W.heap.size := by obtain ⟨m, hm⟩ := h2; exact DataW.trod_lt m _ _ _ hm
  clear hA0 hval0
  simp only [List.append_nil] at hW'
  refine (walk a0 w0 A1 len1 cap1 l1 o2 w2 W w1).mono fun e W' ⟨he, bel⟩ => ?_
  subst he
  exact ⟨_, rfl, _, _, _, [], _, [], hW', trodAll_mk1 (shut_bool Try.underlying4 _), (trodAll_cons_mk (Below.trod laidOut (by kernel_rfl) (of_decide_eq_true (by kernel_rfl)) h0 bel lt0) (trodAll_cons_mk (Below.trod laidOut (by kernel_rfl) (of_decide_eq_true (by kernel_rfl)) h1 bel lt1) (trodAll_cons_mk (Below.trod laidOut (by kernel_rfl) (of_decide_eq_true (by kernel_rfl)) h2 bel lt2) trodAll_mk0))), rfl, bel.frame _, fun h => by cases h⟩

theorem proved : Rows.LedgerMovesSaid :=
  OpenClaim.holds_of_wide 4 Try.f4 rfl rfl rfl rfl rfl rfl rfl ⟨rfl, rfl, rfl, rfl, rfl⟩ rfl rfl rfl rfl rfl (by kernel_rfl) Try.func4 (by kernel_rfl)
    (of_decide_eq_true (by kernel_rfl)) (by unfold Func.isWrapper; first | (rw [if_pos (by decide +kernel)]; kernel_rfl) | (rw [if_neg (by decide +kernel)]; exact ⟨rfl, rfl⟩))
    (fun os started H enc _ => lifted os started H enc)
#print axioms proved
end Go.Proofs.Ytmemfbdikinegaa.ledgerMoves
