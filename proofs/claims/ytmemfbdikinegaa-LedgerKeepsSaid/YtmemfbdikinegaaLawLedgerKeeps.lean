/- What all accounts have and have paid is what they were opened with; for every input, without conditions (of more calls the first 40 are made). -/
import Derived.Test.YtmemfbdikinegaaLedA
namespace Go.Proofs.Ytmemfbdikinegaa.ledgerKeeps
open Go.ChangeShapes Go.WideShapes Go.ChangeAt Go.RowKit Go.Lk Go.Ld Go.Am
set_option linter.unusedVariables false
set_option linter.unusedSimpArgs false

set_option maxHeartbeats 16000000 in
set_option maxRecDepth 100000 in
theorem walk (x : Nat) (hx : x < 18446744073709551616) (A : Option Addr) (len cap : Nat) (l : List Op14) (w : World) (hL : IsR w A len cap 4 encO GO l) :
    Calls Try.prog 3 #[.float .f64 x, .slice A len cap] w fun r w' => r = .returned (.bool true) ∧ Below w.heap.size w w' := by
  obtain ⟨hlen, hs, hc1, hc2, hnil, hg⟩ := hL
  subst hlen
  have HM := Lib.hid (made_any x hx A cap l w hs hc1 hc2 hg)
  clear hs hg hnil
  go_enter Try.func3, Try.ntmps3
  go_wp2_with fail
  refine HM.out.mono ?_
  rintro e w1 ⟨hb1, h | ⟨g, mb, hr, rfl, hk, h1, h2⟩⟩
  · obtain ⟨-, rfl⟩ := h
    have HB := Lib.hid hb1
    clear hb1 HM
    go_wp2_with fail
    refine (awake_any _).mono ?_
    rintro e w2 ⟨rfl, hb2⟩
    have HB2 := Lib.hid (HB.out.trans (hb2.mono HB.out.size))
    clear hb2
    go_wp2_with fail
    refine (awake_any _).mono ?_
    rintro e w3 ⟨rfl, hb3⟩
    have HB3 := Lib.hid (HB2.out.trans (hb3.mono HB2.out.size))
    clear hb3
    go_wp2_with fail
    go_ret
    exact ⟨rfl, HB3.out⟩
  · have HP := Lib.hid ((Lp.start w).more hb1 hk h1 h2)
    have hok := mk_ok hr (l.take 40)
    have hll : (l.take 40).length ≤ 40 := by simp; omega
    clear hb1 hk h1 h2 HM
    generalize mk x (l.take 40) = f at *
    generalize gv x (l.take 40) = G at *
    obtain ⟨hF, htot, hg0, hg1⟩ := hok
    have HF := Lib.hid hF
    have hg2 : G ≤ 40000000000000000 := by omega
    have HLS := Lib.hid ((list_sum hF).trans htot)
    have HSL := Lib.hid (supp_len hF)
    clear hg1 hll hr htot hF
    go_wp2_with fail
    refine (awake_any _).mono ?_
    rintro e w2 ⟨rfl, hb2⟩
    have HP2 := Lib.hid (HP.out.call hb2)
    clear hb2 HP
    have HC := Lib.hid (list_any (HP2.out.bk (List.mem_cons_self ..) (List.mem_cons_self ..)) HF.out)
    go_wp2_with fail
    refine HC.out.mono ?_
    rintro e w3 ⟨B, c3, rfl, hb3, ho3⟩
    have HP3 := Lib.hid (HP2.out.call hb3)
    have HV := Lib.hid (Sees.own ho3)
    have hroom : (supp (ent f)).length ≤ 8192 := HSL.out
    have HRI := Lib.hid (supp_rises (ent_fin HF.out))
    have HVP := Lib.hid (fun k => val_pos HF.out k)
    have HVT := Lib.hid (fun k (hk : k < 4096) => val_top HF.out hk)
    have HRG := Lib.hid (fun k (hk : k ∈ supp (ent f)) => ent_range HF.out ((supp_mem (ent_fin HF.out) k).1 hk))
    have HTO := Lib.hid (fun (y : World) (hy : Below w3.heap.size w3 y) => total_any (val f) (supp (ent f)) B c3 y ((HV.out.below hy).more hy.size) (by omega) (fun k _ => val_pos HF.out k) (by rw [HLS.out]; omega))
    rw [HLS.out] at HTO
    clear hb3 ho3 HC HP2 HF HSL HLS
    generalize supp (ent f) = R at *
    generalize val f = vl at *
    go_wp2_with fail
    go_loopw [8] (fun i wr => ∃ n : Nat, n ≤ R.length ∧ i = .int .i64 (n : Int) ∧ Below w3.heap.size w3 wr) (fun i _ => R.length - (intOf i).toNat)
    case atStart => exact ⟨0, by omega, rfl, Below.refl _ _⟩
    case round =>
      obtain ⟨n, hn, rfl, hb⟩ := hrel
      have HB := Lib.hid hb
      clear hb
      by_cases hlt : n < R.length
      · obtain ⟨k, hk⟩ : ∃ k, R[n]? = some k := ⟨_, List.getElem?_eq_getElem hlt⟩
        have hkm := List.mem_of_getElem? hk
        have i1 : (n : Int) < (R.length : Int) := by omega
        have hv0 := HVP.out k
        have hvt : k < 4096 → vl k ≤ 1000000000000000 := fun h => HVT.out k h
        have hk0 := HRG.out k hkm
        obtain ⟨b0, off, rfl, hb0, hcc⟩ := HV.out.item (encL_len vl) (by omega) n k hk
        have HCC : Hid (∀ y, Below w3.heap.size w3 y → y.cell? ⟨b0, off + n * 2, none⟩ = some (.int .i64 k) ∧ y.cell? ⟨b0, off + n * 2 + 1, none⟩ = some (.int .i64 (vl k))) := Lib.hid fun y hy => ⟨(hy.cell hb0).trans (hcc 0 _ rfl), (hy.cell hb0).trans (hcc 1 _ rfl)⟩
        have g0 : (vl k < 0) = False := by simp; omega
        by_cases hk4 : k < 4096
        · have g2 : (vl k > 1000000000000000) = False := by have := hvt hk4; simp; omega
          clear hvt
          by_cases hn0 : n = 0
          · subst hn0
            simp only [Nat.zero_mul, Nat.add_zero] at HCC
            clear hcc hk hkm
            generalize vl k = V at *
            obtain ⟨C, hC, HCc, HCf⟩ := below_class wr
            go_wp2_with fail
            refine region_in C hC (by kernel_rfl) (by kernel_rfl) ?_
            iterate 40
              (refine WQ.step (fun K hK => ?_)
               go_simp
               first
                 | (refine hK _ ?_; clear hK K)
                 | (apply Exists.intro
                    refine ⟨fun x1 hx1 => ?_, hK _ ?_⟩
                    · first
                        | rfl
                        | (obtain ⟨p1, p2⟩ := HCC.out _ (HB.out.trans ((HCf.out _ hx1).mono HB.out.size)); go_simp; rfl)
                    clear hK K))
            refine WQ.nil ?_
            intro wn hw
            have HBN := Lib.hid (HB.out.trans ((HCf.out _ hw).mono HB.out.size))
            clear hw hC HCc HCf C HB
            go_wp2_with fail
            go_roundw
            case rel => exact ⟨0 + 1, by omega, by go_num, HBN.out⟩
            case measure => simp [intOf]; omega
          · obtain ⟨m, rfl⟩ : ∃ m, n = m + 1 := ⟨n - 1, by omega⟩
            obtain ⟨k2, hk2⟩ : ∃ k2, R[m]? = some k2 := ⟨_, List.getElem?_eq_getElem (by omega)⟩
            have HC2 : Hid (∀ y, Below w3.heap.size w3 y → y.cell? ⟨b0, off + m * 2, none⟩ = some (.int .i64 k2)) := Lib.hid fun y hy => by
              obtain ⟨b9, off9, hA9, -, hc9⟩ := HV.out.item (encL_len vl) (by omega) m k2 hk2
              injection hA9 with hA9
              injection hA9 with hA9 hA10
              subst hA9 hA10
              exact (hy.cell hb0).trans (hc9 0 _ rfl)
            have g1 : (k2 ≥ k) = False := by
              have h1 := (List.getElem?_eq_some_iff.1 hk2)
              have h3 := (List.getElem?_eq_some_iff.1 hk)
              have := List.pairwise_iff_getElem.1 HRI.out m (m + 1) h1.1 h3.1 (by omega)
              rw [h1.2, h3.2] at this
              simp; omega
            have g5 : ((m : Int) + 1 > 0) := by omega
            have g6 : (0 : Int) ≤ (m : Int) + 1 := by omega
            have hw1 : IntKind.i64.wrap (m : Int) = m := by rw [IntKind.wrap_i64]; omega
            have g7 : (m : Int) < (R.length : Int) := by omega
            clear hcc hk hkm hk2 hn0
            generalize vl k = V at *
            obtain ⟨C, hC, HCc, HCf⟩ := below_class wr
            go_wp2_with fail
            refine region_in C hC (by kernel_rfl) (by kernel_rfl) ?_
            iterate 40
              (refine WQ.step (fun K hK => ?_)
               go_simp
               first
                 | (refine hK _ ?_; clear hK K)
                 | (apply Exists.intro
                    refine ⟨fun x1 hx1 => ?_, hK _ ?_⟩
                    · first
                        | rfl
                        | (obtain ⟨p1, p2⟩ := HCC.out _ (HB.out.trans ((HCf.out _ hx1).mono HB.out.size)); have p3 := HC2.out _ (HB.out.trans ((HCf.out _ hx1).mono HB.out.size)); go_simp; rfl)
                    clear hK K))
            refine WQ.nil ?_
            intro wn hw
            have HBN := Lib.hid (HB.out.trans ((HCf.out _ hw).mono HB.out.size))
            clear hw hC HCc HCf C HB
            go_wp2_with fail
            go_roundw
            case rel => exact ⟨m + 1 + 1, by omega, by go_num, HBN.out⟩
            case measure => simp [intOf]; omega
        · clear hvt
          have hk5 : (k < 4096) = False := by simp; omega
          by_cases hn0 : n = 0
          · subst hn0
            simp only [Nat.zero_mul, Nat.add_zero] at HCC
            clear hcc hk hkm
            generalize vl k = V at *
            obtain ⟨C, hC, HCc, HCf⟩ := below_class wr
            go_wp2_with fail
            refine region_in C hC (by kernel_rfl) (by kernel_rfl) ?_
            iterate 40
              (refine WQ.step (fun K hK => ?_)
               go_simp
               first
                 | (refine hK _ ?_; clear hK K)
                 | (apply Exists.intro
                    refine ⟨fun x1 hx1 => ?_, hK _ ?_⟩
                    · first
                        | rfl
                        | (obtain ⟨p1, p2⟩ := HCC.out _ (HB.out.trans ((HCf.out _ hx1).mono HB.out.size)); go_simp; rfl)
                    clear hK K))
            refine WQ.nil ?_
            intro wn hw
            have HBN := Lib.hid (HB.out.trans ((HCf.out _ hw).mono HB.out.size))
            clear hw hC HCc HCf C HB
            go_wp2_with fail
            go_roundw
            case rel => exact ⟨0 + 1, by omega, by go_num, HBN.out⟩
            case measure => simp [intOf]; omega
          · obtain ⟨m, rfl⟩ : ∃ m, n = m + 1 := ⟨n - 1, by omega⟩
            obtain ⟨k2, hk2⟩ : ∃ k2, R[m]? = some k2 := ⟨_, List.getElem?_eq_getElem (by omega)⟩
            have HC2 : Hid (∀ y, Below w3.heap.size w3 y → y.cell? ⟨b0, off + m * 2, none⟩ = some (.int .i64 k2)) := Lib.hid fun y hy => by
              obtain ⟨b9, off9, hA9, -, hc9⟩ := HV.out.item (encL_len vl) (by omega) m k2 hk2
              injection hA9 with hA9
              injection hA9 with hA9 hA10
              subst hA9 hA10
              exact (hy.cell hb0).trans (hc9 0 _ rfl)
            have g1 : (k2 ≥ k) = False := by
              have h1 := (List.getElem?_eq_some_iff.1 hk2)
              have h3 := (List.getElem?_eq_some_iff.1 hk)
              have := List.pairwise_iff_getElem.1 HRI.out m (m + 1) h1.1 h3.1 (by omega)
              rw [h1.2, h3.2] at this
              simp; omega
            have g5 : ((m : Int) + 1 > 0) := by omega
            have g6 : (0 : Int) ≤ (m : Int) + 1 := by omega
            have hw1 : IntKind.i64.wrap (m : Int) = m := by rw [IntKind.wrap_i64]; omega
            have g7 : (m : Int) < (R.length : Int) := by omega
            clear hcc hk hkm hk2 hn0
            generalize vl k = V at *
            obtain ⟨C, hC, HCc, HCf⟩ := below_class wr
            go_wp2_with fail
            refine region_in C hC (by kernel_rfl) (by kernel_rfl) ?_
            iterate 40
              (refine WQ.step (fun K hK => ?_)
               go_simp
               first
                 | (refine hK _ ?_; clear hK K)
                 | (apply Exists.intro
                    refine ⟨fun x1 hx1 => ?_, hK _ ?_⟩
                    · first
                        | rfl
                        | (obtain ⟨p1, p2⟩ := HCC.out _ (HB.out.trans ((HCf.out _ hx1).mono HB.out.size)); have p3 := HC2.out _ (HB.out.trans ((HCf.out _ hx1).mono HB.out.size)); go_simp; rfl)
                    clear hK K))
            refine WQ.nil ?_
            intro wn hw
            have HBN := Lib.hid (HB.out.trans ((HCf.out _ hw).mono HB.out.size))
            clear hw hC HCc HCf C HB
            go_wp2_with fail
            go_roundw
            case rel => exact ⟨m + 1 + 1, by omega, by go_num, HBN.out⟩
            case measure => simp [intOf]; omega
      · obtain rfl : n = R.length := by omega
        have HTO2 := Lib.hid (HTO.out wr HB.out)
        go_wp2_with fail
        refine HTO2.out.mono ?_
        rintro e w6 ⟨rfl, hb6⟩
        have HP6 := Lib.hid ((HP3.out.call HB.out).call hb6)
        clear hb6
        go_wp2_with fail
        go_ret
        exact ⟨by simp, HP6.out.st.below⟩

set_option maxRecDepth 100000 in
theorem lifted (os : Os) (started : os.Started) (H : Type) (enc : TypeId × Value → H) :
    ReturnsInHanded {} Try.checked os 3 .any (Rows.ledgerKeepsSpec.pre6 enc Try.prog Try.f3 Rows.ledgerKeepsRow.domain false) (Rows.ledgerKeepsSpec.post enc Try.prog Try.f3 false true false false) := by
  refine returnsInHanded_of_change (C := Try.checked) own started (by kernel_rfl) Try.func3
    (ChangeSpec.witness6 (enc := enc) (C := Try.checked) false ⟨#[], #[.float .f64 0, .slice none 0 0], []⟩ 8 (by kernel_rfl) (by kernel_rfl) (by kernel_rfl) (by kernel_rfl)) ?_
  intro W base args ds gs before hval0 hW hcnd _
  have hval : ∀ (j : Nat) t v, Try.f3.params[j]? = some t → args[j]? = some v → Value.okWide Try.prog W .any base t v := hval0
  have hW' := hW
  obtain ⟨p, q, hA0, hV, rfl, hfz, hnd⟩ := hW
  have hA : DataW.TrodAll enc Try.prog W 0 (fun _ => true) true Try.f3.params.toList args.toList ds p := hA0
  rw [Try.params3] at hA hval
  obtain ⟨v0, vs0, d0, ds0, p0, q0, hargs, rfl, rfl, h0, r0⟩ := trodAll_cons hA
  obtain ⟨v1, vs1, d1, ds1, p1, q1, rfl, rfl, rfl, h1, r1⟩ := trodAll_cons r0
  obtain ⟨rfl, rfl, rfl⟩ := trodAll_nil r1
  obtain rfl : args = #[v0, v1] := by cases args; simp_all
  obtain ⟨rfl, rfl⟩ := trodVars_none hV
  obtain ⟨a0, rfl⟩ := okWide_float Try.underlying22 (hval 0 22 v0 rfl rfl)
  have w0 : a0 < 18446744073709551616 := by
    obtain ⟨m, hm⟩ := h0
    obtain ⟨s, hs, hl⟩ := float_of (k := .f64) Try.underlying22 hm
    simp [Value.cells] at hs
    rw [hs]; simpa [Lit.wf] using hl
  have lt0 : ∀ x ∈ p0, x.block < W.heap.size := by obtain ⟨m, hm⟩ := h0; exact DataW.trod_lt m _ _ _ hm
  obtain ⟨A1, len1, cap1, rfl⟩ := okWide_slice Try.underlying23 (hval 1 23 v1 rfl rfl)
  obtain ⟨l1, w1⟩ := open_ops h1
  have lt1 : ∀ x ∈ p1, x.block < W.heap.size := by obtain ⟨m, hm⟩ := h1; exact DataW.trod_lt m _ _ _ hm
  clear hA0 hval0
  simp only [List.append_nil] at hW'
  refine (walk a0 w0 A1 len1 cap1 l1 W w1).mono fun e W' ⟨he, bel⟩ => ?_
  subst he
  exact ⟨_, rfl, _, _, _, [], _, [], hW', trodAll_mk1 (shut_bool Try.underlying4 _), (trodAll_cons_mk (Below.trod laidOut (by kernel_rfl) (of_decide_eq_true (by kernel_rfl)) h0 bel lt0) (trodAll_cons_mk (Below.trod laidOut (by kernel_rfl) (of_decide_eq_true (by kernel_rfl)) h1 bel lt1) trodAll_mk0)), rfl, bel.frame _, fun h => by cases h⟩

theorem proved : Rows.LedgerKeepsSaid :=
  OpenClaim.holds_of_wide 3 Try.f3 rfl rfl rfl rfl rfl rfl rfl ⟨rfl, rfl, rfl, rfl, rfl⟩ rfl rfl rfl rfl rfl (by kernel_rfl) Try.func3 (by kernel_rfl)
    (of_decide_eq_true (by kernel_rfl)) (by unfold Func.isWrapper; first | (rw [if_pos (by decide +kernel)]; kernel_rfl) | (rw [if_neg (by decide +kernel)]; exact ⟨rfl, rfl⟩))
    (fun os started H enc _ => lifted os started H enc)
#print axioms proved
end Go.Proofs.Ytmemfbdikinegaa.ledgerKeeps
