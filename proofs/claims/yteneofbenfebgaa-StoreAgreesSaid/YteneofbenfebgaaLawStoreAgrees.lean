/- A snapshot has just what is told key by key; for every input, without conditions (of more calls the first 30 are made). -/
import Derived.Test.YteneofbenfebgaaStoL
namespace Go.Proofs.Yteneofbenfebgaa.storeAgrees
open Go.ChangeShapes Go.WideShapes Go.ChangeAt Go.RowKit Go.Cn Go.So
set_option linter.unusedVariables false
set_option linter.unusedSimpArgs false

theorem agrees_at {s : Sto} (hf : Fine s) {u : Int} (h0 : tellsE s u = 0) {n : Nat} {e : En} (he : (snapL s u)[n]? = some e) : getSE s e.1 u = 0 ∧ (getSV s e.1 u).2 = e.2 ∧ (getSV s e.1 u).1 ≤ u := by
  obtain ⟨hk, v, hv, h2⟩ := snap_mem.1 (List.mem_of_getElem? he)
  rcases getS_cases s e.1 u with ⟨h, _⟩ | ⟨_, h, _⟩ | ⟨_, _, h, _⟩ | ⟨_, _, ⟨v', h1, h3⟩, h4⟩
  · have := (isK_no e.1).1 h; omega
  · exact absurd h0 h
  · rw [hv] at h; cases h
  · rw [hv] at h1
    injection h1 with h1
    subst h1
    exact ⟨h4, by rw [h3, h2], by rw [h3]; exact cnt_le hf hv⟩
theorem agrees_rise {s : Sto} {u : Int} {n : Nat} {a b : En} (ha : (snapL s u)[n]? = some a) (hb : (snapL s u)[n + 1]? = some b) : a.1 < b.1 := by
  have h := List.pairwise_iff_getElem.1 (snap_rise s u) n (n + 1) (List.getElem?_eq_some_iff.1 ha).1 (List.getElem?_eq_some_iff.1 hb).1 (by omega)
  rw [(List.getElem?_eq_some_iff.1 ha).2, (List.getElem?_eq_some_iff.1 hb).2] at h
  exact h
theorem agrees_out {s : Sto} {u : Int} (h0 : tellsE s u = 0) (k : Int) (h : ((snapL s u).any fun e => e.1 == k) = false) : getSE s k u = 127 ∨ getSE s k u = 123 := by
  rcases getS_cases s k u with ⟨_, h1, _⟩ | ⟨_, h1, _⟩ | ⟨_, _, _, h1, _⟩ | ⟨hk, _, ⟨v, h1, _⟩, _⟩
  · exact .inr h1
  · exact absurd h0 h1
  · exact .inl h1
  · have hm : ((k, v.2) : En) ∈ snapL s u := snap_mem.2 ⟨(isK_iff k).1 hk, v, h1, rfl⟩
    rw [List.any_eq_false] at h
    have := h _ hm
    simp at this
set_option maxHeartbeats 32000000 in
set_option maxRecDepth 100000 in
theorem walk (A : Option Addr) (len cap : Nat) (l : List Op12) (u : Int) (hu0 : -9223372036854775808 ≤ u ∧ u ≤ 9223372036854775807) (w : World) (hL : IsR w A len cap 4 encO (GO w) l) :
    Calls Try.prog 7 #[.slice A len cap, .int .i64 u] w fun r w' => r = .returned (.bool true) ∧ Below w.heap.size w w' := by
  have HMA := Lib.hid (made_any A len cap l w hL _ rfl)
  obtain ⟨hlen, hs, hc1, hc2, hnil, hg⟩ := hL
  subst hlen
  have HS := Lib.hid hs
  have HGO := Lib.hid hg
  clear hs hg hnil
  generalize w.heap.size + 1 = g at *
  go_enter Try.func7, Try.ntmps7
  go_wp2_with fail
  refine HMA.out.mono ?_
  rintro r w1 ⟨rfl, hp⟩
  have H := Lib.hid hp
  clear hp HMA
  generalize mk l (min l.length 30) = c at *
  have HFN := Lib.hid H.out.fine
  go_wp2_with fail
  refine (awake_any _).mono ?_
  rintro r w2 ⟨rfl, hb1⟩
  replace H := Lib.hid (H.out.call hb1)
  clear hb1
  go_wp2_with fail
  refine (psnap u H.out).mono ?_
  rintro r w3 ⟨A3, cap3, rfl, hb1, ho⟩
  replace H := Lib.hid (H.out.call hb1)
  have hroom : (snapS c u).length ≤ cap3 := by
    obtain ⟨_, _, e, h, _⟩ := own_slice0 ho
    injection e with _ _ e
    omega
  have HV := Lib.hid (Sees.own ho)
  clear hb1 ho
  by_cases h0 : tellsE c u = 0
  case neg =>
    have hS : snapS c u = [] := by unfold snapS; rw [if_neg h0]
    have hG : getSE c 0 u = tellsE c u ∧ getSV c 0 u = (0, 0) := by
      rcases getS_cases c 0 u with ⟨h, _⟩ | ⟨_, _, h1, h2⟩ | ⟨_, h, _⟩ | ⟨_, h, _⟩
      · have := (isK_no 0).1 h; omega
      · exact ⟨h1, h2⟩
      · exact absurd h h0
      · exact absurd h h0
    have HG := Lib.hid (pget 0 u H.out)
    rw [hG.1, hG.2] at HG
    have e1 : (tellsE c u == 0) = false := by simpa using h0
    have e2 : (tellsE c u != 0) = true := by simpa using h0
    rw [hS]
    clear hG hS HV hroom HFN
    generalize tellsE c u = E at *
    go_wp2_with fail
    refine HG.out.mono ?_
    rintro r w4 ⟨rfl, hb⟩
    replace H := Lib.hid ((H.out.call hb).alloc w4.heap.size rfl 36 #[.int .i64 0, .int .i64 0])
    clear hb HG
    go_wp2_with fail
    go_ret
    exact ⟨rfl, H.out.st.below⟩
  have hS : snapS c u = snapL c u := by unfold snapS; rw [if_pos h0]
  have HAT := Lib.hid (fun n e he => agrees_at HFN.out h0 (n := n) (e := e) he)
  have HRI := Lib.hid (fun n a b ha hb => agrees_rise (s := c) (u := u) (n := n) (a := a) (b := b) ha hb)
  have HOU := Lib.hid (fun k h => agrees_out h0 k h)
  have hn3 := snap_len c u
  rw [hS] at hroom HV
  rw [h0, hS]
  clear h0 hS HFN
  generalize snapL c u = S at *
  go_wp2_with fail
  go_loopw [10] (fun i wr => ∃ n : Nat, n ≤ S.length ∧ i = .int .i64 (n : Int) ∧ Below w3.heap.size w3 wr) (fun i _ => S.length - (intOf i).toNat)
  case atStart => exact ⟨0, by omega, rfl, Below.refl _ _⟩
  case round =>
    obtain ⟨n, hn, rfl, hb⟩ := hrel
    have HB := Lib.hid hb
    clear hb
    have HP := Lib.hid (H.out.call HB.out)
    by_cases hlt : n < S.length
    · obtain ⟨e, he⟩ : ∃ e, S[n]? = some e := ⟨_, List.getElem?_eq_getElem hlt⟩
      have HVE := Lib.hid he
      obtain ⟨k1, k2, k3⟩ := HAT.out n e he
      obtain ⟨b0, off, rfl, hb0, hcc⟩ := (HV.out.below HB.out).item encE_len (by omega) n e he
      have q0 := hcc 0 _ rfl
      have q1 := hcc 1 _ rfl
      rw [Nat.add_zero] at q0
      have HG := Lib.hid (pget e.1 u HP.out)
      rw [k1] at HG
      have i1 : (n : Int) < (S.length : Int) := by omega
      generalize getSV c e.1 u = V at *
      obtain ⟨V1, V2⟩ := V
      simp only at k2 k3
      have j1 : (V2 == e.2) = true := by simpa using k2
      have j5 : (V2 = e.2) = True := eq_true k2
      have j3 : (u < V1) = False := eq_false (by omega)
      clear hcc he k1 k2 k3
      by_cases hz : n = 0
      · have j0 : (0 < n) = False := eq_false (by omega)
        clear hz
        go_wp2_with fail
        refine HG.out.mono ?_
        rintro r w4 ⟨rfl, hb⟩
        have HPV := Lib.hid ((HP.out.call hb).alloc w4.heap.size rfl 36 #[.int .i64 V1, .int .i64 V2])
        have HB4 := Lib.hid ((HB.out.trans (hb.mono HB.out.size)).alloc (Nat.le_trans HB.out.size hb.size) (.cells #[.int .i64 V1, .int .i64 V2] 36))
        clear hb HG q0 q1
        obtain ⟨C, hC, HCc, HCf⟩ := below_class (w4.alloc (.cells #[.int .i64 V1, .int .i64 V2] 36))
        go_wp2_with fail
        refine region_in C hC (by kernel_rfl) (by kernel_rfl) ?_
        iterate 36
          (refine WQ.step (fun K hK => ?_)
           go_simp
           try simp only [j0, j1, j5, j3, if_true, if_false, decide_true, decide_false, Bool.or_false, Bool.and_false, Bool.true_and, Bool.true_or, Bool.or_true, Bool.false_or, bne_self_eq_false, beq_self_eq_true, Bool.not_true, Bool.not_false]
           first
             | (refine hK _ ?_; clear hK K)
             | (apply Exists.intro
                refine ⟨fun x hx => ?_, hK _ ?_⟩
                · first
                    | rfl
                    | (have hp := (HPV.out.call (HCf.out _ hx)).st.knows.at 0 rfl; have v0 := hp.cell 0; have v1 := hp.cell 1; obtain ⟨bb, oo, hA, -, hcc⟩ := (HV.out.below (HB4.out.trans ((HCf.out _ hx).mono HB4.out.size))).item encE_len (by omega) n e HVE.out; injection hA with hA; injection hA with e1 e2; subst e1 e2; have g0 := hcc 0 _ rfl; have g1 := hcc 1 _ rfl; rw [Nat.add_zero] at g0; go_simp; rfl)
                clear hK K))
        refine WQ.nil ?_
        intro w5 hw
        have HBW := Lib.hid (HCf.out _ hw)
        clear hw hC HCc HCf C
        have HB5 := Lib.hid (HB4.out.trans (HBW.out.mono HB4.out.size))
        go_wp2_with fail
        go_roundw
        case rel => exact ⟨n + 1, by omega, by go_num, HB5.out⟩
        case measure => simp [intOf]; omega
      · obtain ⟨m, hm⟩ : ∃ m, n = m + 1 := ⟨n - 1, by omega⟩
        obtain ⟨e0, he0⟩ : ∃ e, S[m]? = some e := ⟨_, List.getElem?_eq_getElem (by omega)⟩
        have HVE0 := Lib.hid he0
        have hlt2 := HRI.out m e0 e he0 (by rw [← hm]; exact HVE.out)
        have j0 : (0 < n) = True := eq_true (by omega)
        have j4 : (e.1 ≤ e0.1) = False := eq_false (by omega)
        have q2 : (n : Int) - 1 = (m : Int) := by omega
        have i0 : (m : Int) < (S.length : Int) := by omega
        have q3 : IntKind.i64.wrap ((n : Int) - 1) = (m : Int) := by rw [IntKind.wrap_i64]; omega
        clear q2 hz hm he0 hlt2
        go_wp2_with fail
        refine HG.out.mono ?_
        rintro r w4 ⟨rfl, hb⟩
        have HPV := Lib.hid ((HP.out.call hb).alloc w4.heap.size rfl 36 #[.int .i64 V1, .int .i64 V2])
        have HB4 := Lib.hid ((HB.out.trans (hb.mono HB.out.size)).alloc (Nat.le_trans HB.out.size hb.size) (.cells #[.int .i64 V1, .int .i64 V2] 36))
        clear hb HG q0 q1
        obtain ⟨C, hC, HCc, HCf⟩ := below_class (w4.alloc (.cells #[.int .i64 V1, .int .i64 V2] 36))
        go_wp2_with fail
        refine region_in C hC (by kernel_rfl) (by kernel_rfl) ?_
        iterate 36
          (refine WQ.step (fun K hK => ?_)
           go_simp
           try simp only [q3, j0, j1, j5, j3, j4, if_true, if_false, decide_true, decide_false, Bool.or_false, Bool.and_false, Bool.true_and, Bool.true_or, Bool.or_true, Bool.false_or, bne_self_eq_false, beq_self_eq_true, Bool.not_true, Bool.not_false]
           first
             | (refine hK _ ?_; clear hK K)
             | (apply Exists.intro
                refine ⟨fun x hx => ?_, hK _ ?_⟩
                · first
                    | rfl
                    | (have hp := (HPV.out.call (HCf.out _ hx)).st.knows.at 0 rfl; have v0 := hp.cell 0; have v1 := hp.cell 1; obtain ⟨bb, oo, hA, -, hcc⟩ := (HV.out.below (HB4.out.trans ((HCf.out _ hx).mono HB4.out.size))).item encE_len (by omega) n e HVE.out; injection hA with hA; injection hA with e1 e2; subst e1 e2; have g0 := hcc 0 _ rfl; have g1 := hcc 1 _ rfl; rw [Nat.add_zero] at g0; go_simp; rfl)
                    | (obtain ⟨bb, oo, hA, -, hcc⟩ := (HV.out.below (HB4.out.trans ((HCf.out _ hx).mono HB4.out.size))).item encE_len (by omega) m e0 HVE0.out; injection hA with hA; injection hA with e1 e2; subst e1 e2; have g0 := hcc 0 _ rfl; rw [Nat.add_zero] at g0; go_simp; rfl)
                clear hK K))
        refine WQ.nil ?_
        intro w5 hw
        have HBW := Lib.hid (HCf.out _ hw)
        clear hw hC HCc HCf C
        have HB5 := Lib.hid (HB4.out.trans (HBW.out.mono HB4.out.size))
        go_wp2_with fail
        go_roundw
        case rel => exact ⟨n + 1, by omega, by go_num, HB5.out⟩
        case measure => simp [intOf]; omega
    · obtain rfl : n = S.length := by omega
      clear HAT HRI
      have HB3 := Lib.hid HB.out
      clear HP HB
      go_wp2_with fail
      go_loopw [13] (fun i wr => ∃ n : Nat, n ≤ l.length ∧ n ≤ 30 ∧ i = .int .i64 (n : Int) ∧ Below w3.heap.size w3 wr) (fun i _ => l.length - (intOf i).toNat)
      case atStart => exact ⟨0, by omega, by omega, rfl, HB3.out⟩
      case round =>
        obtain ⟨n, hn1, hn2, rfl, hb⟩ := hrel
        have HB := Lib.hid hb
        clear hb HB3
        by_cases hlt : n < l.length ∧ n < 30
        · obtain ⟨h1, h2⟩ := hlt
          obtain ⟨op, hop⟩ : ∃ op, l[n]? = some op := ⟨_, List.getElem?_eq_getElem h1⟩
          have hgo := HGO.out op (List.mem_of_getElem? hop)
          obtain ⟨b0, off, rfl, hb0, hcc⟩ := (HS.out.below (H.out.call HB.out).st.below).item encO_len (by omega) n op hop
          have q0 := hcc 0 _ rfl
          have q1 := hcc 1 _ rfl
          have q2 := hcc 2 _ rfl
          have q3 := hcc 3 _ rfl
          rw [Nat.add_zero] at q0
          have HFEW := Lib.hid (few_any op wr hgo.row.room hgo.row.top)
          have HER := Lib.hid hgo.few.row
          have hflr : (few12 op).l.length ≤ op.cap := hgo.few.row.room
          have hf120 : (few12 op).l.length ≤ 120 := by rw [few12_len]; omega
          have HF2 : Hid (aggO (few12 op) = .agg #[.int .i64 op.k, .int .i64 op.key, .int .i64 op.t, .slice op.A (few12 op).l.length op.cap]) := Lib.hid rfl
          rw [HF2.out] at HFEW
          replace HER : Hid (Er w op.A op.cap (few12 op).l) := HER
          have i1 : (n : Int) < (l.length : Int) := by omega
          have i2 : (n : Int) < 30 := by omega
          clear hcc hop hgo HF2
          generalize (few12 op).l = fl at *
          obtain ⟨ok, okey, ot, oA, ocap, ol⟩ := op
          simp only at *
          go_wp2_with fail
          refine HFEW.out.mono ?_
          rintro r w4 ⟨rfl, hb⟩
          have HB4 := Lib.hid ((HB.out.trans (hb.mono HB.out.size)).alloc (Nat.le_trans HB.out.size hb.size) (.cells #[.int .i64 ok, .int .i64 okey, .int .i64 ot, .slice oA fl.length ocap] 33))
          have HQ := Lib.hid (Whole.fresh w4 33 #[.int .i64 ok, .int .i64 okey, .int .i64 ot, .slice oA fl.length ocap])
          clear hb HFEW q0 q1 q2 q3
          go_wp2_with fail
          go_loopw [15] (fun i wr => ∃ k : Nat, k ≤ fl.length ∧ i = .int .i64 (k : Int) ∧ Below (w4.alloc (.cells #[.int .i64 ok, .int .i64 okey, .int .i64 ot, .slice oA fl.length ocap] 33)).heap.size (w4.alloc (.cells #[.int .i64 ok, .int .i64 okey, .int .i64 ot, .slice oA fl.length ocap] 33)) wr) (fun i _ => fl.length - (intOf i).toNat)
          case atStart => exact ⟨0, by omega, rfl, Below.refl _ _⟩
          case round =>
            obtain ⟨k, hk, rfl, hb⟩ := hrel
            have HBK := Lib.hid hb
            clear hb
            have hq := HQ.out.below HBK.out HQ.out.lt
            have o3 := hq.cell 3
            have oz := hq.lt
            clear hq
            by_cases hkl : k < fl.length
            · obtain ⟨v, hv⟩ : ∃ v, fl[k]? = some v := ⟨_, List.getElem?_eq_getElem hkl⟩
              have HVV := Lib.hid hv
              have i3 : (k : Int) < (fl.length : Int) := by omega
              have i4 : (k : Int) < (ocap : Int) := by omega
              have HBW3 := Lib.hid (HB4.out.trans (HBK.out.mono HB4.out.size))
              have HROW := Lib.hid (fun wx (hb : Below w3.heap.size w3 wx) => (HER.out.old (H.out.call hb)).sees.item encE_len (by omega) k v hv)
              obtain ⟨b1, off1, rfl, -, -⟩ := HROW.out _ HBW3.out
              clear hv
              go_wp2_with fail
              go_loopw [16, 17] (fun b j wr => ∃ m : Nat, m ≤ S.length ∧ j = .int .i64 (m : Int) ∧ b = .bool ((S.take m).any fun e => e.1 == v.1) ∧ Below (w4.alloc (.cells #[.int .i64 ok, .int .i64 okey, .int .i64 ot, .slice (some ⟨b1, off1, none⟩) fl.length ocap] 33)).heap.size (w4.alloc (.cells #[.int .i64 ok, .int .i64 okey, .int .i64 ot, .slice (some ⟨b1, off1, none⟩) fl.length ocap] 33)) wr) (fun _ j _ => S.length - (intOf j).toNat)
              case atStart => exact ⟨0, by omega, rfl, by simp, HBK.out⟩
              case round =>
                obtain ⟨m, hm, rfl, rfl, hb⟩ := hrel
                have HBM := Lib.hid hb
                have HB3M := Lib.hid (HB4.out.trans (hb.mono HB4.out.size))
                clear hb
                by_cases hml : m < S.length
                · obtain ⟨e, he⟩ : ∃ e, S[m]? = some e := ⟨_, List.getElem?_eq_getElem hml⟩
                  have HVE := Lib.hid he
                  have hstep : ((S.take (m + 1)).any fun e => e.1 == v.1) = (((S.take m).any fun e => e.1 == v.1) || (e.1 == v.1)) := by
                    rw [List.take_add_one, he]
                    simp
                  have HSTEP := Lib.hid hstep
                  have i5 : (m : Int) < (S.length : Int) := by omega
                  have i6 : (m : Int) < (cap3 : Int) := by omega
                  obtain ⟨b2, off2, rfl, -, -⟩ := (HV.out.below HB3M.out).item encE_len (by omega) m e he
                  clear he hstep
                  cases hin : (S.take m).any fun e => e.1 == v.1 with
                  | true =>
                    rw [hin] at HSTEP
                    obtain ⟨C, hC, HCc, HCf⟩ := below_class wr
                    go_wp2_with fail
                    refine region_in C hC (by kernel_rfl) (by kernel_rfl) ?_
                    iterate 16
                      (refine WQ.step (fun K hK => ?_)
                       go_simp
                       try simp only [if_true, if_false, decide_true, decide_false, Bool.or_false, Bool.and_false, Bool.true_and, Bool.true_or, Bool.or_true, Bool.false_or, bne_self_eq_false, beq_self_eq_true, Bool.not_true, Bool.not_false]
                       first
                         | (refine hK _ ?_; clear hK K)
                         | (apply Exists.intro
                            refine ⟨fun x hx => ?_, hK _ ?_⟩
                            · first
                                | rfl
                                | (obtain ⟨bb, oo, hA, -, hcc⟩ := (HV.out.below (HB3M.out.trans ((HCf.out _ hx).mono HB3M.out.size))).item encE_len (by omega) m e HVE.out; injection hA with hA; injection hA with e1 e2; subst e1 e2; have g0 := hcc 0 _ rfl; rw [Nat.add_zero] at g0; have hq := HQ.out.below (HBM.out.trans ((HCf.out _ hx).mono HBM.out.size)) HQ.out.lt; have o3 := hq.cell 3; obtain ⟨bb, oo, hA, -, hcc⟩ := HROW.out _ (HB3M.out.trans ((HCf.out _ hx).mono HB3M.out.size)); injection hA with hA; injection hA with e1 e2; subst e1 e2; have g2 := hcc 0 _ rfl; rw [Nat.add_zero] at g2; go_simp; rfl)
                            clear hK K))
                    refine WQ.nil ?_
                    intro w5 hw
                    have HBW := Lib.hid (HCf.out _ hw)
                    clear hw hC HCc HCf C
                    have HBM5 := Lib.hid (HBM.out.trans (HBW.out.mono HBM.out.size))
                    go_wp2_with fail
                    go_roundw
                    case rel => exact ⟨m + 1, by omega, by go_num, by rw [HSTEP.out]; simp, HBM5.out⟩
                    case measure => simp [intOf]; omega
                  | false =>
                    rw [hin] at HSTEP
                    obtain ⟨C, hC, HCc, HCf⟩ := below_class wr
                    go_wp2_with fail
                    refine region_in C hC (by kernel_rfl) (by kernel_rfl) ?_
                    iterate 16
                      (refine WQ.step (fun K hK => ?_)
                       go_simp
                       try simp only [if_true, if_false, decide_true, decide_false, Bool.or_false, Bool.and_false, Bool.true_and, Bool.true_or, Bool.or_true, Bool.false_or, bne_self_eq_false, beq_self_eq_true, Bool.not_true, Bool.not_false]
                       first
                         | (refine hK _ ?_; clear hK K)
                         | (apply Exists.intro
                            refine ⟨fun x hx => ?_, hK _ ?_⟩
                            · first
                                | rfl
                                | (obtain ⟨bb, oo, hA, -, hcc⟩ := (HV.out.below (HB3M.out.trans ((HCf.out _ hx).mono HB3M.out.size))).item encE_len (by omega) m e HVE.out; injection hA with hA; injection hA with e1 e2; subst e1 e2; have g0 := hcc 0 _ rfl; rw [Nat.add_zero] at g0; have hq := HQ.out.below (HBM.out.trans ((HCf.out _ hx).mono HBM.out.size)) HQ.out.lt; have o3 := hq.cell 3; obtain ⟨bb, oo, hA, -, hcc⟩ := HROW.out _ (HB3M.out.trans ((HCf.out _ hx).mono HB3M.out.size)); injection hA with hA; injection hA with e1 e2; subst e1 e2; have g2 := hcc 0 _ rfl; rw [Nat.add_zero] at g2; go_simp; rfl)
                            clear hK K))
                    refine WQ.nil ?_
                    intro w5 hw
                    have HBW := Lib.hid (HCf.out _ hw)
                    clear hw hC HCc HCf C
                    have HBM5 := Lib.hid (HBM.out.trans (HBW.out.mono HBM.out.size))
                    go_wp2_with fail
                    go_roundw
                    case rel => exact ⟨m + 1, by omega, by go_num, by rw [HSTEP.out]; simp, HBM5.out⟩
                    case measure => simp [intOf]; omega
                · obtain rfl : m = S.length := by omega
                  rw [List.take_length]
                  have HPM := Lib.hid (H.out.call HB3M.out)
                  have HG := Lib.hid (pget v.1 u HPM.out)
                  have HOUT := Lib.hid (HOU.out v.1)
                  have hq := HQ.out.below HBM.out HQ.out.lt
                  have o3 := hq.cell 3
                  have oz := hq.lt
                  obtain ⟨bb, oo, hA, -, hcc⟩ := HROW.out _ HB3M.out
                  injection hA with hA
                  injection hA with e1 e2
                  subst e1 e2
                  have g0 := hcc 0 _ rfl
                  rw [Nat.add_zero] at g0
                  clear hq hcc
                  generalize getSV c v.1 u = V at *
                  obtain ⟨V1, V2⟩ := V
                  cases hin : S.any fun e => e.1 == v.1 with
                  | true =>
                    generalize getSE c v.1 u = E at *
                    go_wp2_with fail
                    refine HG.out.mono ?_
                    rintro r w6 ⟨rfl, hb⟩
                    have HB6 := Lib.hid ((HBM.out.trans (hb.mono HBM.out.size)).alloc (Nat.le_trans HBM.out.size hb.size) (.cells #[.int .i64 V1, .int .i64 V2] 36))
                    clear hb
                    go_wp2_with fail
                    go_roundw
                    case rel => exact ⟨k + 1, by omega, by go_num, HB6.out⟩
                    case measure => simp [intOf]; omega
                  | false =>
                    have hE := HOUT.out hin
                    rcases hE with hE | hE
                    all_goals
                      rw [hE] at HG
                      clear hE
                      go_wp2_with fail
                      refine HG.out.mono ?_
                      rintro r w6 ⟨rfl, hb⟩
                      have HB6 := Lib.hid ((HBM.out.trans (hb.mono HBM.out.size)).alloc (Nat.le_trans HBM.out.size hb.size) (.cells #[.int .i64 V1, .int .i64 V2] 36))
                      clear hb
                      go_wp2_with fail
                      go_roundw
                      case rel => exact ⟨k + 1, by omega, by go_num, HB6.out⟩
                      case measure => simp [intOf]; omega
            · obtain rfl : k = fl.length := by omega
              have HBE := Lib.hid (HB4.out.trans (HBK.out.mono HB4.out.size))
              go_wp2_with fail
              go_roundw
              case rel => exact ⟨n + 1, by omega, by omega, by go_num, HBE.out⟩
              case measure => simp [intOf]; omega
        · have hend : ((n : Int) < (l.length : Int) ∧ n = 30) ∨ (¬ (n : Int) < (l.length : Int)) := by omega
          have HE := Lib.hid ((H.out.call HB.out).st.below)
          rcases hend with ⟨i1, rfl⟩ | i1
          all_goals
            go_wp2_with fail
            go_ret
            exact ⟨rfl, HE.out⟩

set_option maxRecDepth 100000 in
theorem lifted (os : Os) (started : os.Started) (H : Type) (enc : TypeId × Value → H) :
    ReturnsInHanded {} Try.checked os 7 .any (Rows.storeAgreesSpec.pre6 enc Try.prog Try.f7 Rows.storeAgreesRow.domain false) (Rows.storeAgreesSpec.post enc Try.prog Try.f7 false true false false) := by
  refine returnsInHanded_of_change (C := Try.checked) own started (by kernel_rfl) Try.func7
    (ChangeSpec.witness6 (enc := enc) (C := Try.checked) false ⟨#[], #[.slice none 0 0, .int .i64 0], []⟩ 8 (by kernel_rfl) (by kernel_rfl) (by kernel_rfl) (by kernel_rfl)) ?_
  intro W base args ds gs before hval0 hW hcnd _
  have hval : ∀ (j : Nat) t v, Try.f7.params[j]? = some t → args[j]? = some v → Value.okWide Try.prog W .any base t v := hval0
  have hW' := hW
  obtain ⟨p, q, hA0, hV, rfl, hfz, hnd⟩ := hW
  have hA : DataW.TrodAll enc Try.prog W 0 (fun _ => true) true Try.f7.params.toList args.toList ds p := hA0
  rw [Try.params7] at hA hval
  obtain ⟨v0, vs0, d0, ds0, p0, q0, hargs, rfl, rfl, h0, r0⟩ := trodAll_cons hA
  obtain ⟨v1, vs1, d1, ds1, p1, q1, rfl, rfl, rfl, h1, r1⟩ := trodAll_cons r0
  obtain ⟨rfl, rfl, rfl⟩ := trodAll_nil r1
  obtain rfl : args = #[v0, v1] := by cases args; simp_all
  obtain ⟨rfl, rfl⟩ := trodVars_none hV
  obtain ⟨A0, len0, cap0, rfl⟩ := okWide_slice Try.underlying22 (hval 0 22 v0 rfl rfl)
  obtain ⟨l0, w0⟩ := open_ops h0
  have lt0 : ∀ x ∈ p0, x.block < W.heap.size := by obtain ⟨m, hm⟩ := h0; exact DataW.trod_lt m _ _ _ hm
  obtain ⟨a1, rfl⟩ := okWide_int Try.underlying2 (hval 1 2 v1 rfl rfl)
  have w1 : -9223372036854775808 ≤ a1 ∧ a1 ≤ 9223372036854775807 := by
    obtain ⟨m, hm⟩ := h1
    obtain ⟨s, hs, _, hl⟩ := DataW.trod_int Try.underlying2 hm
    simp [Value.cells] at hs
    rw [hs]; have := bounds_i64 hl; omega
  have lt1 : ∀ x ∈ p1, x.block < W.heap.size := by obtain ⟨m, hm⟩ := h1; exact DataW.trod_lt m _ _ _ hm
  clear hA0 hval0
  simp only [List.append_nil] at hW'
  refine (walk A0 len0 cap0 l0 a1 w1 W w0).mono fun e W' ⟨he, bel⟩ => ?_
  subst he
  exact ⟨_, rfl, _, _, _, [], _, [], hW', trodAll_mk1 (shut_bool Try.underlying4 _), (trodAll_cons_mk (Below.trod laidOut (by kernel_rfl) (of_decide_eq_true (by kernel_rfl)) h0 bel lt0) (trodAll_cons_mk (Below.trod laidOut (by kernel_rfl) (of_decide_eq_true (by kernel_rfl)) h1 bel lt1) trodAll_mk0)), rfl, bel.frame _, fun h => by cases h⟩

theorem proved : Rows.StoreAgreesSaid :=
  OpenClaim.holds_of_wide 7 Try.f7 rfl rfl rfl rfl rfl rfl rfl ⟨rfl, rfl, rfl, rfl, rfl⟩ rfl rfl rfl rfl rfl (by kernel_rfl) Try.func7 (by kernel_rfl)
    (of_decide_eq_true (by kernel_rfl)) (by unfold Func.isWrapper; first | (rw [if_pos (by decide +kernel)]; kernel_rfl) | (rw [if_neg (by decide +kernel)]; exact ⟨rfl, rfl⟩))
    (fun os started H enc _ => lifted os started H enc)
#print axioms proved
end Go.Proofs.Yteneofbenfebgaa.storeAgrees
