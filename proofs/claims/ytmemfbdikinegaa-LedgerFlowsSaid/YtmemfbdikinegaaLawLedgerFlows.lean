/- Without a charge moves between two accounts come to one move of their sum; for every input, without conditions (of more moves the first 40 are made). -/
import Derived.Test.YtmemfbdikinegaaLedP
namespace Go.Proofs.Ytmemfbdikinegaa.ledgerFlows
open Go.ChangeShapes Go.WideShapes Go.ChangeAt Go.RowKit Go.Lk Go.Ld Go.Am
set_option linter.unusedVariables false
set_option linter.unusedSimpArgs false

set_option maxHeartbeats 16000000 in
set_option maxRecDepth 100000 in
theorem walk (a : Int) (ha : 0 ≤ a ∧ a ≤ 255) (b : Int) (hb : 0 ≤ b ∧ b ≤ 255) (A : Option Addr) (len cap : Nat) (l : List Int) (w : World) (hL : IsR w A len cap 1 (fun n : Int => [.int .i64 n]) W64 l) :
    Calls Try.prog 6 #[.int .u8 a, .int .u8 b, .slice A len cap] w fun r w' => r = .returned (.bool true) ∧ Below w.heap.size w w' := by
  obtain ⟨hlen, hs, hc1, hc2, hnil, hg⟩ := hL
  subst hlen
  have HS := Lib.hid hs
  have HGO := Lib.hid hg
  have haa : acc a = true := (acc_iff a).2 (by omega)
  have hbb : acc b = true := (acc_iff b).2 (by omega)
  have HAB := Lib.hid (show _ ∧ _ from ⟨haa, hbb⟩)
  have HW : Hid (W64 a ∧ W64 b) := Lib.hid ⟨by unfold W64; omega, by unfold W64; omega⟩
  have HR0 : Hid (rated 0 = true) := Lib.hid (by decide)
  clear hs hg hnil haa hbb
  go_enter Try.func6, Try.ntmps6
  go_wp2_with fail
  refine (new_any 0 (by decide) _).mono ?_
  rintro e w1 ⟨hb1, h | ⟨g, mb, -, rfl, hk, h1, h2⟩⟩
  · rw [HR0.out] at h
    cases h.1
  have HP1 := Lib.hid ((Lp.start w).more hb1 hk h1 h2)
  clear hb1 hk h1 h2
  go_wp2_with fail
  refine (new_any 0 (by decide) _).mono ?_
  rintro e w2 ⟨hb1, h | ⟨g2, m2, -, rfl, hk, h1, h2⟩⟩
  · rw [HR0.out] at h
    cases h.1
  have HP2 := Lib.hid (HP1.out.more hb1 hk h1 h2)
  clear hb1 hk h1 h2 HP1
  go_wp2_with fail
  refine (awake_any _).mono ?_
  rintro e w3 ⟨rfl, hb⟩
  have HP3 := Lib.hid (HP2.out.call hb)
  clear hb HP2
  by_cases hab : a = b
  · have hab2 : (a == b) = true := by simpa using hab
    go_wp2_with fail
    refine (awake_any _).mono ?_
    rintro e w4 ⟨rfl, hb⟩
    have HP4 := Lib.hid (HP3.out.call hb)
    clear hb HP3
    go_wp2_with fail
    go_ret
    exact ⟨rfl, HP4.out.st.below⟩
  · have hab2 : (a == b) = false := by simpa using hab
    obtain ⟨ho1, hf1, ho2, hf2⟩ := pair_first HAB.out.1 HAB.out.2 hab
    have HOP := Lib.hid (show _ ∧ _ ∧ _ ∧ _ from ⟨ho1, hf1, ho2, hf2⟩)
    have HAN : Hid (a ≠ b) := Lib.hid hab
    clear ho1 hf1 ho2 hf2
    have HC := Lib.hid (open_any a 1000000000000000 HW.out.1 (HP3.out.bk (List.mem_cons_of_mem _ (List.mem_cons_self ..)) (List.mem_cons_of_mem _ (List.mem_cons_self ..))) Fine.none)
    rw [HOP.out.1] at HC
    go_wp2_with fail
    refine HC.out.mono ?_
    rintro e w4 ⟨rfl, ho, hk⟩
    have HP4 := Lib.hid (HP3.out.swap.put ho hk.mv)
    clear ho hk HC HP3
    have HC := Lib.hid (open_any b 0 HW.out.2 (HP4.out.bk (List.mem_cons_of_mem _ (List.mem_cons_self ..)) (List.mem_cons_self ..)) HOP.out.2.1)
    rw [HOP.out.2.2.1, HOP.out.2.2.2] at HC
    go_wp2_with fail
    refine HC.out.mono ?_
    rintro e w5 ⟨rfl, ho, hk⟩
    have HP5 := Lib.hid (HP4.out.put ho hk.mv)
    clear ho hk HC HP4
    have HC := Lib.hid (open_any a 1000000000000000 HW.out.1 (HP5.out.bk (List.mem_cons_self ..) (List.mem_cons_of_mem _ (List.mem_cons_self ..))) Fine.none)
    rw [HOP.out.1] at HC
    go_wp2_with fail
    refine HC.out.mono ?_
    rintro e w6 ⟨rfl, ho, hk⟩
    have HP6 := Lib.hid (HP5.out.swap.put ho hk.mv)
    clear ho hk HC HP5
    have HC := Lib.hid (open_any b 0 HW.out.2 (HP6.out.bk (List.mem_cons_self ..) (List.mem_cons_self ..)) HOP.out.2.1)
    rw [HOP.out.2.2.1, HOP.out.2.2.2] at HC
    go_wp2_with fail
    refine HC.out.mono ?_
    rintro e w7 ⟨rfl, ho, hk⟩
    have HP7 := Lib.hid (HP6.out.put ho hk.mv).swap
    clear ho hk HC HP6 hab
    go_wp2_with fail
    go_loopw [13, 14] (fun v i wr => ∃ (n : Nat) (s : Int), n ≤ l.length ∧ n ≤ 40 ∧ i = .int .i64 (n : Int) ∧ v = .int .i64 s ∧ 0 ≤ s ∧ s ≤ 1000000000000000 ∧ Lp w wr [faceR g2 m2 0, faceR g mb 0] [(mb, pair a b (1000000000000000 - s) s), (m2, pair a b 1000000000000000 0)]) (fun _ i _ => l.length - (intOf i).toNat)
    case atStart => exact ⟨0, 0, by omega, by omega, rfl, rfl, by omega, by omega, HP7.out⟩
    case round =>
      obtain ⟨n, s, hn1, hn2, rfl, rfl, hs0, hs1, hp⟩ := hrel
      have HP := Lib.hid hp
      clear hp HP7
      have hpo := pair_ok HAB.out.1 HAB.out.2 HAN.out (n := 1000000000000000 - s) (m := s) (by omega) (by omega)
      have HPO := Lib.hid hpo
      have HPZ := Lib.hid (pair_ok HAB.out.1 HAB.out.2 HAN.out (n := 1000000000000000) (m := 0) (by omega) (by omega))
      clear hpo
      by_cases hlt : n < l.length ∧ n < 40
      · obtain ⟨h1, h2⟩ := hlt
        obtain ⟨m, ho⟩ : ∃ m, l[n]? = some m := ⟨_, List.getElem?_eq_getElem h1⟩
        obtain ⟨b0, off, rfl, hb0, hcc⟩ := (HS.out.below HP.out.st.below).item (fun _ => rfl) (by omega) n m ho
        have q0 := hcc 0 _ rfl
        rw [Nat.add_zero, Nat.mul_one] at q0
        have HQ0 : Hid (∀ y, Below w.heap.size w y → y.cell? ⟨b0, off + n, none⟩ = some (.int .i64 m)) := Lib.hid fun y hy => by
          obtain ⟨b9, off9, hA9, -, hc9⟩ := (HS.out.below hy).item (fun _ => rfl) (by omega) n m ho
          injection hA9 with hA9
          injection hA9 with hA9 hA10
          subst hA9 hA10
          have := hc9 0 _ rfl
          rwa [Nat.add_zero, Nat.mul_one] at this
        have i1 : (n : Int) < (l.length : Int) := by omega
        have i2 : (n : Int) < 40 := by omega
        have hm64 := HGO.out m (List.mem_of_getElem? ho)
        have HC := Lib.hid (move_any a b m HW.out.1 HW.out.2 hm64 (HP.out.bk (List.mem_cons_of_mem _ (List.mem_cons_self ..)) (List.mem_cons_self ..)) HPO.out.1 (by decide) HR0.out (by rw [HPO.out.2]; omega))
        have HPM := Lib.hid (pair_move HAB.out.1 HAB.out.2 HAN.out (n := m) (s := s) ⟨hs0, hs1⟩)
        clear hcc ho hm64
        rcases HPM.out with ⟨he, hv, hf⟩ | ⟨he, hv, hm0, hm1, hf⟩
        · rw [hv, hf] at HC
          rcases he with he | he
          all_goals
            rw [he] at HC
            clear hv hf he HPM
            go_wp2_with fail
            refine HC.out.mono ?_
            rintro e w9 ⟨rfl, ho, hk⟩
            have HP9 := Lib.hid (HP.out.put ho hk.mv)
            clear ho hk HC HP
            go_wp2_with fail
            go_roundw
            case rel => exact ⟨n + 1, s, by omega, by omega, by go_num, rfl, hs0, hs1, HP9.out⟩
            case measure => simp [intOf]; omega
        · rw [he, hv, hf] at HC
          clear hv hf he HPM
          go_wp2_with fail
          refine HC.out.mono ?_
          rintro e w9 ⟨rfl, ho, hk⟩
          have HP9 := Lib.hid (HP.out.put ho hk.mv)
          clear ho hk HC HP q0
          have q0 := HQ0.out _ HP9.out.st.below
          go_wp2_with fail
          go_roundw
          case rel => exact ⟨n + 1, s + m, by omega, by omega, by go_num, rfl, by omega, by omega, HP9.out⟩
          case measure => simp [intOf]; omega
      · have hend : ((n : Int) < (l.length : Int) ∧ n = 40) ∨ (¬ (n : Int) < (l.length : Int)) := by omega
        have HSL := Lib.hid (supp_len HPO.out.1)
        have HFF := Lib.hid HPO.out.1
        by_cases hz : 0 < s
        · have HC := Lib.hid (move_any a b s HW.out.1 HW.out.2 (by unfold W64; omega) (HP.out.bk (List.mem_cons_self ..) (List.mem_cons_of_mem _ (List.mem_cons_self ..))) HPZ.out.1 (by decide) HR0.out (by rw [HPZ.out.2]; omega))
          have hpm := pair_move HAB.out.1 HAB.out.2 HAN.out (n := s) (s := 0) ⟨by omega, by omega⟩
          have hok : moveE 0 (pair a b 1000000000000000 0) a b s = 0 ∧ moveV 0 (pair a b 1000000000000000 0) a b s = 0 ∧ moveF 0 (pair a b 1000000000000000 0) a b s = pair a b (1000000000000000 - s) s := pair_whole HAB.out.1 HAB.out.2 HAN.out ⟨hz, hs1⟩
          rw [hok.1, hok.2.1, hok.2.2] at HC
          clear hok hpm HPO HPZ
          generalize pair a b (1000000000000000 - s) s = f at *
          rcases hend with ⟨i1, rfl⟩ | i1
          all_goals
            go_wp2_with fail
            refine HC.out.mono ?_
            rintro e w9 ⟨rfl, ho, hk⟩
            have HP9 := Lib.hid (HP.out.swap.put ho hk.mv)
            clear ho hk HC HP
            have HC := Lib.hid (list_any (HP9.out.bk (List.mem_cons_of_mem _ (List.mem_cons_self ..)) (List.mem_cons_of_mem _ (List.mem_cons_self ..))) HFF.out)
            go_wp2_with fail
            refine HC.out.mono ?_
            rintro e wa ⟨A1, c1, rfl, hb, ho⟩
            have HPA := Lib.hid (HP9.out.call hb)
            have HOA := Lib.hid ho
            clear hb ho HC
            have HC := Lib.hid (list_any (HPA.out.bk (List.mem_cons_self ..) (List.mem_cons_self ..)) HFF.out)
            go_wp2_with fail
            refine HC.out.mono ?_
            rintro e wb ⟨A2, c2, rfl, hb, ho⟩
            have HPB := Lib.hid (HPA.out.call hb)
            have HS := Lib.hid (rsame_any A1 c1 A2 c2 (val f) (supp (ent f)) wb (((Sees.own HOA.out).below hb).more hb.size) (Sees.own ho) (own_room HOA.out) (own_room ho) (by have := HSL.out; omega))
            clear hb ho HC HOA
            go_wp2_with fail
            refine HS.out.mono ?_
            rintro e wc ⟨rfl, hb⟩
            have HPC := Lib.hid (HPB.out.call hb)
            clear hb HS HPB HPA
            go_wp2_with fail
            go_ret
            exact ⟨rfl, HPC.out.st.below⟩
        · obtain rfl : s = 0 := by omega
          rw [show (1000000000000000 - 0 : Int) = 1000000000000000 from rfl] at HP HPO HSL HFF
          clear HPO HPZ
          generalize pair a b 1000000000000000 0 = f at *
          rcases hend with ⟨i1, rfl⟩ | i1
          all_goals
            have HC := Lib.hid (list_any (HP.out.bk (List.mem_cons_of_mem _ (List.mem_cons_self ..)) (List.mem_cons_self ..)) HFF.out)
            go_wp2_with fail
            refine HC.out.mono ?_
            rintro e wa ⟨A1, c1, rfl, hb, ho⟩
            have HPA := Lib.hid (HP.out.call hb)
            have HOA := Lib.hid ho
            clear hb ho HC
            have HC := Lib.hid (list_any (HPA.out.bk (List.mem_cons_self ..) (List.mem_cons_of_mem _ (List.mem_cons_self ..))) HFF.out)
            go_wp2_with fail
            refine HC.out.mono ?_
            rintro e wb ⟨A2, c2, rfl, hb, ho⟩
            have HPB := Lib.hid (HPA.out.call hb)
            have HS := Lib.hid (rsame_any A1 c1 A2 c2 (val f) (supp (ent f)) wb (((Sees.own HOA.out).below hb).more hb.size) (Sees.own ho) (own_room HOA.out) (own_room ho) (by have := HSL.out; omega))
            clear hb ho HC HOA
            go_wp2_with fail
            refine HS.out.mono ?_
            rintro e wc ⟨rfl, hb⟩
            have HPC := Lib.hid (HPB.out.call hb)
            clear hb HS HPB HPA
            go_wp2_with fail
            go_ret
            exact ⟨rfl, HPC.out.st.below⟩

set_option maxRecDepth 100000 in
theorem lifted (os : Os) (started : os.Started) (H : Type) (enc : TypeId × Value → H) :
    ReturnsInHanded {} Try.checked os 6 .any (Rows.ledgerFlowsSpec.pre6 enc Try.prog Try.f6 Rows.ledgerFlowsRow.domain false) (Rows.ledgerFlowsSpec.post enc Try.prog Try.f6 false true false false) := by
  refine returnsInHanded_of_change (C := Try.checked) own started (by kernel_rfl) Try.func6
    (ChangeSpec.witness6 (enc := enc) (C := Try.checked) false ⟨#[], #[.int .u8 0, .int .u8 0, .slice none 0 0], []⟩ 8 (by kernel_rfl) (by kernel_rfl) (by kernel_rfl) (by kernel_rfl)) ?_
  intro W base args ds gs before hval0 hW hcnd _
  have hval : ∀ (j : Nat) t v, Try.f6.params[j]? = some t → args[j]? = some v → Value.okWide Try.prog W .any base t v := hval0
  have hW' := hW
  obtain ⟨p, q, hA0, hV, rfl, hfz, hnd⟩ := hW
  have hA : DataW.TrodAll enc Try.prog W 0 (fun _ => true) true Try.f6.params.toList args.toList ds p := hA0
  rw [Try.params6] at hA hval
  obtain ⟨v0, vs0, d0, ds0, p0, q0, hargs, rfl, rfl, h0, r0⟩ := trodAll_cons hA
  obtain ⟨v1, vs1, d1, ds1, p1, q1, rfl, rfl, rfl, h1, r1⟩ := trodAll_cons r0
  obtain ⟨v2, vs2, d2, ds2, p2, q2, rfl, rfl, rfl, h2, r2⟩ := trodAll_cons r1
  obtain ⟨rfl, rfl, rfl⟩ := trodAll_nil r2
  obtain rfl : args = #[v0, v1, v2] := by cases args; simp_all
  obtain ⟨rfl, rfl⟩ := trodVars_none hV
  obtain ⟨a0, rfl⟩ := okWide_int Try.underlying5 (hval 0 5 v0 rfl rfl)
  have w0 : 0 ≤ a0 ∧ a0 ≤ 255 := by
    obtain ⟨m, hm⟩ := h0
    obtain ⟨s, hs, _, hl⟩ := DataW.trod_int Try.underlying5 hm
    simp [Value.cells] at hs
    rw [hs]; have := bounds_u8 hl; omega
  have lt0 : ∀ x ∈ p0, x.block < W.heap.size := by obtain ⟨m, hm⟩ := h0; exact DataW.trod_lt m _ _ _ hm
  obtain ⟨a1, rfl⟩ := okWide_int Try.underlying5 (hval 1 5 v1 rfl rfl)
  have w1 : 0 ≤ a1 ∧ a1 ≤ 255 := by
    obtain ⟨m, hm⟩ := h1
    obtain ⟨s, hs, _, hl⟩ := DataW.trod_int Try.underlying5 hm
    simp [Value.cells] at hs
    rw [hs]; have := bounds_u8 hl; omega
  have lt1 : ∀ x ∈ p1, x.block < W.heap.size := by obtain ⟨m, hm⟩ := h1; exact DataW.trod_lt m _ _ _ hm
  obtain ⟨A2, len2, cap2, rfl⟩ := okWide_slice Try.underlying48 (hval 2 48 v2 rfl rfl)
  obtain ⟨l2, w2⟩ := open_nums h2
  have lt2 : ∀ x ∈ p2, x.block < W.heap.size := by obtain ⟨m, hm⟩ := h2; exact DataW.trod_lt m _ _ _ hm
  clear hA0 hval0
  simp only [List.append_nil] at hW'
  refine (walk a0 w0 a1 w1 A2 len2 cap2 l2 W w2).mono fun e W' ⟨he, bel⟩ => ?_
  subst he
  exact ⟨_, rfl, _, _, _, [], _, [], hW', trodAll_mk1 (shut_bool Try.underlying4 _), (trodAll_cons_mk (Below.trod laidOut (by kernel_rfl) (of_decide_eq_true (by kernel_rfl)) h0 bel lt0) (trodAll_cons_mk (Below.trod laidOut (by kernel_rfl) (of_decide_eq_true (by kernel_rfl)) h1 bel lt1) (trodAll_cons_mk (Below.trod laidOut (by kernel_rfl) (of_decide_eq_true (by kernel_rfl)) h2 bel lt2) trodAll_mk0))), rfl, bel.frame _, fun h => by cases h⟩

theorem proved : Rows.LedgerFlowsSaid :=
  OpenClaim.holds_of_wide 6 Try.f6 rfl rfl rfl rfl rfl rfl rfl ⟨rfl, rfl, rfl, rfl, rfl⟩ rfl rfl rfl rfl rfl (by kernel_rfl) Try.func6 (by kernel_rfl)
    (of_decide_eq_true (by kernel_rfl)) (by unfold Func.isWrapper; first | (rw [if_pos (by decide +kernel)]; kernel_rfl) | (rw [if_neg (by decide +kernel)]; exact ⟨rfl, rfl⟩))
    (fun os started H enc _ => lifted os started H enc)
#print axioms proved
end Go.Proofs.Ytmemfbdikinegaa.ledgerFlows
