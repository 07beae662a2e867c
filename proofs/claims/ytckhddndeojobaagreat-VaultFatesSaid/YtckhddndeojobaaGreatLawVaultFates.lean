/- A part has one fate; for every input, without conditions (of more calls the first 40 are made, and of those that follow the first 10 behind each). -/
import Derived.Test.YtckhddndeojobaaGreatVltB
namespace Go.Proofs.YtckhddndeojobaaGreat.vaultFates
open Go.ChangeShapes Go.WideShapes Go.ChangeAt Go.RowKit Go.Cn Go.So Go.Vt
set_option linter.unusedVariables false
set_option linter.unusedSimpArgs false

set_option maxHeartbeats 16000000 in
set_option maxRecDepth 100000 in
theorem walk (x : Nat) (hx : x < 18446744073709551616) (A : Option Addr) (len cap : Nat) (l : List Op15) (A' : Option Addr) (len' cap' : Nat) (m : List Op15) (w : World) (hL : IsR w A len cap 6 encO GO l) (hM : IsR w A' len' cap' 6 encO GO m) :
    Calls Tryz.prog 4 #[.float .f64 x, .slice A len cap, .slice A' len' cap'] w fun r w' => r = .returned (.bool true) ∧ Below w.heap.size w w' := by
  obtain ⟨hlen, hs, hc1, hc2, hnil, hg⟩ := hL
  subst hlen
  have HMA := Lib.hid (made_any x hx A cap l w hs hc1 hc2 hg)
  have HS0 := Lib.hid hs
  have HG0 := Lib.hid hg
  clear hs hg hnil
  obtain ⟨hlen, hs, hd1, hd2, hnil, hg⟩ := hM
  subst hlen
  have HS := Lib.hid hs
  have HGO := Lib.hid hg
  clear hs hg hnil
  go_enter Tryz.func4, Tryz.ntmps4
  go_wp2_with fail
  refine HMA.out.mono ?_
  rintro r w1 (⟨hr, rfl, hb⟩ | ⟨g, hr, rfl, hp⟩)
  · have HB := Lib.hid hb
    clear hb hr HMA
    go_wp2_with fail
    refine (awake_any _).mono ?_
    rintro e w2 ⟨rfl, hb2⟩
    have HB2 := Lib.hid (HB.out.trans (hb2.mono HB.out.size))
    clear hb2
    go_wp2_with fail
    refine (awake_any _).mono ?_
    rintro e w3 ⟨rfl, hb3⟩
    have HB3 := Lib.hid (HB2.out.trans (hb3.mono HB2.out.size))
    clear hb3
    go_wp2_with fail
    go_ret
    exact ⟨rfl, HB3.out⟩
  have H := Lib.hid hp
  clear hp HMA hr
  generalize mk x (l.take 40) = c at *
  go_wp2_with fail
  refine (awake_any _).mono ?_
  rintro r w2 ⟨rfl, hb1⟩
  replace H := Lib.hid (H.out.call hb1)
  clear hb1
  go_wp2_with fail
  go_loopw [8] (fun i wr => ∃ (n : Nat) (c' : Vt), n ≤ l.length ∧ n ≤ 40 ∧ i = .int .i64 (n : Int) ∧ Vp w wr g c' (40 + 12 * n) (fun _ => False)) (fun i _ => l.length - (intOf i).toNat)
  case atStart => exact ⟨0, c, by omega, by omega, rfl, H.out⟩
  case round =>
    obtain ⟨n, c', hn1, hn2, rfl, hp⟩ := hrel
    have HP := Lib.hid hp
    clear hp H
    by_cases hlt : n < l.length ∧ n < 40
    · obtain ⟨h1, h2⟩ := hlt
      obtain ⟨o, ho⟩ : ∃ o, l[n]? = some o := ⟨_, List.getElem?_eq_getElem h1⟩
      obtain ⟨b0, off, rfl, hb, hcc⟩ := (HS0.out.below HP.out.bel).item encO_len (by omega) n o ho
      have hid := (HG0.out o (List.mem_of_getElem? ho)).id
      have q1 := hcc 1 _ rfl
      generalize o.id = id at *
      have HFA := Lib.hid (vp_fate id hid HP.out)
      have HGS := Lib.hid (Goes.refl (fateOf c' id))
      have HKI := Lib.hid (HP.out.good.kinds id)
      have HIN := Lib.hid (HP.out.good.fate id)
      have HFS := Lib.hid (fun h => fate_some (v := c') (id := id) h)
      have HFN : Hid ((fateOf c' id).is = 0 → (fateOf c' id).t = 0) := Lib.hid fun h => by
        unfold fateOf at *
        cases e : c'.fates id with
        | none => rfl
        | some f =>
          rw [e] at h
          rcases (HIN.out f e).2 with ⟨k, -⟩ | ⟨k, -⟩ | ⟨k, -⟩ <;> (simp only [Option.getD_some] at h; omega)
      have HF2 : Hid ((fateOf c' id).is = 2 → 1 ≤ id ∧ 1 ≤ (fateOf c' id).t ∧ (fateOf c' id).t ≤ 1125899906842624) := Lib.hid fun h => by
        obtain ⟨k1, k2⟩ := HIN.out _ (HFS.out (by rw [h]; decide))
        have htop := HP.out.good.top
        rcases k2 with ⟨k2, -⟩ | ⟨k2, k3, k4⟩ | ⟨k2, -⟩
        · omega
        · omega
        · omega
      have HF3 : Hid ((fateOf c' id).is = 3 → 1 ≤ id ∧ (fateOf c' id).t = 0) := Lib.hid fun h => by
        obtain ⟨k1, k2⟩ := HIN.out _ (HFS.out (by rw [h]; decide))
        rcases k2 with ⟨k2, -⟩ | ⟨k2, k3, k4⟩ | ⟨k2, k3⟩
        · omega
        · omega
        · exact ⟨k1, k3⟩
      have i1 : (n : Int) < (l.length : Int) := by omega
      have i2 : (n : Int) < 40 := by omega
      clear hcc ho HFS HIN
      generalize hfe : fateOf c' id = f at *
      obtain ⟨f1, f2, f3⟩ := f
      have HFE := Lib.hid hfe
      clear hfe
      dsimp only at *
      go_wp2_with fail
      refine HFA.out.mono ?_
      rintro r w3 ⟨rfl, hb3⟩
      have HP3 := Lib.hid (HP.out.call hb3)
      clear hb3 HFA HP q1
      go_wp2_with fail
      go_loopw [12] (fun i wx => ∃ (k : Nat) (d : Vt), k ≤ m.length ∧ k ≤ 10 ∧ i = .int .i64 (k : Int) ∧ Hid (Goes ⟨f1, f2, f3⟩ (fateOf d id)) ∧ Vp w wx g d (40 + 12 * n + k) (fun _ => False)) (fun i _ => m.length - (intOf i).toNat)
      case atStart => exact ⟨0, c', by omega, by omega, rfl, Lib.hid (by rw [HFE.out]; exact HGS.out), HP3.out⟩
      case round =>
        obtain ⟨k, d, hk1, hk2, rfl, HG, hp⟩ := hrel
        have HP := Lib.hid hp
        clear hp HGS HP3 HFE
        by_cases hlt : k < m.length ∧ k < 10
        · obtain ⟨h5, h6⟩ := hlt
          obtain ⟨o, ho⟩ : ∃ o, m[k]? = some o := ⟨_, List.getElem?_eq_getElem h5⟩
          obtain ⟨b5, off5, rfl, hb5, hcc⟩ := (HS.out.below HP.out.bel).item encO_len (by omega) k o ho
          have HONE := Lib.hid (one_any o (HGO.out o (List.mem_of_getElem? ho)) HP.out (by omega))
          have HG2 : Hid (Goes ⟨f1, f2, f3⟩ (fateOf (oneV d o) id)) := Lib.hid (HG.out.trans (goes_one o id) (HP.out.good.kinds id))
          have q0 := hcc 0 _ rfl
          have q1 := hcc 1 _ rfl
          have q2 := hcc 2 _ rfl
          have q3 := hcc 3 _ rfl
          have q4 := hcc 4 _ rfl
          have q5 := hcc 5 _ rfl
          rw [Nat.add_zero] at q0
          have i5 : (k : Int) < (m.length : Int) := by omega
          have i6 : (k : Int) < 10 := by omega
          clear hcc ho
          go_wp2_with fail
          refine HONE.out.mono ?_
          rintro e w4 ⟨rfl, hp, -⟩
          have HP2 := Lib.hid hp
          clear hp
          go_wp2_with fail
          go_roundw
          case rel => exact ⟨k + 1, _, by omega, by omega, by go_num, HG2, HP2.out⟩
          case measure => simp [intOf]; omega
        · have hend : ((k : Int) < (m.length : Int) ∧ k = 10) ∨ (¬ (k : Int) < (m.length : Int)) := by omega
          have HP5 := Lib.hid (HP.out.le (show 40 + 12 * n + k ≤ 40 + 12 * n + 10 by omega))
          clear HP
          have HFA := Lib.hid (vp_fate id hid HP5.out)
          have HCM := Lib.hid (fun z t (hz : Vp w z g d (40 + 12 * n + 10) fun _ => False) => vp_commit t id hid hz (by omega))
          have HDR := Lib.hid (fun z (hz : Vp w z g d (40 + 12 * n + 10) fun _ => False) => vp_drop id hid hz)
          rcases HKI.out with hk | hk | hk | hk
          · subst f1
            have j1 := HFN.out rfl
            subst j1
            generalize (fateOf d id).is = fi at *
            generalize (fateOf d id).t = ft at *
            clear HG HF2 HF3 HFN HKI
            rcases hend with ⟨i5, rfl⟩ | i5
            all_goals
              go_wp2_with fail
              refine HFA.out.mono ?_
              rintro r w5 ⟨rfl, hb5⟩
              have HP6 := Lib.hid (HP5.out.call hb5)
              clear hb5 HFA HP5
              go_wp2_with fail
              go_roundw
              case rel => exact ⟨n + 1, _, by omega, by omega, by go_num, HP6.out.le (by omega)⟩
              case measure => simp [intOf]; omega
          · subst f1
            have j1 := HG.out.2.2 rfl
            have i9 : ((fateOf d id).is == 0) = false := by simpa using j1
            generalize (fateOf d id).is = fi at *
            generalize (fateOf d id).t = ft at *
            clear HG HF2 HF3 HFN HKI
            rcases hend with ⟨i5, rfl⟩ | i5
            all_goals
              go_wp2_with fail
              refine HFA.out.mono ?_
              rintro r w5 ⟨rfl, hb5⟩
              have HP6 := Lib.hid (HP5.out.call hb5)
              clear hb5 HFA HP5
              go_wp2_with fail
              go_roundw
              case rel => exact ⟨n + 1, _, by omega, by omega, by go_num, HP6.out.le (by omega)⟩
              case measure => simp [intOf]; omega
          · subst f1
            obtain ⟨k1, k2, k3⟩ := HF2.out rfl
            obtain ⟨j1, j2⟩ := HG.out.1 rfl
            have hst : isSt f2 = true := (isSt_iff f2).2 ⟨k2, k3⟩
            have HC : Hid (commitE d f2 id = 0 ∧ commitV d f2 id = d) := Lib.hid ⟨by unfold commitE; rw [hst, if_neg (by simp), if_pos ⟨j1, j2⟩], by unfold commitV; rw [if_neg fun h => by have h2 := h.2.1; omega]⟩
            have HD : Hid (dropE d id = 157 ∧ dropV d id = d) := Lib.hid (by
              have e : dropE d id = 157 := by unfold dropE; rw [if_neg (by omega), if_pos j1]
              exact ⟨e, by unfold dropV; rw [if_neg (by rw [e]; decide)]⟩)
            simp only at j2
            rw [j1, j2] at HFA
            clear HG HF2 HF3 HFN HKI j1 j2 hst k1 k2 k3
            rcases hend with ⟨i5, rfl⟩ | i5
            all_goals
              go_wp2_with fail
              refine HFA.out.mono ?_
              rintro r w5 ⟨rfl, hb5⟩
              have HP6 := Lib.hid (HP5.out.call hb5)
              clear hb5 HFA HP5
              go_wp2_with fail
              refine (HCM.out w5 f2 HP6.out).mono ?_
              rintro e w6 ⟨rfl, hp, -⟩
              rw [HC.out.1]
              rw [HC.out.2] at hp
              have HP7 := Lib.hid hp
              clear hp
              go_wp2_with fail
              refine (vp_drop id hid HP7.out).mono ?_
              rintro e w7 ⟨rfl, hp, -⟩
              rw [HD.out.1]
              rw [HD.out.2] at hp
              have HP8 := Lib.hid (hp.le (show 40 + 12 * n + 10 + 1 ≤ 40 + 12 * (n + 1) by omega))
              clear hp
              go_wp2_with fail
              go_roundw
              case rel => exact ⟨n + 1, _, by omega, by omega, by go_num, HP8.out⟩
              case measure => simp [intOf]; omega
          · subst f1
            obtain ⟨k1, rfl⟩ := HF3.out rfl
            have j1 := HG.out.2.1 rfl
            have hk : (d.fates id).isSome = true := by rw [fate_some (v := d) (id := id) (by rw [j1]; decide)]; rfl
            have HD : Hid (dropE d id = 0 ∧ fateOf (dropV d id) id = ⟨3, 0, 0⟩) := Lib.hid (by
              have e : dropE d id = 0 := by unfold dropE; rw [if_neg (by omega), if_neg (by rw [j1]; decide), if_neg (by rw [hk]; simp)]
              refine ⟨e, ?_⟩
              unfold dropV
              rw [if_pos e]
              show ((Go.Lk.upd d.fates id (some ⟨3, 0, 0⟩)) id).getD noFt = _
              rw [Go.Lk.upd_same]
              rfl)
            have HC : Hid (commitE (dropV d id) 1125899906842624 id = 163 ∧ commitV (dropV d id) 1125899906842624 id = dropV d id) := Lib.hid (by
              have e := HD.out.2
              refine ⟨by unfold commitE; rw [e]; decide, by unfold commitV; rw [if_neg fun h => by have h2 := h.2.1; rw [e] at h2; cases h2]⟩)
            rw [j1] at HFA
            generalize (fateOf d id).t = ft at *
            clear HG HF2 HF3 HFN HKI j1 k1 hk
            rcases hend with ⟨i5, rfl⟩ | i5
            all_goals
              go_wp2_with fail
              refine HFA.out.mono ?_
              rintro r w5 ⟨rfl, hb5⟩
              have HP6 := Lib.hid (HP5.out.call hb5)
              clear hb5 HFA HP5
              go_wp2_with fail
              refine (HDR.out w5 HP6.out).mono ?_
              rintro e w6 ⟨rfl, hp, -⟩
              rw [HD.out.1]
              have HP7 := Lib.hid hp
              clear hp
              go_wp2_with fail
              refine (vp_commit 1125899906842624 id hid HP7.out (by omega)).mono ?_
              rintro e w7 ⟨rfl, hp, -⟩
              rw [HC.out.1]
              rw [HC.out.2] at hp
              have HP8 := Lib.hid (hp.le (show 40 + 12 * n + 10 + 1 ≤ 40 + 12 * (n + 1) by omega))
              clear hp
              go_wp2_with fail
              go_roundw
              case rel => exact ⟨n + 1, _, by omega, by omega, by go_num, HP8.out⟩
              case measure => simp [intOf]; omega
    · have hend : ((n : Int) < (l.length : Int) ∧ n = 40) ∨ (¬ (n : Int) < (l.length : Int)) := by omega
      rcases hend with ⟨i1, rfl⟩ | i1
      all_goals
        go_wp2_with fail
        go_ret
        exact ⟨rfl, HP.out.bel⟩

set_option maxRecDepth 100000 in
theorem lifted (os : Os) (started : os.Started) (H : Type) (enc : TypeId × Value → H) :
    ReturnsInHanded {} Tryz.checked os 4 .any (Rows.vaultFatesSpec.pre6 enc Tryz.prog Tryz.f4 Rows.vaultFatesRow.domain false) (Rows.vaultFatesSpec.post enc Tryz.prog Tryz.f4 false true false false) := by
  refine returnsInHanded_of_change (C := Tryz.checked) own started (by kernel_rfl) Tryz.func4
    (ChangeSpec.witness6 (enc := enc) (C := Tryz.checked) false ⟨#[], #[.float .f64 0, .slice none 0 0, .slice none 0 0], []⟩ 8 (by kernel_rfl) (by kernel_rfl) (by kernel_rfl) (by kernel_rfl)) ?_
  intro W base args ds gs before hval0 hW hcnd _
  have hval : ∀ (j : Nat) t v, Tryz.f4.params[j]? = some t → args[j]? = some v → Value.okWide Tryz.prog W .any base t v := hval0
  have hW' := hW
  obtain ⟨p, q, hA0, hV, rfl, hfz, hnd⟩ := hW
  have hA : DataW.TrodAll enc Tryz.prog W 0 (fun _ => true) true Tryz.f4.params.toList args.toList ds p := hA0
  rw [Tryz.params4] at hA hval
  obtain ⟨v0, vs0, d0, ds0, p0, q0, hargs, rfl, rfl, h0, r0⟩ := trodAll_cons hA
  obtain ⟨v1, vs1, d1, ds1, p1, q1, rfl, rfl, rfl, h1, r1⟩ := trodAll_cons r0
  obtain ⟨v2, vs2, d2, ds2, p2, q2, rfl, rfl, rfl, h2, r2⟩ := trodAll_cons r1
  obtain ⟨rfl, rfl, rfl⟩ := trodAll_nil r2
  obtain rfl : args = #[v0, v1, v2] := by cases args; simp_all
  obtain ⟨rfl, rfl⟩ := trodVars_none hV
  obtain ⟨a0, rfl⟩ := okWide_float Tryz.underlying22 (hval 0 22 v0 rfl rfl)
  have w0 : a0 < 18446744073709551616 := by
    obtain ⟨m, hm⟩ := h0
    obtain ⟨s, hs, hl⟩ := float_of (k := .f64) Tryz.underlying22 hm
    simp [Value.cells] at hs
    rw [hs]; simpa [Lit.wf] using hl
  have lt0 : ∀ x ∈ p0, x.block < W.heap.size := by obtain ⟨m, hm⟩ := h0; exact DataW.trod_lt m _ _ _ hm
  obtain ⟨A1, len1, cap1, rfl⟩ := okWide_slice Tryz.underlying23 (hval 1 23 v1 rfl rfl)
  obtain ⟨l1, w1⟩ := open_ops h1
  have lt1 : ∀ x ∈ p1, x.block < W.heap.size := by obtain ⟨m, hm⟩ := h1; exact DataW.trod_lt m _ _ _ hm
  obtain ⟨A2, len2, cap2, rfl⟩ := okWide_slice Tryz.underlying23 (hval 2 23 v2 rfl rfl)
  obtain ⟨l2, w2⟩ := open_ops h2
  have lt2 : ∀ x ∈ p2, x.block < W.heap.size := by obtain ⟨m, hm⟩ := h2; exact DataW.trod_lt m _ _ _ hm
  clear hA0 hval0
  simp only [List.append_nil] at hW'
  refine (walk a0 w0 A1 len1 cap1 l1 A2 len2 cap2 l2 W w1 w2).mono fun e W' ⟨he, bel⟩ => ?_
  subst he
  exact ⟨_, rfl, _, _, _, [], _, [], hW', trodAll_mk1 (shut_bool Tryz.underlying4 _), (trodAll_cons_mk (Below.trod laidOut (by kernel_rfl) (of_decide_eq_true (by kernel_rfl)) h0 bel lt0) (trodAll_cons_mk (Below.trod laidOut (by kernel_rfl) (of_decide_eq_true (by kernel_rfl)) h1 bel lt1) (trodAll_cons_mk (Below.trod laidOut (by kernel_rfl) (of_decide_eq_true (by kernel_rfl)) h2 bel lt2) trodAll_mk0))), rfl, bel.frame _, fun h => by cases h⟩

theorem proved : Rows.VaultFatesSaid :=
  OpenClaim.holds_of_wide 4 Tryz.f4 rfl rfl rfl rfl rfl rfl rfl ⟨rfl, rfl, rfl, rfl, rfl⟩ rfl rfl rfl rfl rfl (by kernel_rfl) Tryz.func4 (by kernel_rfl)
    (of_decide_eq_true (by kernel_rfl)) (by unfold Func.isWrapper; first | (rw [if_pos (by decide +kernel)]; kernel_rfl) | (rw [if_neg (by decide +kernel)]; exact ⟨rfl, rfl⟩))
    (fun os started H enc _ => lifted os started H enc)
#print axioms proved
end Go.Proofs.YtckhddndeojobaaGreat.vaultFates
