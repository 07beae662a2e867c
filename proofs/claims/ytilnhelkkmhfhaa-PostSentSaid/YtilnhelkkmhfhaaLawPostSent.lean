/- What is taken was sent, as it was sent, and as often as it was sent and copied, less what was lost: moietylaw09.PostSent answers true. For every whole number and list of calls; no conditions. -/
import Derived.Test.YtilnhelkkmhfhaaPostK
namespace Go.Proofs.Ytilnhelkkmhfhaa.postSent
open Go.ChangeShapes Go.WideShapes Go.ChangeAt Go.RowKit Go.Po
set_option linter.unusedVariables false
set_option linter.unusedSimpArgs false

set_option maxRecDepth 100000 in
set_option maxHeartbeats 4000000 in
theorem walk (m0 : Int) (wm : -9223372036854775808 ≤ m0 ∧ m0 ≤ 9223372036854775807) (A : Option Addr) (len cap : Nat) (l : List Oc) (w : World) (hL : IsR w A len cap 5 encC GC l) :
    Calls Try.prog 4 #[.int .i64 m0, .slice A len cap] w fun r w' => r = .returned (.bool true) ∧ Below w.heap.size w w' := by
  obtain ⟨hlen, hs, hc1, hc2, hn, hg⟩ := hL
  subst hlen
  have HS := Lib.hid hs
  have HG := Lib.hid hg
  clear hs hg hn
  by_cases hm : 1 ≤ m0 ∧ m0 ≤ 64
  case neg =>
    have HN := Lib.hid (snew_no m0 hm wm w)
    clear hm
    go_enter Try.func4, Try.ntmps4
    go_wp2_with fail
    refine HN.out.mono ?_
    rintro e w1 ⟨rfl, e1⟩
    subst w1
    go_wp2_with fail
    refine (awake_any _).mono ?_
    rintro e w2 ⟨rfl, hb⟩
    have HB := Lib.hid hb
    clear hb
    go_wp2_with fail
    refine (awake_any _).mono ?_
    rintro e w3 ⟨rfl, hb⟩
    have HB2 := Lib.hid (HB.out.trans (hb.mono HB.out.size))
    clear hb
    go_wp2_with fail
    go_ret
    exact ⟨rfl, HB2.out⟩
  case pos =>
  obtain ⟨Z, hz42, hZ⟩ := zero_sents
  have hz43 := zero_cnts
  have HZ := Lib.hid hZ
  clear hZ
  generalize hcz : cnts [] = Z2 at *
  have HCZ := Lib.hid hcz
  clear hcz
  go_enter Try.func4, Try.ntmps4
  go_wp2_with fail
  refine (snew_lp (St.start w) m0 hm).mono ?_
  rintro e w1 ⟨g, rfl, hl⟩
  have H := Lib.hid hl
  clear hl
  go_wp2_with fail
  refine (awake_any _).mono ?_
  rintro e w2 ⟨rfl, hb⟩
  replace H := Lib.hid (H.out.call hb)
  clear hb
  go_wp2_with fail
  generalize hsb : w2.heap.size = sb at *
  have hW : w.heap.size ≤ sb := by rw [← hsb]; exact H.out.st.below.size
  have H0 : Hid (sLp w ((w2.alloc (.cells Z 42)).alloc (.cells Z2 43)) [(sb + 1, 43, cnts []), (sb, 42, Z)] g (Nt.new m0)) := Lib.hid (by
    rw [HCZ.out]
    exact (H.out.alloc sb hsb.symm _ _).alloc (sb + 1) (by simp [hsb]) _ _)
  clear H hsb HCZ hz42 hz43
  go_loopw [9, 10] (fun m i wr => ∃ (k : Nat) (n : Nt (List UInt8)) (cs : Array Value), k ≤ l.length ∧ k ≤ 60 ∧ m = .int .i64 (n.sent : Int) ∧ i = .int .i64 (k : Int) ∧ n.sent ≤ k ∧ (∀ y ∈ n.under, 1 ≤ y.id ∧ y.id ≤ (n.sent : Int)) ∧ Sents cs n.under ∧
    sLp w wr [(sb + 1, 43, cnts n.under), (sb, 42, cs)] g n) (fun _ i _ => l.length - (intOf i).toNat)
  case atStart => exact ⟨0, Nt.new m0, Z, by omega, by omega, rfl, rfl, Nat.le_refl _, (fun y hy => by simp [Nt.new] at hy), HZ.out, H0.out⟩
  case round =>
    obtain ⟨k, n, cs, hk1, hk2, rfl, rfl, hsent, hids, hsents, hl⟩ := hrel
    have H := Lib.hid hl
    have HID := Lib.hid hids
    have HSE := Lib.hid hsents
    have hfew := hl.fine.few
    clear hl hids hsents
    by_cases hlt : k < l.length ∧ k < 60
    · obtain ⟨h1, h2⟩ := hlt
      obtain ⟨v, hv⟩ : ∃ v, l[k]? = some v := ⟨_, List.getElem?_eq_getElem h1⟩
      have hga := HG.out v (List.mem_of_getElem? hv)
      have HGA := Lib.hid hga.few
      have HFEW := Lib.hid (few_any v hga.s)
      obtain ⟨b0, off, rfl, hb, hcc⟩ := (HS.out.below H.out.st.below).item encC_len (by omega) k v hv
      have q0 := hcc 0 _ rfl
      have q1 := hcc 1 _ rfl
      have q2 := hcc 2 _ rfl
      have q3 := hcc 3 _ rfl
      have q4 := hcc 4 _ rfl
      rw [Nat.add_zero] at q0
      clear hcc hv hga hb
      have i1 : (k : Int) < (l.length : Int) := by omega
      have i2 : (k : Int) < 60 := by omega
      go_wp2_with fail
      refine (HFEW.out _).mono ?_
      rintro e w5 ⟨rfl, hb2⟩
      have H2 := Lib.hid ((H.out.call hb2).alloc w5.heap.size rfl 36 #[.int .i64 v.kind, .int .i64 v.a, .int .i64 v.b, .string (txt v.few.s), .bool v.off])
      clear hb2 q0 q1 q2 q3 q4 HFEW H
      rcases (show v.kind = 0 ∨ v.kind = 1 ∨ v.kind = 2 ∨ v.kind = 3 ∨ (v.kind ≠ 0 ∧ v.kind ≠ 1 ∧ v.kind ≠ 2 ∧ v.kind ≠ 3) by omega) with hkd | hkd | hkd | hkd | ⟨k0, k1, k2, k3⟩
      · rw [hkd] at H2 ⊢
        go_wp2_with fail
        refine (H2.out.ssend HGA.out.a HGA.out.b v.few.s (by omega)).mono ?_
        rintro e w6 ⟨rfl, hl⟩
        rcases send_cases n v.few.a v.few.b v.few.s with ⟨e, he, hx⟩ | hx
        · rw [hx] at hl ⊢
          have H3 := Lib.hid (hl.few (L' := [(sb + 1, 43, cnts n.under), (sb, 42, cs)]) (fun r hr => by simp at hr ⊢; rcases hr with h | h <;> simp [h]))
          have q9 : (e != 0) = true := by simpa using he
          clear hl hx
          go_wp2_with fail
          go_roundw
          case rel => exact ⟨k + 1, n, cs, by omega, by omega, rfl, by go_num, by omega, HID.out, HSE.out, H3.out⟩
          case measure => simp [intOf]; omega
        · rw [hx] at hl ⊢
          have H3 := Lib.hid (hl.few (L' := [(sb + 1, 43, cnts n.under), (sb, 42, cs)]) (fun r hr => by simp at hr ⊢; rcases hr with h | h <;> simp [h]))
          have hwo : Whole w6 w5.heap.size 36 #[.int .i64 0, .int .i64 v.a, .int .i64 v.b, .string (txt v.few.s), .bool v.off] := hl.knows (w5.heap.size, 36, #[.int .i64 0, .int .i64 v.a, .int .i64 v.b, .string (txt v.few.s), .bool v.off]) (by simp)
          obtain ⟨x0, x1, x2, x3, x4⟩ := (show _ ∧ _ ∧ _ ∧ _ ∧ _ from ⟨hwo.cell 0, hwo.cell 1, hwo.cell 2, hwo.cell 3, hwo.cell 4⟩)
          have hws : Whole w6 sb 42 cs := hl.knows (sb, 42, cs) (by simp)
          have hcz := HSE.out.1
          obtain ⟨a0, f0⟩ := whole_at hws (i := (n.sent + 1) * 5) (by omega)
          obtain ⟨a1, f1⟩ := whole_at hws (i := (n.sent + 1) * 5 + 1) (by omega)
          obtain ⟨a2, f2⟩ := whole_at hws (i := (n.sent + 1) * 5 + 2) (by omega)
          obtain ⟨a3, f3⟩ := whole_at hws (i := (n.sent + 1) * 5 + 3) (by omega)
          obtain ⟨a4, f4⟩ := whole_at hws (i := (n.sent + 1) * 5 + 4) (by omega)
          have hwe : Whole w6 (sb + 1) 43 (cnts n.under) := hl.knows (sb + 1, 43, cnts n.under) (by simp)
          have e0 := (hwe.cell (n.sent + 1)).trans (cnts_at n.under (by omega))
          have e1 := hwe.free (n.sent + 1)
          have hsn : (n.sent : Int) + 1 < 61 := by omega
          have HAB : Hid (cnt n.under (n.sent + 1) = 0) := Lib.hid (cnt_above (fun y hy => (HID.out y hy).2) (by omega))
          generalize cs[(n.sent + 1) * 5] = c0 at *
          generalize cs[(n.sent + 1) * 5 + 1] = c1 at *
          generalize cs[(n.sent + 1) * 5 + 2] = c2 at *
          generalize cs[(n.sent + 1) * 5 + 3] = c3 at *
          generalize cs[(n.sent + 1) * 5 + 4] = c4 at *
          generalize hct : cnt n.under (n.sent + 1) = ct at *
          have HCT := Lib.hid hct
          clear hct
          clear hl hx hwo hws hwe hcz
          go_wp2_with fail
          go_roundw
          case rel =>
            have hset : (cnts n.under).setIfInBounds (n.sent + 1) (.int .i64 1) = cnts (n.under ++ [⟨n.sent + 1, v.a, v.b, v.few.s⟩]) := by
              have h1 := cnts_set (u := n.under) (v := n.under ++ [⟨n.sent + 1, v.a, v.b, v.few.s⟩]) (i := n.sent + 1) (fun j hj => by
                rw [cnt_snoc, if_neg (by intro h; apply hj; have h : (n.sent : Int) + 1 = (j : Int) := h; omega)]; rfl)
              rw [cnt_snoc, if_pos (by simp), HCT.out, HAB.out] at h1
              exact h1
            have hq := ends_store (sents_store H3.out hW (by omega) ((n.sent + 1) * 5) (.int .i64 0) (.int .i64 v.a) (.int .i64 v.b) (.string (txt v.few.s)) (.bool v.off)) (by omega) (by omega) (n.sent + 1) (.int .i64 1)
            rw [hset] at hq
            refine ⟨k + 1, { n with under := n.under ++ [⟨n.sent + 1, v.a, v.b, v.few.s⟩], sent := n.sent + 1 }, _, by omega, by omega, by go_num, by go_num, by show n.sent + 1 ≤ k + 1; omega, fun y hy => ?_, HSE.out.snoc HID.out (by omega) 0 v.a v.b v.few.s v.off, hq⟩
            rcases List.mem_append.1 hy with hy | hy
            · have := HID.out y hy
              exact ⟨this.1, by show y.id ≤ ((n.sent + 1 : Nat) : Int); omega⟩
            · rw [List.mem_singleton.1 hy]
              exact ⟨by show (1 : Int) ≤ (n.sent : Int) + 1; omega, by show (n.sent : Int) + 1 ≤ ((n.sent + 1 : Nat) : Int); omega⟩
          case measure => simp [intOf]; omega
      · rw [hkd] at H2 ⊢
        go_wp2_with fail
        refine (H2.out.stake HGA.out.a).mono ?_
        rintro e w6 ⟨rfl, hl⟩
        rcases take_cases n v.few.a with ⟨e, he, hx⟩ | ⟨k', y, hk', hy, hx⟩
        · rw [hx] at hl ⊢
          have H3 := Lib.hid ((hl.few (L' := [(sb + 1, 43, cnts n.under), (sb, 42, cs)]) (fun r hr => by simp at hr ⊢; rcases hr with h | h <;> simp [h])).other (.cells #[.int .i64 0, .int .i64 0, .int .i64 0, .string ⟨#[]⟩] 47))
          have q9 : (e != 0) = true := by simpa using he
          rw [show (encO none).toArray = #[.int .i64 0, .int .i64 0, .int .i64 0, .string ⟨#[]⟩] from rfl]
          clear hl hx
          go_wp2_with fail
          go_roundw
          case rel => exact ⟨k + 1, n, cs, by omega, by omega, rfl, by go_num, by omega, HID.out, HSE.out, H3.out⟩
          case measure => simp [intOf]; omega
        · have hb := HID.out y (List.mem_of_getElem? hy)
          obtain ⟨j, hj⟩ : ∃ j : Nat, y.id = (j : Int) := ⟨y.id.toNat, by omega⟩
          obtain ⟨s1, s2, s3⟩ := HSE.out.2 y (List.mem_of_getElem? hy)
          have hp := cnt_pos (List.mem_of_getElem? hy) hj
          have HD := Lib.hid (fun i => cnt_drop hy i)
          have HMEM : Hid (∀ z ∈ (n.drop k').under, z ∈ n.under) := Lib.hid (fun z hz => by
            rcases List.mem_append.1 hz with hz | hz
            · exact List.mem_of_mem_take hz
            · exact List.mem_of_mem_drop hz)
          rw [hx] at hl ⊢
          have H3 := Lib.hid ((hl.few (L' := [(sb + 1, 43, cnts n.under), (sb, 42, cs)]) (fun r hr => by simp at hr ⊢; rcases hr with h | h <;> simp [h])).other (.cells #[.int .i64 y.id, .int .i64 y.frm, .int .i64 y.to, .string (txt y.m)] 47))
          have hwl := Whole.fresh w6 47 #[.int .i64 y.id, .int .i64 y.frm, .int .i64 y.to, .string (txt y.m)]
          obtain ⟨x0, x1, x2, x3⟩ := (show _ ∧ _ ∧ _ ∧ _ from ⟨hwl.cell 0, hwl.cell 1, hwl.cell 2, hwl.cell 3⟩)
          have hws : Whole (w6.alloc (.cells #[.int .i64 y.id, .int .i64 y.frm, .int .i64 y.to, .string (txt y.m)] 47)) sb 42 cs := H3.out.knows (sb, 42, cs) (by simp)
          have a1 := (hws.cell _).trans s1
          have a2 := (hws.cell _).trans s2
          have a3 := (hws.cell _).trans s3
          have hwe : Whole (w6.alloc (.cells #[.int .i64 y.id, .int .i64 y.frm, .int .i64 y.to, .string (txt y.m)] 47)) (sb + 1) 43 (cnts n.under) := H3.out.knows (sb + 1, 43, cnts n.under) (by simp)
          have e0 := (hwe.cell j).trans (cnts_at n.under (by omega))
          have e1 := hwe.free j
          have hle := cnt_le n.under j
          rw [show (encO (some y)).toArray = #[.int .i64 y.id, .int .i64 y.frm, .int .i64 y.to, .string (txt y.m)] from rfl]
          rw [hj] at a1 a2 a3 x0 hb H3 ⊢
          rw [hj] at hwl hws hwe x1 x2 x3 e0 e1
          rw [show ((j : Int)).toNat = j by omega] at a1 a2 a3
          have HJ := Lib.hid hj
          have j1 : (1 : Int) ≤ (j : Int) := hb.1
          have j2 : (j : Int) ≤ (n.sent : Int) := hb.2
          have j3 : (j : Int) < 61 := by omega
          have j4 : j ≤ n.sent := by omega
          have j5 : 1 ≤ j := by omega
          have j6 : j < 61 := by omega
          have c1 : (1 : Int) ≤ ((cnt n.under j : Nat) : Int) := by omega
          have c2 : ((cnt n.under j : Nat) : Int) ≤ 1000 := by omega
          have c3 : 1 ≤ cnt n.under j := by omega
          have c4 : 0 < cnt n.under j := by omega
          generalize hct : cnt n.under j = ct at *
          have HCT := Lib.hid hct
          clear hl hx hwl hws hwe s1 s2 s3 hp hle hct hb hj hy
          generalize y.frm = yf at *
          generalize y.to = yt at *
          generalize txt y.m = ym at *
          go_wp2_with fail
          generalize w6.alloc (.cells #[.int .i64 (j : Int), .int .i64 yf, .int .i64 yt, .string ym] 47) = w7 at *
          obtain ⟨C, hC, HCC⟩ := one_class w7
          refine region_in C hC (by kernel_rfl) (by kernel_rfl) ?_
          iterate 46
            (refine WQ.step (fun K hK => ?_)
             go_simp
             first
               | (refine hK _ ?_; clear hK K)
               | (apply Exists.intro
                  refine ⟨fun x hx => ?_, hK _ ?_⟩
                  · first
                      | rfl
                      | (rw [HCC.out _ hx]
                         go_simp
                         exact ⟨rfl, rfl⟩)
                      | (rw [HCC.out _ hx]
                         go_simp
                         rfl)
                  clear hK K))
          refine WQ.nil ?_
          intro y hy
          rw [HCC.out _ hy]
          clear hy hC HCC C
          have e2 : (w7.drewN 1).cell? ⟨sb + 1, j, none⟩ = _ := e0
          go_wp2_with fail
          go_roundw
          case rel =>
            have hset : (cnts n.under).setIfInBounds j (.int .i64 ((ct : Int) - 1)) = cnts (n.drop k').under := by
              have hd := HD.out j
              rw [if_pos HJ.out, HCT.out] at hd
              have h1 := cnts_set (u := n.under) (v := (n.drop k').under) (i := j) (fun i hi => by
                have h := HD.out i
                rw [if_neg (by rw [HJ.out]; omega)] at h
                exact h)
              rw [show ((cnt (n.drop k').under j : Nat) : Int) = (ct : Int) - 1 by have hd : cnt (n.drop k').under j + 1 = ct := hd; omega] at h1
              exact h1
            have hq := (ends_store H3.out (by omega) (by omega) j (.int .i64 ((ct : Int) - 1))).drewN 1
            rw [hset] at hq
            exact ⟨k + 1, n.drop k', cs, by omega, by omega, rfl, by go_num, by show n.sent ≤ k + 1; omega, fun z hz => HID.out z (HMEM.out z hz), HSE.out.less HMEM.out, hq⟩
          case measure => simp [intOf]; omega
      · rw [hkd] at H2 ⊢
        go_wp2_with fail
        refine H2.out.sletters.mono ?_
        rintro e w6 ⟨A1, cap1, R1, rfl, hca, hAa, htopa, hl, hown1, -, -⟩
        have H3 := Lib.hid hl
        have HO1 := Lib.hid hown1
        have hwo6 : Whole w6 w5.heap.size 36 #[.int .i64 2, .int .i64 v.a, .int .i64 v.b, .string (txt v.few.s), .bool v.off] := hl.knows (w5.heap.size, 36, #[.int .i64 2, .int .i64 v.a, .int .i64 v.b, .string (txt v.few.s), .bool v.off]) (by simp)
        have x16 := hwo6.cell 1
        clear hl hown1 hwo6
        go_wp2_with fail
        refine (H3.out.scopy HGA.out.a).mono ?_
        rintro e w7 ⟨rfl, hl⟩
        rcases copy_cases n v.few.a with ⟨e, he, hx⟩ | ⟨k', y, hk', hy, hx⟩
        · rw [hx] at hl ⊢
          have H4 := Lib.hid (hl.few (L' := [(sb + 1, 43, cnts n.under), (sb, 42, cs)]) (fun r hr => by simp at hr ⊢; rcases hr with h | h <;> simp [h]))
          have q9 : (e == 0) = false := by simpa using he
          clear hl hx
          go_wp2_with fail
          go_roundw
          case rel => exact ⟨k + 1, n, cs, by omega, by omega, rfl, by go_num, by omega, HID.out, HSE.out, H4.out⟩
          case measure => simp [intOf]; omega
        · have hb := HID.out y (List.mem_of_getElem? hy)
          have hkl := (List.getElem?_eq_some_iff.1 hy).1
          obtain ⟨j, hj⟩ : ∃ j : Nat, y.id = (j : Int) := ⟨y.id.toNat, by omega⟩
          have hp := cnt_pos (List.mem_of_getElem? hy) hj
          have HY := Lib.hid hy
          have HD := Lib.hid (fun i => cnt_snoc n.under y i)
          have HMEM : Hid (∀ z ∈ n.under ++ [y], z ∈ n.under) := Lib.hid (fun z hz => by
            rcases List.mem_append.1 hz with hz | hz
            · exact hz
            · rw [List.mem_singleton.1 hz]; exact List.mem_of_getElem? hy)
          rw [hx] at hl ⊢
          have ho1 := HO1.out w7 (fun r hr => hl.knows r (List.mem_append.2 (.inl hr)))
          have H4 := Lib.hid (hl.few (L' := [(sb + 1, 43, cnts n.under), (sb, 42, cs)]) (fun r hr => by simp at hr ⊢; rcases hr with h | h <;> simp [h]))
          have hwo : Whole w7 w5.heap.size 36 #[.int .i64 2, .int .i64 v.a, .int .i64 v.b, .string (txt v.few.s), .bool v.off] := hl.knows (w5.heap.size, 36, #[.int .i64 2, .int .i64 v.a, .int .i64 v.b, .string (txt v.few.s), .bool v.off]) (by simp)
          have x1 := hwo.cell 1
          obtain ⟨b1, rfl⟩ := row_some ho1 (by omega)
          obtain ⟨⟨y0, y1, y2, y3⟩, -⟩ := own_letter ho1 HY.out
          have hwe : Whole w7 (sb + 1) 43 (cnts n.under) := H4.out.knows (sb + 1, 43, cnts n.under) (by simp)
          have e0 := (hwe.cell j).trans (cnts_at n.under (by omega))
          have e1 := hwe.free j
          have hle := cnt_le n.under j
          have hva : v.a = (k' : Int) := hk'
          have HK : Hid (v.few.a = (k' : Int)) := Lib.hid hk'
          rw [hj] at y0 hb
          have HJ := Lib.hid hj
          have j1 : (1 : Int) ≤ (j : Int) := hb.1
          have j2 : (j : Int) ≤ (n.sent : Int) := hb.2
          have j3 : (j : Int) < 61 := by omega
          have j4 : j ≤ n.sent := by omega
          have j5 : 1 ≤ j := by omega
          have j6 : j < 61 := by omega
          have i5 : (k' : Int) < (n.under.length : Int) := by omega
          rw [show (#[Value.int .i64 2, .int .i64 v.a, .int .i64 v.b, .string (txt v.few.s), .bool v.off] : Array Value)[1]? = some (.int .i64 v.a) from rfl, hva] at x1
          have c1 : (1 : Int) ≤ ((cnt n.under j : Nat) : Int) := by omega
          have c2 : ((cnt n.under j : Nat) : Int) ≤ 1000 := by omega
          generalize hct : cnt n.under j = ct at *
          have HCT := Lib.hid hct
          clear hl hx hwo hwe ho1 y1 y2 y3 hp hle hct hb hj hy hk'
          have q9 : ((0 : Int) == 0) = true := rfl
          go_wp2_with fail
          go_roundw
          case rel =>
            have hset : (cnts n.under).setIfInBounds j (.int .i64 ((ct : Int) + 1)) = cnts (n.under ++ [y]) := by
              have hd := HD.out j
              rw [if_pos HJ.out, HCT.out] at hd
              have h1 := cnts_set (u := n.under) (v := n.under ++ [y]) (i := j) (fun i hi => by
                have h := HD.out i
                rw [if_neg (by rw [HJ.out]; omega)] at h
                exact h)
              rw [show ((cnt (n.under ++ [y]) j : Nat) : Int) = (ct : Int) + 1 by omega] at h1
              exact h1
            have hq := ends_store H4.out (by omega) (by omega) j (.int .i64 ((ct : Int) + 1))
            rw [hset] at hq
            exact ⟨k + 1, { n with under := n.under ++ [y] }, cs, by omega, by omega, rfl, by go_num, by show n.sent ≤ k + 1; omega, fun z hz => HID.out z (HMEM.out z hz), HSE.out.less HMEM.out, hq⟩
          case measure => simp [intOf]; omega
      · rw [hkd] at H2 ⊢
        go_wp2_with fail
        refine H2.out.sletters.mono ?_
        rintro e w6 ⟨A1, cap1, R1, rfl, hca, hAa, htopa, hl, hown1, -, -⟩
        have H3 := Lib.hid hl
        have HO1 := Lib.hid hown1
        have hwo6 : Whole w6 w5.heap.size 36 #[.int .i64 3, .int .i64 v.a, .int .i64 v.b, .string (txt v.few.s), .bool v.off] := hl.knows (w5.heap.size, 36, #[.int .i64 3, .int .i64 v.a, .int .i64 v.b, .string (txt v.few.s), .bool v.off]) (by simp)
        have x16 := hwo6.cell 1
        clear hl hown1 hwo6
        go_wp2_with fail
        refine (H3.out.slose HGA.out.a).mono ?_
        rintro e w7 ⟨rfl, hl⟩
        rcases lose_cases n v.few.a with ⟨e, he, hx⟩ | ⟨k', y, hk', hy, hx⟩
        · rw [hx] at hl ⊢
          have H4 := Lib.hid (hl.few (L' := [(sb + 1, 43, cnts n.under), (sb, 42, cs)]) (fun r hr => by simp at hr ⊢; rcases hr with h | h <;> simp [h]))
          have q9 : (e == 0) = false := by simpa using he
          clear hl hx
          go_wp2_with fail
          go_roundw
          case rel => exact ⟨k + 1, n, cs, by omega, by omega, rfl, by go_num, by omega, HID.out, HSE.out, H4.out⟩
          case measure => simp [intOf]; omega
        · have hb := HID.out y (List.mem_of_getElem? hy)
          have hkl := (List.getElem?_eq_some_iff.1 hy).1
          obtain ⟨j, hj⟩ : ∃ j : Nat, y.id = (j : Int) := ⟨y.id.toNat, by omega⟩
          have hp := cnt_pos (List.mem_of_getElem? hy) hj
          have HY := Lib.hid hy
          have HD := Lib.hid (fun i => cnt_drop hy i)
          have HMEM : Hid (∀ z ∈ (n.drop k').under, z ∈ n.under) := Lib.hid (fun z hz => by
            rcases List.mem_append.1 hz with hz | hz
            · exact List.mem_of_mem_take hz
            · exact List.mem_of_mem_drop hz)
          rw [hx] at hl ⊢
          have ho1 := HO1.out w7 (fun r hr => hl.knows r (List.mem_append.2 (.inl hr)))
          have H4 := Lib.hid (hl.few (L' := [(sb + 1, 43, cnts n.under), (sb, 42, cs)]) (fun r hr => by simp at hr ⊢; rcases hr with h | h <;> simp [h]))
          have hwo : Whole w7 w5.heap.size 36 #[.int .i64 3, .int .i64 v.a, .int .i64 v.b, .string (txt v.few.s), .bool v.off] := hl.knows (w5.heap.size, 36, #[.int .i64 3, .int .i64 v.a, .int .i64 v.b, .string (txt v.few.s), .bool v.off]) (by simp)
          have x1 := hwo.cell 1
          obtain ⟨b1, rfl⟩ := row_some ho1 (by omega)
          obtain ⟨⟨y0, y1, y2, y3⟩, -⟩ := own_letter ho1 HY.out
          have hwe : Whole w7 (sb + 1) 43 (cnts n.under) := H4.out.knows (sb + 1, 43, cnts n.under) (by simp)
          have e0 := (hwe.cell j).trans (cnts_at n.under (by omega))
          have e1 := hwe.free j
          have hle := cnt_le n.under j
          have hva : v.a = (k' : Int) := hk'
          have HK : Hid (v.few.a = (k' : Int)) := Lib.hid hk'
          rw [hj] at y0 hb
          have HJ := Lib.hid hj
          have j1 : (1 : Int) ≤ (j : Int) := hb.1
          have j2 : (j : Int) ≤ (n.sent : Int) := hb.2
          have j3 : (j : Int) < 61 := by omega
          have j4 : j ≤ n.sent := by omega
          have j5 : 1 ≤ j := by omega
          have j6 : j < 61 := by omega
          have i5 : (k' : Int) < (n.under.length : Int) := by omega
          rw [show (#[Value.int .i64 3, .int .i64 v.a, .int .i64 v.b, .string (txt v.few.s), .bool v.off] : Array Value)[1]? = some (.int .i64 v.a) from rfl, hva] at x1
          have c1 : (1 : Int) ≤ ((cnt n.under j : Nat) : Int) := by omega
          have c2 : ((cnt n.under j : Nat) : Int) ≤ 1000 := by omega
          generalize hct : cnt n.under j = ct at *
          have HCT := Lib.hid hct
          clear hl hx hwo hwe ho1 y1 y2 y3 hp hle hct hb hj hy hk'
          have q9 : ((0 : Int) == 0) = true := rfl
          go_wp2_with fail
          go_roundw
          case rel =>
            have hset : (cnts n.under).setIfInBounds j (.int .i64 ((ct : Int) - 1)) = cnts ((n.drop k').under) := by
              have hd := HD.out j
              rw [if_pos HJ.out, HCT.out] at hd
              have h1 := cnts_set (u := n.under) (v := (n.drop k').under) (i := j) (fun i hi => by
                have h := HD.out i
                rw [if_neg (by rw [HJ.out]; omega)] at h
                exact h)
              rw [show ((cnt ((n.drop k').under) j : Nat) : Int) = (ct : Int) - 1 by have hd : cnt (n.drop k').under j + 1 = ct := hd; omega] at h1
              exact h1
            have hq := ends_store H4.out (by omega) (by omega) j (.int .i64 ((ct : Int) - 1))
            rw [hset] at hq
            exact ⟨k + 1, n.drop k', cs, by omega, by omega, rfl, by go_num, by show n.sent ≤ k + 1; omega, fun z hz => HID.out z (HMEM.out z hz), HSE.out.less HMEM.out, hq⟩
          case measure => simp [intOf]; omega
      · have H3 := Lib.hid (H2.out.few (L' := [(sb + 1, 43, cnts n.under), (sb, 42, cs)]) (fun r hr => by simp at hr ⊢; rcases hr with h | h <;> simp [h]))
        generalize v.kind = kd at *
        go_wp2_with fail
        go_roundw
        case rel => exact ⟨k + 1, n, cs, by omega, by omega, rfl, by go_num, by omega, HID.out, HSE.out, H3.out⟩
        case measure => simp [intOf]; omega
    · have hend : ((k : Int) < l.length ∧ k = 60) ∨ k = l.length := by omega
      have HU0 := Lib.hid (upto_none (fun y hy => (HID.out y hy).1))
      have HUA := Lib.hid (upto_all (fun y hy => (HID.out y hy).2))
      have hs60 : n.sent ≤ 60 := by omega
      rcases hend with ⟨h1, rfl⟩ | rfl
      all_goals
        go_wp2_with fail
        go_loopw [18, 19] (fun a i wr => ∃ c : Nat, c ≤ n.sent ∧ a = .int .i64 ((upto n.under c : Nat) : Int) ∧ i = .int .i64 ((c : Int) + 1) ∧ sLp w wr [(sb + 1, 43, cnts n.under), (sb, 42, cs)] g n) (fun _ i _ => n.sent + 1 - (intOf i).toNat)
        case atStart => exact ⟨0, by omega, by rw [HU0.out]; rfl, rfl, H.out⟩
        case round =>
          obtain ⟨c, hcs, rfl, rfl, hl⟩ := hrel
          have H3 := Lib.hid hl
          clear hl
          by_cases hc : c < n.sent
          · have hwe : Whole wr (sb + 1) 43 (cnts n.under) := H3.out.knows (sb + 1, 43, cnts n.under) (by simp)
            have e0 := (hwe.cell (c + 1)).trans (cnts_at n.under (by omega))
            have HN := Lib.hid (upto_next n.under c)
            have hu1 : upto n.under c ≤ 1000 := Nat.le_trans (List.countP_le_length) hfew
            have hu2 := cnt_le n.under (c + 1)
            have i6 : (c : Int) + 1 ≤ (n.sent : Int) := by omega
            have i7 : (c : Int) + 1 < 61 := by omega
            have i8 : c + 1 < 61 := by omega
            generalize hup : upto n.under c = up at *
            have HUP := Lib.hid hup
            generalize hct : cnt n.under (c + 1) = ct at *
            have HCT := Lib.hid hct
            clear hup hct hwe
            go_wp2_with fail
            go_roundw
            case rel => exact ⟨c + 1, by omega, by rw [HN.out]; go_num, by go_num, H3.out⟩
            case measure => simp [intOf]; omega
          · have hce : c = n.sent := by omega
            subst hce
            rw [HUA.out]
            go_wp2_with fail
            refine H3.out.sletters.mono ?_
            rintro e w6 ⟨A1, cap1, R1, rfl, hca, hAa, htopa, hl, -, -, -⟩
            have H4 := Lib.hid hl
            clear hl
            go_wp2_with fail
            go_ret
            exact ⟨rfl, H4.out.st.below⟩

set_option maxRecDepth 100000 in
theorem lifted (os : Os) (started : os.Started) (H : Type) (enc : TypeId × Value → H) :
    ReturnsInHanded {} Try.checked os 4 .any (Rows.postSentSpec.pre6 enc Try.prog Try.f4 Rows.postSentRow.domain false) (Rows.postSentSpec.post enc Try.prog Try.f4 false true false false) := by
  refine returnsInHanded_of_change (C := Try.checked) own started (by kernel_rfl) Try.func4
    (ChangeSpec.witness6 (enc := enc) (C := Try.checked) false ⟨#[], #[.int .i64 0, .slice none 0 0], []⟩ 8 (by kernel_rfl) (by kernel_rfl) (by kernel_rfl) (by kernel_rfl)) ?_
  intro W base args ds gs before hval0 hW hcnd _
  have hval : ∀ (j : Nat) t v, Try.f4.params[j]? = some t → args[j]? = some v → Value.okWide Try.prog W .any base t v := hval0
  have hW' := hW
  obtain ⟨p, q, hA0, hV, rfl, hfz, hnd⟩ := hW
  have hA : DataW.TrodAll enc Try.prog W 0 (fun _ => true) true Try.f4.params.toList args.toList ds p := hA0
  rw [Try.params4] at hA hval
  obtain ⟨v0, vs0, d0, ds0, p0, q0, hargs, rfl, rfl, h0, r0⟩ := trodAll_cons hA
  obtain ⟨v1, vs1, d1, ds1, p1, q1, rfl, rfl, rfl, h1, r1⟩ := trodAll_cons r0
  obtain ⟨rfl, rfl, rfl⟩ := trodAll_nil r1
  obtain rfl : args = #[v0, v1] := by cases args; simp_all
  obtain ⟨rfl, rfl⟩ := trodVars_none hV
  obtain ⟨a0, rfl⟩ := okWide_int Try.underlying3 (hval 0 3 v0 rfl rfl)
  have w0 : -9223372036854775808 ≤ a0 ∧ a0 ≤ 9223372036854775807 := by
    obtain ⟨m, hm⟩ := h0
    obtain ⟨s, hs, _, hl⟩ := DataW.trod_int Try.underlying3 hm
    simp [Value.cells] at hs
    rw [hs]; have := bounds_i64 hl; omega
  have lt0 : ∀ x ∈ p0, x.block < W.heap.size := by obtain ⟨m, hm⟩ := h0; exact DataW.trod_lt m _ _ _ hm
  obtain ⟨A1, len1, cap1, rfl⟩ := okWide_slice Try.underlying22 (hval 1 22 v1 rfl rfl)
  obtain ⟨l1, w1⟩ := open_posts h1
  have lt1 : ∀ x ∈ p1, x.block < W.heap.size := by obtain ⟨m, hm⟩ := h1; exact DataW.trod_lt m _ _ _ hm
  clear hA0 hval0
  simp only [List.append_nil] at hW'
  refine (walk a0 w0 A1 len1 cap1 l1 W w1).mono fun e W' ⟨he, bel⟩ => ?_
  subst he
  exact ⟨_, rfl, _, _, _, [], _, [], hW', trodAll_mk1 (shut_bool Try.underlying4 _), (trodAll_cons_mk (Below.trod laidOut (by kernel_rfl) (of_decide_eq_true (by kernel_rfl)) h0 bel lt0) (trodAll_cons_mk (Below.trod laidOut (by kernel_rfl) (of_decide_eq_true (by kernel_rfl)) h1 bel lt1) trodAll_mk0)), rfl, bel.frame _, fun h => by cases h⟩

theorem proved : Rows.PostSentSaid :=
  OpenClaim.holds_of_wide 4 Try.f4 rfl rfl rfl rfl rfl rfl rfl ⟨rfl, rfl, rfl, rfl, rfl⟩ rfl rfl rfl rfl rfl (by kernel_rfl) Try.func4 (by kernel_rfl)
    (of_decide_eq_true (by kernel_rfl)) (by unfold Func.isWrapper; first | (rw [if_pos (by decide +kernel)]; kernel_rfl) | (rw [if_neg (by decide +kernel)]; exact ⟨rfl, rfl⟩))
    (fun os started H enc _ => lifted os started H enc)
#print axioms proved
end Go.Proofs.Ytilnhelkkmhfhaa.postSent
