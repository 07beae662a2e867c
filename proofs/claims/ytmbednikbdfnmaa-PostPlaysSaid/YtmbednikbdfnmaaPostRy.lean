/- Contracts of the document's net: Copy. -/
import Derived.Test.YtmbednikbdfnmaaPostRa
namespace Go.Proofs.Ytmbednikbdfnmaa
open Go.RowKit Go.Po Go.Maps
set_option linter.unusedVariables false
set_option linter.unusedSimpArgs false
set_option maxRecDepth 100000

set_option maxHeartbeats 4000000 in
theorem rcopy_any (n : Nt (List UInt8)) (hn : Fine n) (v : Value) (i : Int) (hi : W64 i) (w : World) (hv : Rs w v n.under) :
    Calls Try.prog 48 #[.agg (rn n.nodes n.sent n.off v), .int .i64 i] w fun e w' => ∃ v', e = .returned (.tuple #[.agg (rn n.nodes n.sent n.off v'), .int .i64 (n.copy i).2]) ∧ Rg w w' v v' n.under (n.copy i).1.under ∧ Below w.heap.size w w' := by
  have hz := rzero
  have hfew := hn.few
  unfold W64 at hi
  obtain ⟨Z, hZ⟩ : ∃ Z, rn 0 0 (fun _ => false) (.slice none 0 0) = Z := ⟨_, rfl⟩
  have hZs : Z.size = 67 := by rw [← hZ]; exact rn_size
  rw [hZ] at hz
  clear hZ
  obtain ⟨A, cap, rfl, hs, h1, h2, h3⟩ := hv.lies
  have hR66 := rn_66 (nodes := n.nodes) (sent := n.sent) (off := n.off) (v := .slice A n.under.length cap)
  have hRs := rn_size (nodes := n.nodes) (sent := n.sent) (off := n.off) (v := .slice A n.under.length cap)
  have hR1 := rone (nodes := n.nodes) (sent := n.sent) (off := n.off) (v := .slice A n.under.length cap) rfl
  have HV := Lib.hid hv
  rcases n.number i with ⟨hh, hor⟩ | ⟨k, l, rfl, hk, hl, hh⟩
  · have HE : Hid (n.copy i = (n, 92)) := Lib.hid (by
      unfold Nt.copy
      rcases hor with h | h
      · split
        · rw [if_pos h]
        · rfl
      · rw [h])
    rw [HE.out]
    obtain ⟨R, hR⟩ : ∃ R, rn n.nodes n.sent n.off (.slice A n.under.length cap) = R := ⟨_, rfl⟩
    have HR := Lib.hid hR
    rw [hR] at hR66 hRs hR1 ⊢
    have ht := Two2.start w R Z
    have HT := Lib.hid ht
    have c0 := (ht.box.cell 66).trans hR66
    have hno : i < 0 ∨ (0 ≤ i ∧ (n.under.length : Int) ≤ i) := by unfold Nt.holds at hh; omega
    clear ht hh hR hv hs hor
    generalize hun : n.under.length = m at *
    have HUN := Lib.hid hun
    clear hun
    go_enter Try.func48, Try.ntmps48
    rcases hno with hno | ⟨hno1, hno⟩
    all_goals
      go_wp2_with (first | refine wpList_loadN rfl (.tmp 2) rfl w.heap.size rfl R HT.out.box hRs ?_ | refine wpList_storeN rfl (.tmp 4) _ rfl (w.heap.size + 1) rfl R rfl Z HT.out.res hZs hRs hR1 ?_)
      refine bodyPost_ret (ret_net rfl rfl (HT.out.res.setRow R) hRs) rfl ?_
      have hb := below_setRow HT.out.below (Nat.le_succ w.heap.size) R
      exact ⟨_, by rw [HR.out]; rfl, .inl ⟨rfl, rfl⟩, hb⟩
  · have kn : decide ((k : Int) < 0) = false := decide_eq_false (by omega)
    have k1 : (k : Int) < (n.under.length : Int) := by omega
    have k2 : ¬ ((n.under.length : Int) ≤ (k : Int)) := by omega
    by_cases hfull : n.under.length = 1000
    · have HE : Hid (n.copy k = (n, 91)) := Lib.hid (by unfold Nt.copy; rw [show ((k : Int)).toNat = k by omega, hl]; simp only []; rw [if_neg (by omega)]; unfold Nt.put; rw [if_pos hfull])
      rw [HE.out]
      obtain ⟨R, hR⟩ : ∃ R, rn n.nodes n.sent n.off (.slice A n.under.length cap) = R := ⟨_, rfl⟩
      have HR := Lib.hid hR
      rw [hR] at hR66 hRs hR1 ⊢
      have ht := Two2.start w R Z
      have HT := Lib.hid ht
      have c0 := (ht.box.cell 66).trans hR66
      rw [hfull] at c0 k1 k2
      clear ht hh hR hv hs hl
      go_enter Try.func48, Try.ntmps48
      go_wp2_with (first | refine wpList_loadN rfl (.tmp 2) rfl w.heap.size rfl R HT.out.box hRs ?_ | refine wpList_storeN rfl (.tmp 4) _ rfl (w.heap.size + 1) rfl R rfl Z HT.out.res hZs hRs hR1 ?_)
      refine bodyPost_ret (ret_net rfl rfl (HT.out.res.setRow R) hRs) rfl ?_
      have hb := below_setRow HT.out.below (Nat.le_succ w.heap.size) R
      exact ⟨.slice A n.under.length cap, by rw [HR.out]; rfl, .inl ⟨by first | rfl | rw [hfull], rfl⟩, hb⟩
    · have HE : Hid (n.copy k = ({ n with under := n.under ++ [l] }, 0)) := Lib.hid (by unfold Nt.copy; rw [show ((k : Int)).toNat = k by omega, hl]; simp only []; rw [if_neg (by omega)]; unfold Nt.put; rw [if_neg hfull])
      rw [HE.out]
      have hfull' : ((n.under.length : Int) == 1000) = false := by simp; omega
      have HRN : Hid (∀ w3, Two2 w w3 (rn n.nodes n.sent n.off (.slice A n.under.length cap)) Z → ∀ v', Two2 w (w3.setCell ⟨w.heap.size, 66, none⟩ v') (rn n.nodes n.sent n.off v') Z) := Lib.hid fun w3 h v' => h.row
      have HS2 : Hid (∀ u, (rn n.nodes n.sent n.off u).size = 67) := Lib.hid fun u => rn_size
      have HO2 : Hid (∀ u, u.oneCell' = true → (rn n.nodes n.sent n.off u).all (·.oneCell') = true) := Lib.hid fun u hu => rone hu
      have HL := Lib.hid hl
      obtain ⟨R, hR⟩ : ∃ R, rn n.nodes n.sent n.off (.slice A n.under.length cap) = R := ⟨_, rfl⟩
      have HR := Lib.hid hR
      rw [hR] at hR66 hRs hR1 HRN ⊢
      have ht := Two2.start w R Z
      have HT := Lib.hid ht
      have c0 := (ht.box.cell 66).trans hR66
      have HR66 := Lib.hid hR66
      have HSS := Lib.hid (hs.below ht.below)
      have HONE := Lib.hid (encL_one sone n.under)
      clear ht hh hR hv hs hl
      go_enter Try.func48, Try.ntmps48
      go_wp2_with fail
      have HT0 : Hid (Two2 w ((w.alloc (.cells R 38)).alloc (.cells Z 38)).drew R Z) := Lib.hid (HT.out.call (below_drewN (Below.refl _ _) 1))
      have HSS0 : Hid (Sees ((w.alloc (.cells R 38)).alloc (.cells Z 38)).drew w.heap.size 4 A n.under.length (flat (encL sP) n.under)) := Lib.hid HSS.out
      have HZ0 : Hid (w.heap.size + 2 ≤ ((w.alloc (.cells R 38)).alloc (.cells Z 38)).drew.heap.size) := Lib.hid (by show w.heap.size + 2 ≤ ((w.alloc (.cells R 38)).alloc (.cells Z 38)).heap.size; simp)
      generalize hz9 : (w.alloc (.cells R 38)).alloc (.cells Z 38) = z0 at *
      clear hz9
      generalize hun : n.under = us at *
      have HUN := Lib.hid hun
      clear hun c0
      -- REG
      obtain ⟨id, fr, to, m⟩ := l
      obtain ⟨b0, off0, rfl, hbb, hcc⟩ := HSS0.out.item (encL_len sP) (by omega) k _ HL.out
      refine Iv.region (fun fl aa y => ∃ p0 v1 p8 v2, aa = ⟨#[.agg R, .int .i64 (k : Int), .pointer (some ⟨w.heap.size, 0, none⟩), undef, .pointer (some ⟨w.heap.size + 1, 0, none⟩), .int .i64 0, .int .i64 (k : Int), .bool false, .bool false, .int .i64 (k : Int), .pointer (some ⟨w.heap.size, 66, none⟩), .slice (some ⟨b0, off0, none⟩) us.length cap, .int .i64 (us.length : Int), .bool false, .bool false, undef, .pointer (some ⟨w.heap.size, 66, none⟩), .slice (some ⟨b0, off0, none⟩) us.length cap, .int .i64 (us.length : Int), .bool false, undef, sl (fl 0) (.slice (some ⟨p0, 0, none⟩) 0 0), sl (fl 1) (.pointer (some ⟨w.heap.size, 66, none⟩)), sl (fl 2) (.slice (some ⟨b0, off0, none⟩) us.length cap), sl (fl 3) (v1), sl (fl 4) (.pointer (some ⟨w.heap.size, 66, none⟩)), sl (fl 5) (.slice (some ⟨b0, off0, none⟩) us.length cap), sl (fl 6) (.int .i64 (k : Int)), sl (fl 7) (.pointer (some ⟨b0, off0 + k * 4, none⟩)), sl (fl 8) (.agg #[.int .i64 id, .int .i64 fr, .int .i64 to, sP m]), sl (fl 9) (.slice (some ⟨p8, 0, none⟩) 1 1), sl (fl 10) (v2), sl (fl 11) (.pointer (some ⟨w.heap.size, 66, none⟩)), undef], []⟩ ∧ Ar w z0.drew y R Z p0 p8 v1 v2 us ⟨id, fr, to, m⟩ (fl 0) (fl 3) (fl 9) (fl 10) (fl 12) ∧ (fl 3 = true → fl 2 = true) ∧ (fl 9 = true → fl 8 = true) ∧ (fl 8 = true → fl 5 = true) ∧ (fl 7 = true → fl 5 = true)) (by kernel_rfl) (by kernel_rfl) ?_ ?_ ?_
      · exact ⟨0, undef, 0, undef, rfl, by simpa using Ar.start HT0.out 0 0 undef undef us ⟨id, fr, to, m⟩⟩
      · refine ⟨?_, ?_, ?_, ?_, ?_, ?_, ?_, ?_, ?_, ?_, ?_, ?_, ?_, trivial⟩
        · rintro fl a0 y Q' ⟨p0, v1, p8, v2, rfl, hw⟩ hi hd hQ
          replace hQ := Lib.hid hQ
          simp [Iv.depsB, Region.binds] at hd
          try simp only [hi, hd, sl_true, sl_false]
          try simp only [hi, sl_true, sl_false]
          have hw2 := hw
          rw [hi] at hw2
          go_wp2_with fail
          refine hQ.out _ _ ⟨y.heap.size, v1, p8, v2, ?_, ?_⟩
          · simp [Iv.upd, hi, hd, sl_true, sl_false]
          · simpa [Iv.upd, hi, hd] using (show _ ∧ _ from ⟨hw2.1.made, hw2.2⟩)
        · rintro fl a0 y Q' ⟨p0, v1, p8, v2, rfl, hw⟩ hi hd hQ
          replace hQ := Lib.hid hQ
          simp [Iv.depsB, Region.binds] at hd
          try simp only [hi, hd, sl_true, sl_false]
          try simp only [hi, sl_true, sl_false]
          go_wp2_with fail
          refine hQ.out _ _ ⟨p0, v1, p8, v2, ?_, ?_⟩
          · simp [Iv.upd, hi, hd, sl_true, sl_false]
          · simpa [Iv.upd, hi, hd] using hw
        · rintro fl a0 y Q' ⟨p0, v1, p8, v2, rfl, hw⟩ hi hd hQ
          replace hQ := Lib.hid hQ
          simp [Iv.depsB, Region.binds] at hd
          try simp only [hi, hd, sl_true, sl_false]
          try simp only [hi, sl_true, sl_false]
          have e3 : fl 3 = false := by
            cases e : fl 3 with
            | false => rfl
            | true => have := hw.2.1 e; simp_all
          have e10 := hw.1.noE (.inl e3)
          have e12 := hw.1.noS e10
          have c0 := ((hw.1.st e12).1.box.cell 66).trans HR66.out
          go_wp2_with fail
          refine hQ.out _ _ ⟨p0, v1, p8, v2, ?_, ?_⟩
          · simp [Iv.upd, hi, hd, sl_true, sl_false, e3, e10, e12]
          · simpa [Iv.upd, hi, hd, e3, e10, e12] using (show _ ∧ _ from ⟨hw.1, hw.2.2⟩)
        · rintro fl a0 y Q' ⟨p0, v1, p8, v2, rfl, hw⟩ hi hd hQ
          replace hQ := Lib.hid hQ
          simp [Iv.depsB, Region.binds] at hd
          try simp only [hi, hd, sl_true, sl_false]
          try simp only [hi, sl_true, sl_false]
          have ea : fl 0 = true := by simp [hd]
          have e2 : fl 2 = true := by simp [hd]
          have hw2 := hw
          rw [hi, ea] at hw2
          have HW2 := Lib.hid hw2
          have e10 := hw2.1.noE (.inl rfl)
          have e12 := hw2.1.noS e10
          have HSE := Lib.hid (HSS0.out.below ((hw2.1.st e12).2.mono (show w.heap.size ≤ z0.drew.heap.size by have := HZ0.out; omega)))
          clear hw2
          try simp only [ea, e2, sl_true]
          refine wpList_appAt rfl (.tmp 21) (.tmp 23) _ 85 (.agg #[.int .i64 0, .int .i64 0, .int .i64 0, .string ⟨#[]⟩]) 4 40 rfl (by kernel_rfl) Try.underlying36 rfl (by decide) z0.drew.heap.size _ 0 [] rfl (HW2.out.1.own0 rfl rfl).1 w.heap.size _ _ cap (flat (encL sP) us) rfl HSE.out (fun h => by cases h) HONE.out (by omega) (by omega) (HW2.out.1.st e12).2.size ?_
          intro vn yn ho hg hat
          try rw [Nat.zero_add] at ho
          try rw [List.nil_append] at ho
          go_wp2_with fail
          refine hQ.out _ _ ⟨p0, vn, p8, v2, ?_, ?_⟩
          · simp [Iv.upd, hi, hd, sl_true, sl_false, ea, e2, e10]
          · have hz := HW2.out.2
            have hk := HW2.out.1.app1 ho hg hat HZ0.out
            simpa [Iv.upd, ea, e2, hi] using (show _ ∧ _ from ⟨hk, hz.2⟩)
        · rintro fl a0 y Q' ⟨p0, v1, p8, v2, rfl, hw⟩ hi hd hQ
          replace hQ := Lib.hid hQ
          simp [Iv.depsB, Region.binds] at hd
          try simp only [hi, hd, sl_true, sl_false]
          try simp only [hi, sl_true, sl_false]
          go_wp2_with fail
          refine hQ.out _ _ ⟨p0, v1, p8, v2, ?_, ?_⟩
          · simp [Iv.upd, hi, hd, sl_true, sl_false]
          · simpa [Iv.upd, hi, hd] using hw
        · rintro fl a0 y Q' ⟨p0, v1, p8, v2, rfl, hw⟩ hi hd hQ
          replace hQ := Lib.hid hQ
          simp [Iv.depsB, Region.binds] at hd
          try simp only [hi, hd, sl_true, sl_false]
          try simp only [hi, sl_true, sl_false]
          have e8 : fl 8 = false := by
            cases e : fl 8 with
            | false => rfl
            | true => have := hw.2.2.2.1 e; simp_all
          have e9 : fl 9 = false := by
            cases e : fl 9 with
            | false => rfl
            | true => have := hw.2.2.1 e; simp_all
          have e10 := hw.1.noE (.inr e9)
          have e12 := hw.1.noS e10
          have c0 := ((hw.1.st e12).1.box.cell 66).trans HR66.out
          go_wp2_with fail
          refine hQ.out _ _ ⟨p0, v1, p8, v2, ?_, ?_⟩
          · simp [Iv.upd, hi, hd, sl_true, sl_false, e8, e9, e10, e12]
          · simpa [Iv.upd, hi, hd, e8, e9, e10, e12] using (show _ ∧ _ from ⟨hw.1, hw.2.1⟩)
        · rintro fl a0 y Q' ⟨p0, v1, p8, v2, rfl, hw⟩ hi hd hQ
          replace hQ := Lib.hid hQ
          simp [Iv.depsB, Region.binds] at hd
          try simp only [hi, hd, sl_true, sl_false]
          try simp only [hi, sl_true, sl_false]
          go_wp2_with fail
          refine hQ.out _ _ ⟨p0, v1, p8, v2, ?_, ?_⟩
          · simp [Iv.upd, hi, hd, sl_true, sl_false]
          · simpa [Iv.upd, hi, hd] using hw
        · rintro fl a0 y Q' ⟨p0, v1, p8, v2, rfl, hw⟩ hi hd hQ
          replace hQ := Lib.hid hQ
          simp [Iv.depsB, Region.binds] at hd
          try simp only [hi, hd, sl_true, sl_false]
          try simp only [hi, sl_true, sl_false]
          go_wp2_with fail
          refine hQ.out _ _ ⟨p0, v1, p8, v2, ?_, ?_⟩
          · simp [Iv.upd, hi, hd, sl_true, sl_false]
          · simpa [Iv.upd, hi, hd] using hw
        · rintro fl a0 y Q' ⟨p0, v1, p8, v2, rfl, hw⟩ hi hd hQ
          replace hQ := Lib.hid hQ
          simp [Iv.depsB, Region.binds] at hd
          try simp only [hi, hd, sl_true, sl_false]
          try simp only [hi, sl_true, sl_false]
          have e9 : fl 9 = false := by
            cases e : fl 9 with
            | false => rfl
            | true => have := hw.2.2.1 e; simp_all
          have e10 := hw.1.noE (.inr e9)
          have e12 := hw.1.noS e10
          have e7 : fl 7 = true := by simp [hd]
          have e5 := hw.2.2.2.2 e7
          have hbl := (hw.1.st e12).2
          have q0 := (hbl.cell (p := ⟨b0, off0 + k * 4 + 0, none⟩) (show b0 < _ by have := hbb; have := HZ0.out; omega)).trans (hcc 0 _ rfl)
          have q1 := (hbl.cell (p := ⟨b0, off0 + k * 4 + 1, none⟩) (show b0 < _ by have := hbb; have := HZ0.out; omega)).trans (hcc 1 _ rfl)
          have q2 := (hbl.cell (p := ⟨b0, off0 + k * 4 + 2, none⟩) (show b0 < _ by have := hbb; have := HZ0.out; omega)).trans (hcc 2 _ rfl)
          have q3 := (hbl.cell (p := ⟨b0, off0 + k * 4 + 3, none⟩) (show b0 < _ by have := hbb; have := HZ0.out; omega)).trans (hcc 3 _ rfl)
          rw [Nat.add_zero] at q0
          clear hbl
          go_wp2_with fail
          refine hQ.out _ _ ⟨p0, v1, p8, v2, ?_, ?_⟩
          · simp [Iv.upd, hi, hd, sl_true, sl_false, e9, e10, e12, e7, e5]
          · simpa [Iv.upd, hi, hd, e9, e10, e12, e7, e5] using hw
        · rintro fl a0 y Q' ⟨p0, v1, p8, v2, rfl, hw⟩ hi hd hQ
          replace hQ := Lib.hid hQ
          simp [Iv.depsB, Region.binds] at hd
          try simp only [hi, hd, sl_true, sl_false]
          try simp only [hi, sl_true, sl_false]
          have e8 : fl 8 = true := by simp [hd]
          have e5 := hw.2.2.2.1 e8
          have hw2 := hw
          rw [hi] at hw2
          go_wp2_with fail
          have e10 := hw2.1.noE (.inr rfl)
          refine hQ.out _ _ ⟨p0, v1, y.heap.size, v2, ?_, ?_⟩
          · simp [Iv.upd, hi, hd, sl_true, sl_false, e8, e5, e10]
          · simpa [Iv.upd, hi, hd, e8, e5, e10] using (show Ar w z0.drew (y.alloc (.cells #[.int .i64 id, .int .i64 fr, .int .i64 to, sP m] 85)) R Z p0 y.heap.size v1 v2 us ⟨id, fr, to, m⟩ (fl 0) (fl 3) true (fl 10) (fl 12) ∧ _ from ⟨hw2.1.item8, hw2.2.1⟩)
        · rintro fl a0 y Q' ⟨p0, v1, p8, v2, rfl, hw⟩ hi hd hQ
          replace hQ := Lib.hid hQ
          simp [Iv.depsB, Region.binds] at hd
          try simp only [hi, hd, sl_true, sl_false]
          try simp only [hi, sl_true, sl_false]
          have ea : fl 3 = true := by simp [hd]
          have e2 := hw.2.1 ea
          have eb : fl 9 = true := by simp [hd]
          have e8 := hw.2.2.1 eb
          have e5 := hw.2.2.2.1 e8
          have hw2 := hw
          rw [hi, ea, eb] at hw2
          have HW2 := Lib.hid hw2
          have e12 := hw2.1.noS rfl
          clear hw2
          try simp only [ea, eb, sl_true]
          refine wpList_appAt rfl (.tmp 24) (.tmp 30) _ 85 (.agg #[.int .i64 0, .int .i64 0, .int .i64 0, .string ⟨#[]⟩]) 4 40 rfl (by kernel_rfl) Try.underlying36 rfl (by decide) z0.drew.heap.size _ us.length (flat (encL sP) us) rfl (HW2.out.1.own1 rfl rfl) (p8 + 1) (some ⟨p8, 0, none⟩) 1 1 (encL sP ⟨id, fr, to, m⟩) rfl HW2.out.1.sees (fun h => by cases h) (by intro u hu; exact encL_one sone [⟨id, fr, to, m⟩] u (by rw [flat_one]; exact hu)) (by omega) (by omega) (HW2.out.1.st e12).2.size ?_
          intro vn yn ho hg hat
          rw [← flat_one (enc := encL sP), ← flat_append] at ho
          go_wp2_with fail
          refine hQ.out _ _ ⟨p0, v1, p8, vn, ?_, ?_⟩
          · simp [Iv.upd, hi, hd, sl_true, sl_false, ea, eb, e2, e8, e5]
          · have hz := HW2.out.2
            have hk := HW2.out.1.app2 ho hg HZ0.out
            simpa [Iv.upd, ea, eb, e2, e8, e5, hi] using hk
        · rintro fl a0 y Q' ⟨p0, v1, p8, v2, rfl, hw⟩ hi hd hQ
          replace hQ := Lib.hid hQ
          simp [Iv.depsB, Region.binds] at hd
          try simp only [hi, hd, sl_true, sl_false]
          try simp only [hi, sl_true, sl_false]
          go_wp2_with fail
          refine hQ.out _ _ ⟨p0, v1, p8, v2, ?_, ?_⟩
          · simp [Iv.upd, hi, hd, sl_true, sl_false]
          · simpa [Iv.upd, hi, hd] using hw
        · rintro fl a0 y Q' ⟨p0, v1, p8, v2, rfl, hw⟩ hi hd hQ
          replace hQ := Lib.hid hQ
          simp [Iv.depsB, Region.binds] at hd
          try simp only [hi, hd, sl_true, sl_false]
          try simp only [hi, sl_true, sl_false]
          have ea : fl 10 = true := by simp [hd]
          have eb : fl 11 = true := by simp [hd]
          have hw2 := hw.1
          rw [hi, ea] at hw2
          have hwk := (hw2.st rfl).1.box
          have c0 := (hwk.cell 66).trans HR66.out
          have d0 := hwk.free 66
          obtain ⟨A9, c9, rfl, -, -, -⟩ := own_slice0 (hw2.own2 rfl rfl)
          have HK := Lib.hid hw2.stored
          clear hw2 hwk
          try simp only [ea, eb, sl_true]
          go_wp2_with fail
          refine hQ.out _ _ ⟨p0, v1, p8, .slice A9 (us.length + 1) c9, ?_, ?_⟩
          · simp [Iv.upd, hi, hd, sl_true, sl_false, ea, eb]
          · have hk := HK.out
            simpa [Iv.upd, ea, eb, hi] using (show _ ∧ _ from ⟨hk, hw.2⟩)
      · rintro fl a0 y ⟨p0, v1, p8, v2, rfl, hw⟩ hall
        simp only [hall 0 (by decide), hall 1 (by decide), hall 2 (by decide), hall 3 (by decide), hall 4 (by decide), hall 5 (by decide), hall 6 (by decide), hall 7 (by decide), hall 8 (by decide), hall 9 (by decide), hall 10 (by decide), hall 11 (by decide), hall 12 (by decide), sl_true, ↓reduceIte] at hw ⊢
        clear hall
        have HF := Lib.hid (hw.1.fin rfl)
        clear hw
        obtain ⟨y0, ho, ht6, rfl⟩ := HF.out
        obtain ⟨A3, cap3, rfl, g1, g2, g3⟩ := own_slice0 ho
        have HT6 := Lib.hid (HRN.out y0 ht6 (.slice A3 (us.length + 1) cap3))
        have HO6 : Hid ((y0.setCell ⟨w.heap.size, 66, none⟩ (.slice A3 (us.length + 1) cap3)).ownsRow _ 85 4 (.slice A3 (us.length + 1) cap3) (us.length + 1) (flat (encL sP) (us ++ [⟨id, fr, to, m⟩]))) := Lib.hid (own_at ho fun b hb => Below.heap_setCell y0 ⟨w.heap.size, 66, none⟩ _ b (show b ≠ w.heap.size by have := (own_lt ho hb).1; have := HZ0.out; omega))
        have HSZ := Lib.hid (HS2.out (.slice A3 (us.length + 1) cap3))
        have HON := Lib.hid (HO2.out (.slice A3 (us.length + 1) cap3) rfl)
        generalize hR3 : rn n.nodes n.sent n.off (.slice A3 (us.length + 1) cap3) = R3 at *
        have HR3 := Lib.hid hR3
        generalize hy6 : y0.setCell ⟨w.heap.size, 66, none⟩ (.slice A3 (us.length + 1) cap3) = y6 at *
        clear HF ho ht6 hR3 hy6 HRN HS2 HO2 HT0 HSS HSS0 hcc
        go_wp2_with (first | refine wpList_loadN rfl (.tmp 2) rfl w.heap.size rfl R3 HT6.out.box HSZ.out ?_ | refine wpList_storeN rfl (.tmp 4) _ rfl (w.heap.size + 1) rfl R3 rfl Z HT6.out.res hZs HSZ.out HON.out ?_)
        refine bodyPost_ret (ret_net rfl rfl (HT6.out.res.setRow R3) HSZ.out) rfl ?_
        have hb := below_setRow HT6.out.below (Nat.le_succ w.heap.size) R3
        refine ⟨_, by rw [HR3.out]; rfl, ?_, hb⟩
        have hfin := own_at (w' := y6.setRow (w.heap.size + 1) R3) HO6.out fun b hb => setRow_other _ _ b _ (show b ≠ w.heap.size + 1 by have := (own_lt HO6.out hb).1; have := HZ0.out; omega)
        show Rg w _ _ (.slice A3 (us.length + 1) cap3) _ (n.under ++ [⟨id, fr, to, m⟩])
        rw [HUN.out]
        have hfin2 := own_less (B' := w.heap.size) hfin (by have := HZ0.out; omega)
        exact .inr (by rw [show (us ++ [(⟨id, fr, to, m⟩ : Lt (List UInt8))]).length = us.length + 1 by simp]; exact hfin2)
      -- GER
end Go.Proofs.Ytmbednikbdfnmaa
