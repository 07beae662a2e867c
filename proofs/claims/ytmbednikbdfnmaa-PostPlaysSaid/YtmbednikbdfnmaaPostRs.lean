/- Contracts of the document's net: Send. -/
import Derived.Test.YtmbednikbdfnmaaPostRa
namespace Go.Proofs.Ytmbednikbdfnmaa
open Go.RowKit Go.Po Go.Maps
set_option linter.unusedVariables false
set_option linter.unusedSimpArgs false
set_option maxRecDepth 100000

theorem ret_send {fn : Func} {p u q : Tmp} (h : fn.results = #[.cell p 38, .tmp u, .tmp q]) {tmps : Array Value} {w : World} {b : Nat} {R : Array Value} (hp : tmps.getD p undef = .pointer (some ⟨b, 0, none⟩)) (hw : Whole w b 38 R) (hs : R.size = 67) :
    (results fn tmps).run Try.prog w = .ok (.tuple #[.agg R, tmps.getD u undef, tmps.getD q undef]) w := by
  simp only [results, h]
  simp [Sem.run_bind, Result.andThen, asAddr, hp, rload hw hs]
  simp at hp
  simp [hp, rload hw hs]
theorem rn_has {n : Nt (List UInt8)} {a b : Int} (h : ¬ (n.has a ∧ n.has b)) : a < 0 ∨ (0 ≤ a ∧ b < 0) ∨ (0 ≤ a ∧ 0 ≤ b ∧ n.nodes ≤ a) ∨ (0 ≤ a ∧ 0 ≤ b ∧ a < n.nodes ∧ n.nodes ≤ b) := by
  unfold Nt.has at h
  omega
def so (b : Bool) (v u : Value) : Value := if b then v else u
theorem so_true (v u : Value) : so true v u = v := rfl
theorem so_false (v u : Value) : so false v u = u := rfl
/-- A world ahead of a store, or behind it. -/
structure Sw (a b y : World) (s l : Bool) : Prop where
  a : s = false → y = a
  b : s = true → y = b
  o : s = true → l = true
set_option maxHeartbeats 20000000 in
theorem rsend_any (n : Nt (List UInt8)) (hn : Fine n) (v : Value) (a b : Int) (ha : W64 a) (hb : W64 b) (m : List UInt8) (hq : n.sent + 1 ≤ 9223372036854775807) (w : World) (hv : Rs w v n.under) :
    Calls Try.prog 46 #[.agg (rn n.nodes n.sent n.off v), .int .i64 a, .int .i64 b, sP m] w fun e w' => ∃ v', e = .returned (.tuple #[.agg (rn n.nodes (n.send a b m).1.sent n.off v'), .int .i64 (n.send a b m).2.1, .int .i64 (n.send a b m).2.2]) ∧ Rg w w' v v' n.under (n.send a b m).1.under ∧ Below w.heap.size w w' := by
  have hz := rzero
  have hfew := hn.few
  unfold W64 at ha hb
  obtain ⟨Z, hZ⟩ : ∃ Z, rn 0 0 (fun _ => false) (.slice none 0 0) = Z := ⟨_, rfl⟩
  have hZs : Z.size = 67 := by rw [← hZ]; exact rn_size
  rw [hZ] at hz
  clear hZ
  obtain ⟨A, cap, rfl, hs, h1, h2, h3⟩ := hv.lies
  have hR0 := rn_0 (nodes := n.nodes) (sent := n.sent) (off := n.off) (v := .slice A n.under.length cap)
  have hRq := rn_1 (nodes := n.nodes) (sent := n.sent) (off := n.off) (v := .slice A n.under.length cap)
  have hR66 := rn_66 (nodes := n.nodes) (sent := n.sent) (off := n.off) (v := .slice A n.under.length cap)
  have hRs := rn_size (nodes := n.nodes) (sent := n.sent) (off := n.off) (v := .slice A n.under.length cap)
  have hR1 := rone (nodes := n.nodes) (sent := n.sent) (off := n.off) (v := .slice A n.under.length cap) rfl
  have HV := Lib.hid hv
  by_cases hh : n.has a ∧ n.has b
  · have hna := hh.1
    have hnb := hh.2
    unfold Nt.has at hna hnb
    obtain ⟨ka, rfl⟩ : ∃ k : Nat, a = (k : Int) := ⟨a.toNat, by omega⟩
    obtain ⟨kb, rfl⟩ : ∃ k : Nat, b = (k : Int) := ⟨b.toNat, by omega⟩
    have k1 : (ka : Int) < n.nodes := hna.2
    have k2 : (kb : Int) < n.nodes := hnb.2
    have k3 : ¬ (n.nodes ≤ (ka : Int)) := by omega
    have k4 : ¬ (n.nodes ≤ (kb : Int)) := by omega
    have kn1 : decide ((ka : Int) < 0) = false := decide_eq_false (by omega)
    have kn2 : decide ((kb : Int) < 0) = false := decide_eq_false (by omega)
    by_cases hfull : n.under.length = 1000
    · have HE : Hid (n.send ka kb m = (n, 0, 91)) := Lib.hid (by unfold Nt.send; rw [if_neg (fun h => h hh), if_pos hfull])
      rw [HE.out]
      obtain ⟨R, hR⟩ : ∃ R, rn n.nodes n.sent n.off (.slice A n.under.length cap) = R := ⟨_, rfl⟩
      have HR := Lib.hid hR
      rw [hR] at hR0 hR66 hRs hR1 ⊢
      have ht := Two2.start w R Z
      have HT := Lib.hid ht
      have c0 := (ht.box.cell 66).trans hR66
      have c1 := (ht.box.cell 0).trans hR0
      rw [hfull] at c0
      generalize n.nodes = nd at *
      clear ht hh hR hv hs hna hnb hRq
      go_enter Try.func46, Try.ntmps46
      go_wp2_with (first | refine wpList_loadN rfl (.tmp 4) rfl w.heap.size rfl R HT.out.box hRs ?_ | refine wpList_storeN rfl (.tmp 8) _ rfl (w.heap.size + 1) rfl R rfl Z HT.out.res hZs hRs hR1 ?_)
      refine bodyPost_ret (ret_send rfl rfl (HT.out.res.setRow R) hRs) rfl ?_
      have hb := below_setRow HT.out.below (Nat.le_succ w.heap.size) R
      exact ⟨.slice A n.under.length cap, by rw [HR.out]; rfl, .inl ⟨by first | rfl | rw [hfull], rfl⟩, hb⟩
    · have HE : Hid (n.send ka kb m = ({ n with under := n.under ++ [(⟨n.sent + 1, ka, kb, m⟩ : Lt (List UInt8))], sent := n.sent + 1 }, (n.sent : Int) + 1, 0)) := Lib.hid (by unfold Nt.send; rw [if_neg (fun h => h hh), if_neg hfull])
      rw [HE.out]
      have hfull' : ((n.under.length : Int) == 1000) = false := by simp; omega
      have HR2 : Hid ((rn n.nodes n.sent n.off (.slice A n.under.length cap)).setIfInBounds 1 (.int .i64 ((n.sent : Int) + 1)) = rn n.nodes ((n.sent : Int) + 1) n.off (.slice A n.under.length cap)) := Lib.hid (rn_set1 _)
      have HRN : Hid (∀ w3, Two2 w w3 (rn n.nodes ((n.sent : Int) + 1) n.off (.slice A n.under.length cap)) Z → ∀ v', Two2 w (w3.setCell ⟨w.heap.size, 66, none⟩ v') (rn n.nodes ((n.sent : Int) + 1) n.off v') Z) := Lib.hid fun w3 h v' => h.row
      have HS2 : Hid (∀ u, (rn n.nodes ((n.sent : Int) + 1) n.off u).size = 67) := Lib.hid fun u => rn_size
      have HQ2 : Hid (∀ u, (rn n.nodes ((n.sent : Int) + 1) n.off u)[1]? = some (.int .i64 ((n.sent : Int) + 1))) := Lib.hid fun u => rn_1
      have H66 : Hid (∀ u, (rn n.nodes ((n.sent : Int) + 1) n.off u)[66]? = some u) := Lib.hid fun u => rn_66
      have HO2 : Hid (∀ u, u.oneCell' = true → (rn n.nodes ((n.sent : Int) + 1) n.off u).all (·.oneCell') = true) := Lib.hid fun u hu => rone hu
      obtain ⟨R, hR⟩ : ∃ R, rn n.nodes n.sent n.off (.slice A n.under.length cap) = R := ⟨_, rfl⟩
      have HR := Lib.hid hR
      rw [hR] at hR0 hRq hR66 hRs hR1 HR2 ⊢
      have ht := Two2.start w R Z
      have HT := Lib.hid ht
      have c0 := (ht.box.cell 66).trans hR66
      have c1 := (ht.box.cell 0).trans hR0
      have c2 := (ht.box.cell 1).trans hRq
      have f2 := ht.box.free 1
      have HSS := Lib.hid (hs.below ht.below)
      have HS9 := Lib.hid hs
      have HONE := Lib.hid (encL_one sone n.under)
      clear ht hh hR hv hs hna hnb hR0 hRq hR66
      go_enter Try.func46, Try.ntmps46
      go_wp2_with fail
      -- REG
      rw [HR2.out]
      have HZ1 : Hid (w.heap.size + 2 ≤ ((w.alloc (.cells R 38)).alloc (.cells Z 38)).heap.size) := Lib.hid (by simp)
      have HB1 : Hid (Sees ((w.alloc (.cells (rn n.nodes ((n.sent : Int) + 1) n.off (.slice A n.under.length cap)) 38)).alloc (.cells Z 38)).drew w.heap.size 4 A n.under.length (flat (encL sP) n.under)) := Lib.hid (HS9.out.below (below_drewN (Two2.start w _ Z).below 1))
      have HT0 : Hid (Two2 w ((w.alloc (.cells (rn n.nodes ((n.sent : Int) + 1) n.off (.slice A n.under.length cap)) 38)).alloc (.cells Z 38)).drew (rn n.nodes ((n.sent : Int) + 1) n.off (.slice A n.under.length cap)) Z) := Lib.hid ((Two2.start w _ Z).call (below_drewN (Below.refl _ _) 1))
      have HZ0 : Hid (w.heap.size + 2 ≤ ((w.alloc (.cells (rn n.nodes ((n.sent : Int) + 1) n.off (.slice A n.under.length cap)) 38)).alloc (.cells Z 38)).drew.heap.size) := Lib.hid (by show _ ≤ ((w.alloc (.cells _ 38)).alloc (.cells Z 38)).heap.size; simp)
      have HR66 := Lib.hid (H66.out (.slice A n.under.length cap))
      have HRQ := Lib.hid (HQ2.out (.slice A n.under.length cap))
      have HSS0 := HB1
      clear HB1 HZ1 c0 c1 c2 f2 HS9
      generalize hR2 : rn n.nodes ((n.sent : Int) + 1) n.off (.slice A n.under.length cap) = R2 at *
      generalize hz9 : (w.alloc (.cells R2 38)).alloc (.cells Z 38) = z0 at *
      generalize hsq : (n.sent : Int) + 1 = sq at *
      have HSQ := Lib.hid hsq
      clear hR2 hz9 hsq
      generalize hun : n.under = us at *
      have HUN := Lib.hid hun
      generalize hnd : n.nodes = nd at *
      have HND := Lib.hid hnd
      clear hun hnd
      refine Iv.region (fun fl aa y => ∃ p0 v1 p8 v2, aa = ⟨#[.agg R, .int .i64 (ka : Int), .int .i64 (kb : Int), sP m, .pointer (some ⟨w.heap.size, 0, none⟩), undef, undef, undef, .pointer (some ⟨w.heap.size + 1, 0, none⟩), .int .i64 0, .int .i64 0, .int .i64 (ka : Int), .bool false, .bool false, .int .i64 (kb : Int), .bool false, .bool false, .bool false, .int .i64 (ka : Int), .pointer (some ⟨w.heap.size, 0, none⟩), .int .i64 nd, .bool false, .bool false, .bool false, .int .i64 (kb : Int), .pointer (some ⟨w.heap.size, 0, none⟩), .int .i64 nd, .bool false, .bool false, undef, .pointer (some ⟨w.heap.size, 66, none⟩), .slice A us.length cap, .int .i64 (us.length : Int), .bool false, undef, .pointer (some ⟨w.heap.size, 1, none⟩), .int .i64 (n.sent : Int), .int .i64 sq, .pointer (some ⟨w.heap.size, 1, none⟩), sl (fl 0) (.slice (some ⟨p0, 0, none⟩) 0 0), sl (fl 1) (.pointer (some ⟨w.heap.size, 66, none⟩)), sl (fl 2) (.slice A us.length cap), sl (fl 3) (v1), sl (fl 4) (.pointer (some ⟨w.heap.size, 1, none⟩)), sl (fl 5) (.int .i64 sq), sl (fl 6) (.int .i64 (ka : Int)), sl (fl 7) (.int .i64 (kb : Int)), sl (fl 8) (sP m), sl (fl 9) (.agg #[.int .i64 sq, .int .i64 (ka : Int), .int .i64 (kb : Int), sP m]), sl (fl 10) (.slice (some ⟨p8, 0, none⟩) 1 1), sl (fl 11) (v2), sl (fl 12) (.pointer (some ⟨w.heap.size, 66, none⟩)), undef, undef, undef], []⟩ ∧ Ar w z0.drew y R2 Z p0 p8 v1 v2 us ⟨sq, ka, kb, m⟩ (fl 0) (fl 3) (fl 10) (fl 11) (fl 13) ∧ (fl 3 = true → fl 2 = true) ∧ (fl 10 = true → fl 9 = true) ∧ (fl 9 = true → fl 5 = true)) (by kernel_rfl) (by kernel_rfl) ?_ ?_ ?_
      · exact ⟨0, undef, 0, undef, rfl, by simpa using Ar.start HT0.out 0 0 undef undef us ⟨sq, ka, kb, m⟩⟩
      · refine ⟨?_, ?_, ?_, ?_, ?_, ?_, ?_, ?_, ?_, ?_, ?_, ?_, ?_, ?_, trivial⟩
        · rintro fl a0 y Q' ⟨p0, v1, p8, v2, rfl, hw⟩ hi hd hQ
          replace hQ := Lib.hid hQ
          simp [Iv.depsB, Region.binds] at hd
          try simp only [hi, hd, sl_true, sl_false]
          try simp only [hi, sl_true, sl_false]
          have hw2 := hw
          rw [hi] at hw2
          go_wp2_with fail
          refine hQ.out _ _ ⟨y.heap.size, v1, p8, v2, ?_, ?_⟩
          · simp [Iv.upd, hi, hd, sl_true, sl_false]
          · simpa [Iv.upd, hi, hd] using (show _ ∧ _ from ⟨hw2.1.made, hw2.2⟩)
        · rintro fl a0 y Q' ⟨p0, v1, p8, v2, rfl, hw⟩ hi hd hQ
          replace hQ := Lib.hid hQ
          simp [Iv.depsB, Region.binds] at hd
          try simp only [hi, hd, sl_true, sl_false]
          try simp only [hi, sl_true, sl_false]
          go_wp2_with fail
          refine hQ.out _ _ ⟨p0, v1, p8, v2, ?_, ?_⟩
          · simp [Iv.upd, hi, hd, sl_true, sl_false]
          · simpa [Iv.upd, hi, hd] using hw
        · rintro fl a0 y Q' ⟨p0, v1, p8, v2, rfl, hw⟩ hi hd hQ
          replace hQ := Lib.hid hQ
          simp [Iv.depsB, Region.binds] at hd
          try simp only [hi, hd, sl_true, sl_false]
          try simp only [hi, sl_true, sl_false]
          have e3 : fl 3 = false := by
            cases e : fl 3 with
            | false => rfl
            | true => have := hw.2.1 e; simp_all
          have e10 := hw.1.noE (.inl e3)
          have e12 := hw.1.noS e10
          have c0 := ((hw.1.st e12).1.box.cell 66).trans HR66.out
          go_wp2_with fail
          refine hQ.out _ _ ⟨p0, v1, p8, v2, ?_, ?_⟩
          · simp [Iv.upd, hi, hd, sl_true, sl_false, e3, e10, e12]
          · simpa [Iv.upd, hi, hd, e3, e10, e12] using (show _ ∧ _ from ⟨hw.1, hw.2.2⟩)
        · rintro fl a0 y Q' ⟨p0, v1, p8, v2, rfl, hw⟩ hi hd hQ
          replace hQ := Lib.hid hQ
          simp [Iv.depsB, Region.binds] at hd
          try simp only [hi, hd, sl_true, sl_false]
          try simp only [hi, sl_true, sl_false]
          have ea : fl 0 = true := by simp [hd]
          have e2 : fl 2 = true := by simp [hd]
          have hw2 := hw
          rw [hi, ea] at hw2
          have HW2 := Lib.hid hw2
          have e11 := hw2.1.noE (.inl rfl)
          have e13 := hw2.1.noS e11
          have HSE := Lib.hid (HSS0.out.below ((hw2.1.st e13).2.mono (show w.heap.size ≤ z0.drew.heap.size by have := HZ0.out; omega)))
          clear hw2
          try simp only [ea, e2, sl_true]
          refine wpList_appAt rfl (.tmp 39) (.tmp 41) _ 85 (.agg #[.int .i64 0, .int .i64 0, .int .i64 0, .string ⟨#[]⟩]) 4 40 rfl (by kernel_rfl) Try.underlying36 rfl (by decide) z0.drew.heap.size _ 0 [] rfl (HW2.out.1.own0 rfl rfl).1 w.heap.size _ _ cap (flat (encL sP) us) rfl HSE.out h3 HONE.out (by omega) (by omega) (HW2.out.1.st e13).2.size ?_
          intro vn yn ho hg hat
          try rw [Nat.zero_add] at ho
          try rw [List.nil_append] at ho
          go_wp2_with fail
          refine hQ.out _ _ ⟨p0, vn, p8, v2, ?_, ?_⟩
          · simp [Iv.upd, hi, hd, sl_true, sl_false, ea, e2, e11]
          · have hz := HW2.out.2
            have hk := HW2.out.1.app1 ho hg hat HZ0.out
            simpa [Iv.upd, ea, e2, hi] using (show _ ∧ _ from ⟨hk, hz.2⟩)
        · rintro fl a0 y Q' ⟨p0, v1, p8, v2, rfl, hw⟩ hi hd hQ
          replace hQ := Lib.hid hQ
          simp [Iv.depsB, Region.binds] at hd
          try simp only [hi, hd, sl_true, sl_false]
          try simp only [hi, sl_true, sl_false]
          go_wp2_with fail
          refine hQ.out _ _ ⟨p0, v1, p8, v2, ?_, ?_⟩
          · simp [Iv.upd, hi, hd, sl_true, sl_false]
          · simpa [Iv.upd, hi, hd] using hw
        · rintro fl a0 y Q' ⟨p0, v1, p8, v2, rfl, hw⟩ hi hd hQ
          replace hQ := Lib.hid hQ
          simp [Iv.depsB, Region.binds] at hd
          try simp only [hi, hd, sl_true, sl_false]
          try simp only [hi, sl_true, sl_false]
          have e9 : fl 9 = false := by
            cases e : fl 9 with
            | false => rfl
            | true => have := hw.2.2.2 e; simp_all
          have e10 : fl 10 = false := by
            cases e : fl 10 with
            | false => rfl
            | true => have := hw.2.2.1 e; simp_all
          have e11 := hw.1.noE (.inr e10)
          have e13 := hw.1.noS e11
          have c0 := ((hw.1.st e13).1.box.cell 1).trans HRQ.out
          go_wp2_with fail
          refine hQ.out _ _ ⟨p0, v1, p8, v2, ?_, ?_⟩
          · simp [Iv.upd, hi, hd, sl_true, sl_false, e9, e10, e11, e13]
          · simpa [Iv.upd, hi, hd, e9, e10, e11, e13] using (show _ ∧ _ from ⟨hw.1, hw.2.1⟩)
        · rintro fl a0 y Q' ⟨p0, v1, p8, v2, rfl, hw⟩ hi hd hQ
          replace hQ := Lib.hid hQ
          simp [Iv.depsB, Region.binds] at hd
          try simp only [hi, hd, sl_true, sl_false]
          try simp only [hi, sl_true, sl_false]
          go_wp2_with fail
          refine hQ.out _ _ ⟨p0, v1, p8, v2, ?_, ?_⟩
          · simp [Iv.upd, hi, hd, sl_true, sl_false]
          · simpa [Iv.upd, hi, hd] using hw
        · rintro fl a0 y Q' ⟨p0, v1, p8, v2, rfl, hw⟩ hi hd hQ
          replace hQ := Lib.hid hQ
          simp [Iv.depsB, Region.binds] at hd
          try simp only [hi, hd, sl_true, sl_false]
          try simp only [hi, sl_true, sl_false]
          go_wp2_with fail
          refine hQ.out _ _ ⟨p0, v1, p8, v2, ?_, ?_⟩
          · simp [Iv.upd, hi, hd, sl_true, sl_false]
          · simpa [Iv.upd, hi, hd] using hw
        · rintro fl a0 y Q' ⟨p0, v1, p8, v2, rfl, hw⟩ hi hd hQ
          replace hQ := Lib.hid hQ
          simp [Iv.depsB, Region.binds] at hd
          try simp only [hi, hd, sl_true, sl_false]
          try simp only [hi, sl_true, sl_false]
          go_wp2_with fail
          refine hQ.out _ _ ⟨p0, v1, p8, v2, ?_, ?_⟩
          · simp [Iv.upd, hi, hd, sl_true, sl_false]
          · simpa [Iv.upd, hi, hd] using hw
        · rintro fl a0 y Q' ⟨p0, v1, p8, v2, rfl, hw⟩ hi hd hQ
          replace hQ := Lib.hid hQ
          simp [Iv.depsB, Region.binds] at hd
          try simp only [hi, hd, sl_true, sl_false]
          try simp only [hi, sl_true, sl_false]
          have e5 : fl 5 = true := by simp [hd]
          have e6 : fl 6 = true := by simp [hd]
          have e7 : fl 7 = true := by simp [hd]
          have e8 : fl 8 = true := by simp [hd]
          go_wp2_with fail
          refine hQ.out _ _ ⟨p0, v1, p8, v2, ?_, ?_⟩
          · simp [Iv.upd, hi, hd, sl_true, sl_false, e5, e6, e7, e8]
          · simpa [Iv.upd, hi, hd, e5, e6, e7, e8] using (show _ ∧ _ from ⟨hw.1, hw.2.1⟩)
        · rintro fl a0 y Q' ⟨p0, v1, p8, v2, rfl, hw⟩ hi hd hQ
          replace hQ := Lib.hid hQ
          simp [Iv.depsB, Region.binds] at hd
          try simp only [hi, hd, sl_true, sl_false]
          try simp only [hi, sl_true, sl_false]
          have e9 : fl 9 = true := by simp [hd]
          have e5 := hw.2.2.2 e9
          have hw2 := hw
          rw [hi] at hw2
          go_wp2_with fail
          have e11 := hw2.1.noE (.inr rfl)
          refine hQ.out _ _ ⟨p0, v1, y.heap.size, v2, ?_, ?_⟩
          · simp [Iv.upd, hi, hd, sl_true, sl_false, e9, e5, e11]
          · simpa [Iv.upd, hi, hd, e9, e5, e11] using (show Ar w z0.drew (y.alloc (.cells #[.int .i64 sq, .int .i64 (ka : Int), .int .i64 (kb : Int), sP m] 85)) R2 Z p0 y.heap.size v1 v2 us ⟨sq, ka, kb, m⟩ (fl 0) (fl 3) true (fl 11) (fl 13) ∧ _ from ⟨hw2.1.item8, hw2.2.1⟩)
        · rintro fl a0 y Q' ⟨p0, v1, p8, v2, rfl, hw⟩ hi hd hQ
          replace hQ := Lib.hid hQ
          simp [Iv.depsB, Region.binds] at hd
          try simp only [hi, hd, sl_true, sl_false]
          try simp only [hi, sl_true, sl_false]
          have ea : fl 3 = true := by simp [hd]
          have e2 := hw.2.1 ea
          have eb : fl 10 = true := by simp [hd]
          have e9 := hw.2.2.1 eb
          have e5 := hw.2.2.2 e9
          have hw2 := hw
          rw [hi, ea, eb] at hw2
          have HW2 := Lib.hid hw2
          have e13 := hw2.1.noS rfl
          clear hw2
          try simp only [ea, eb, sl_true]
          refine wpList_appAt rfl (.tmp 42) (.tmp 49) _ 85 (.agg #[.int .i64 0, .int .i64 0, .int .i64 0, .string ⟨#[]⟩]) 4 40 rfl (by kernel_rfl) Try.underlying36 rfl (by decide) z0.drew.heap.size _ us.length (flat (encL sP) us) rfl (HW2.out.1.own1 rfl rfl) (p8 + 1) (some ⟨p8, 0, none⟩) 1 1 (encL sP ⟨sq, ka, kb, m⟩) rfl HW2.out.1.sees (fun h => by cases h) (by intro u hu; exact encL_one sone [⟨sq, ka, kb, m⟩] u (by rw [flat_one]; exact hu)) (by omega) (by omega) (HW2.out.1.st e13).2.size ?_
          intro vn yn ho hg hat
          rw [← flat_one (enc := encL sP), ← flat_append] at ho
          go_wp2_with fail
          refine hQ.out _ _ ⟨p0, v1, p8, vn, ?_, ?_⟩
          · simp [Iv.upd, hi, hd, sl_true, sl_false, ea, eb, e2, e9, e5]
          · have hz := HW2.out.2
            have hk := HW2.out.1.app2 ho hg HZ0.out
            simpa [Iv.upd, ea, eb, e2, e9, e5, hi] using hk
        · rintro fl a0 y Q' ⟨p0, v1, p8, v2, rfl, hw⟩ hi hd hQ
          replace hQ := Lib.hid hQ
          simp [Iv.depsB, Region.binds] at hd
          try simp only [hi, hd, sl_true, sl_false]
          try simp only [hi, sl_true, sl_false]
          go_wp2_with fail
          refine hQ.out _ _ ⟨p0, v1, p8, v2, ?_, ?_⟩
          · simp [Iv.upd, hi, hd, sl_true, sl_false]
          · simpa [Iv.upd, hi, hd] using hw
        · rintro fl a0 y Q' ⟨p0, v1, p8, v2, rfl, hw⟩ hi hd hQ
          replace hQ := Lib.hid hQ
          simp [Iv.depsB, Region.binds] at hd
          try simp only [hi, hd, sl_true, sl_false]
          try simp only [hi, sl_true, sl_false]
          have ea : fl 11 = true := by simp [hd]
          have eb : fl 12 = true := by simp [hd]
          have hw2 := hw.1
          rw [hi, ea] at hw2
          have hwk := (hw2.st rfl).1.box
          have c0 := (hwk.cell 66).trans HR66.out
          have d0 := hwk.free 66
          obtain ⟨A9, c9, rfl, -, -, -⟩ := own_slice0 (hw2.own2 rfl rfl)
          have HK := Lib.hid hw2.stored
          clear hw2 hwk
          try simp only [ea, eb, sl_true]
          go_wp2_with fail
          refine hQ.out _ _ ⟨p0, v1, p8, .slice A9 (us.length + 1) c9, ?_, ?_⟩
          · simp [Iv.upd, hi, hd, sl_true, sl_false, ea, eb]
          · have hk := HK.out
            simpa [Iv.upd, ea, eb, hi] using (show _ ∧ _ from ⟨hk, hw.2⟩)
      · rintro fl a0 y ⟨p0, v1, p8, v2, rfl, hw⟩ hall
        simp only [hall 0 (by decide), hall 1 (by decide), hall 2 (by decide), hall 3 (by decide), hall 4 (by decide), hall 5 (by decide), hall 6 (by decide), hall 7 (by decide), hall 8 (by decide), hall 9 (by decide), hall 10 (by decide), hall 11 (by decide), hall 12 (by decide), hall 13 (by decide), sl_true, ↓reduceIte] at hw ⊢
        clear hall
        have HF := Lib.hid (hw.1.fin rfl)
        clear hw
        obtain ⟨y0, ho, ht6, rfl⟩ := HF.out
        obtain ⟨A3, cap3, rfl, g1, g2, g3⟩ := own_slice0 ho
        have HT6 := Lib.hid (HRN.out y0 ht6 (.slice A3 (us.length + 1) cap3))
        have HO6 : Hid ((y0.setCell ⟨w.heap.size, 66, none⟩ (.slice A3 (us.length + 1) cap3)).ownsRow _ 85 4 (.slice A3 (us.length + 1) cap3) (us.length + 1) (flat (encL sP) (us ++ [⟨sq, ka, kb, m⟩]))) := Lib.hid (own_at ho fun b hb => Below.heap_setCell y0 ⟨w.heap.size, 66, none⟩ _ b (show b ≠ w.heap.size by have := (own_lt ho hb).1; have := HZ0.out; omega))
        have HSZ := Lib.hid (HS2.out (.slice A3 (us.length + 1) cap3))
        have HON := Lib.hid (HO2.out (.slice A3 (us.length + 1) cap3) rfl)
        have HQ3 := Lib.hid (HQ2.out (.slice A3 (us.length + 1) cap3))
        generalize hR3 : rn nd sq n.off (.slice A3 (us.length + 1) cap3) = R3 at *
        have HR3 := Lib.hid hR3
        generalize hy6 : y0.setCell ⟨w.heap.size, 66, none⟩ (.slice A3 (us.length + 1) cap3) = y6 at *
        clear HF ho ht6 hR3 hy6 HRN HS2 HO2 HT0 HSS HSS0 HQ2 H66
        go_wp2_with fail
        have HT6b := Lib.hid (HT6.out.box.drewN 1)
        have HT6c : Hid (y6.cell? ⟨w.heap.size, 1, none⟩ = some (.int .i64 sq)) := Lib.hid ((HT6.out.box.cell 1).trans HQ3.out)
        have HT6d : Hid ((y6.drew.setRow (w.heap.size + 1) R3).cell? ⟨w.heap.size, 1, none⟩ = some (.int .i64 sq)) := Lib.hid ((((HT6.out.box.drewN 1).rowAway (show w.heap.size ≠ w.heap.size + 1 by omega) R3).cell 1).trans HQ3.out)
        refine Iv.region (fun fl aa y => aa = ⟨#[.agg R, .int .i64 (ka : Int), .int .i64 (kb : Int), sP m, .pointer (some ⟨w.heap.size, 0, none⟩), undef, undef, undef, .pointer (some ⟨w.heap.size + 1, 0, none⟩), so (fl 4) (.int .i64 sq) (.int .i64 0), .int .i64 0, .int .i64 (ka : Int), .bool false, .bool false, .int .i64 (kb : Int), .bool false, .bool false, .bool false, .int .i64 (ka : Int), .pointer (some ⟨w.heap.size, 0, none⟩), .int .i64 nd, .bool false, .bool false, .bool false, .int .i64 (kb : Int), .pointer (some ⟨w.heap.size, 0, none⟩), .int .i64 nd, .bool false, .bool false, undef, .pointer (some ⟨w.heap.size, 66, none⟩), .slice A us.length cap, .int .i64 (us.length : Int), .bool false, undef, .pointer (some ⟨w.heap.size, 1, none⟩), .int .i64 (n.sent : Int), .int .i64 sq, .pointer (some ⟨w.heap.size, 1, none⟩), .slice (some ⟨p0, 0, none⟩) 0 0, .pointer (some ⟨w.heap.size, 66, none⟩), .slice A us.length cap, v1, .pointer (some ⟨w.heap.size, 1, none⟩), .int .i64 sq, .int .i64 (ka : Int), .int .i64 (kb : Int), sP m, .agg #[.int .i64 sq, .int .i64 (ka : Int), .int .i64 (kb : Int), sP m], .slice (some ⟨p8, 0, none⟩) 1 1, .slice A3 (us.length + 1) cap3, .pointer (some ⟨w.heap.size, 66, none⟩), sl (fl 0) (.agg R3), sl (fl 1) (.pointer (some ⟨w.heap.size, 1, none⟩)), sl (fl 2) (.int .i64 sq)], []⟩ ∧ Sw y6.drew (y6.drew.setRow (w.heap.size + 1) R3) y (fl 3) (fl 0)) (by kernel_rfl) (by kernel_rfl) ?_ ?_ ?_
        · exact ⟨rfl, ⟨fun _ => rfl, (fun h => by cases h), fun h => by cases h⟩⟩
        · refine ⟨?_, ?_, ?_, ?_, ?_, ?_, trivial⟩
          · rintro fl a0 y Q' ⟨rfl, hw⟩ hi hd hQ
            replace hQ := Lib.hid hQ
            simp [Iv.depsB, Region.binds] at hd
            try simp only [hi, hd, sl_true, sl_false, so_true, so_false]
            try simp only [hi, sl_true, sl_false, so_true, so_false]
            have e3 : fl 3 = false := by
              cases e : fl 3 with
              | false => rfl
              | true => have := hw.o e; simp [hi] at this
            obtain rfl := hw.a e3
            refine wpList_loadN rfl (.tmp 4) rfl w.heap.size rfl R3 HT6b.out HSZ.out ?_
            go_wp2_with fail
            refine hQ.out _ _ ⟨?_, ?_⟩
            · simp [Iv.upd, hi, e3, sl_true, sl_false, so_true, so_false]
            · first | (simpa [Iv.upd, e3] using (show Sw y6.drew (y6.drew.setRow (w.heap.size + 1) R3) y6.drew false true from ⟨fun _ => rfl, (fun h => by cases h), fun _ => rfl⟩)) | (have hw := hw; simp only [hd] at hw; simpa [Iv.upd, e3] using hw)
          · rintro fl a0 y Q' ⟨rfl, hw⟩ hi hd hQ
            replace hQ := Lib.hid hQ
            simp [Iv.depsB, Region.binds] at hd
            try simp only [hi, hd, sl_true, sl_false, so_true, so_false]
            try simp only [hi, sl_true, sl_false, so_true, so_false]
            go_wp2_with fail
            refine hQ.out _ _ ⟨?_, ?_⟩
            · simp [Iv.upd, hi, sl_true, sl_false, so_true, so_false]
            · first | (simpa [Iv.upd] using hw) | (have hw := hw; simp only [hd] at hw; simpa [Iv.upd] using hw)
          · rintro fl a0 y Q' ⟨rfl, hw⟩ hi hd hQ
            replace hQ := Lib.hid hQ
            simp [Iv.depsB, Region.binds] at hd
            try simp only [hi, hd, sl_true, sl_false, so_true, so_false]
            try simp only [hi, sl_true, sl_false, so_true, so_false]
            have d1 : fl 1 = true := by simp [hd]
            try simp only [d1, sl_true]
            cases e3 : fl 3 with
            | false =>
              obtain rfl := hw.a e3
              have c0 := HT6c.out
              go_wp2_with fail
              refine hQ.out _ _ ⟨?_, ?_⟩
              · simp [Iv.upd, hi, e3, d1, sl_true, sl_false, so_true, so_false]
              · first | (simpa [Iv.upd, e3, d1] using (show Sw y6.drew (y6.drew.setRow (w.heap.size + 1) R3) y6.drew false (fl 0) from ⟨fun _ => rfl, (fun h => by cases h), fun h => by cases h⟩)) | (have hw := hw; simp only [hd] at hw; simpa [Iv.upd, e3, d1] using hw)
            | true =>
              have d0 := hw.o e3
              obtain rfl := hw.b e3
              have c0 := HT6d.out
              go_wp2_with fail
              refine hQ.out _ _ ⟨?_, ?_⟩
              · simp [Iv.upd, hi, e3, d0, d1, sl_true, sl_false, so_true, so_false]
              · first | (simpa [Iv.upd, e3, d0, d1] using (show Sw y6.drew (y6.drew.setRow (w.heap.size + 1) R3) (y6.drew.setRow (w.heap.size + 1) R3) true true from ⟨(fun h => by cases h), fun _ => rfl, fun _ => rfl⟩)) | (have hw := hw; simp only [hd] at hw; simpa [Iv.upd, e3, d0, d1] using hw)
          · rintro fl a0 y Q' ⟨rfl, hw⟩ hi hd hQ
            replace hQ := Lib.hid hQ
            simp [Iv.depsB, Region.binds] at hd
            try simp only [hi, hd, sl_true, sl_false, so_true, so_false]
            try simp only [hi, sl_true, sl_false, so_true, so_false]
            have d0 : fl 0 = true := by simp [hd]
            obtain rfl := hw.a hi
            try simp only [d0, sl_true]
            refine wpList_storeN rfl (.tmp 8) (.tmp 52) rfl (w.heap.size + 1) rfl R3 rfl Z (HT6.out.res.drewN 1) hZs HSZ.out HON.out ?_
            go_wp2_with fail
            refine hQ.out _ _ ⟨?_, ?_⟩
            · simp [Iv.upd, hi, d0, sl_true, sl_false, so_true, so_false]
            · first | (simpa [Iv.upd, d0] using (show Sw y6.drew (y6.drew.setRow (w.heap.size + 1) R3) (y6.drew.setRow (w.heap.size + 1) R3) true true from ⟨(fun h => by cases h), fun _ => rfl, fun _ => rfl⟩)) | (have hw := hw; simp only [hd] at hw; simpa [Iv.upd, d0] using hw)
          · rintro fl a0 y Q' ⟨rfl, hw⟩ hi hd hQ
            replace hQ := Lib.hid hQ
            simp [Iv.depsB, Region.binds] at hd
            try simp only [hi, hd, sl_true, sl_false, so_true, so_false]
            try simp only [hi, sl_true, sl_false, so_true, so_false]
            have d2 : fl 2 = true := by simp [hd]
            try simp only [d2, sl_true]
            go_wp2_with fail
            refine hQ.out _ _ ⟨?_, ?_⟩
            · simp [Iv.upd, hi, hd, sl_true, sl_false, so_true, so_false]
            · first | (simpa [Iv.upd, hd] using hw) | (have hw := hw; simp only [hd] at hw; simpa [Iv.upd, hd] using hw)
          · rintro fl a0 y Q' ⟨rfl, hw⟩ hi hd hQ
            replace hQ := Lib.hid hQ
            simp [Iv.depsB, Region.binds] at hd
            try simp only [hi, hd, sl_true, sl_false, so_true, so_false]
            try simp only [hi, sl_true, sl_false, so_true, so_false]
            go_wp2_with fail
            refine hQ.out _ _ ⟨?_, ?_⟩
            · simp [Iv.upd, hi, hd, sl_true, sl_false, so_true, so_false]
            · first | (simpa [Iv.upd, hd] using hw) | (have hw := hw; simp only [hd] at hw; simpa [Iv.upd, hd] using hw)
        · rintro fl a0 yz ⟨rfl, hw⟩ hall
          simp only [hall 0 (by decide), hall 1 (by decide), hall 2 (by decide), hall 3 (by decide), hall 4 (by decide), hall 5 (by decide), sl_true, ↓reduceIte, so_true, so_false] at hw ⊢
          clear hall
          obtain rfl := hw.b rfl
          clear hw
          go_wp2_with fail
          have hb := below_setRow (below_drewN HT6.out.below 1) (Nat.le_succ w.heap.size) R3
          refine bodyPost_ret (ret_send rfl rfl ((HT6.out.res.drewN 1).setRow R3) HSZ.out) rfl ?_
          refine ⟨.slice A3 (us.length + 1) cap3, ?_, ?_, hb⟩
          · show Ending.returned (.tuple #[.agg R3, .int .i64 sq, .int .i64 0]) = Ending.returned (.tuple #[.agg (rn n.nodes ((n.sent + 1 : Nat) : Int) n.off (.slice A3 (us.length + 1) cap3)), .int .i64 ((n.sent : Int) + 1), .int .i64 0])
            rw [HND.out, show ((n.sent + 1 : Nat) : Int) = (n.sent : Int) + 1 by omega, HSQ.out, HR3.out]
          have hfin := own_at (w' := (y6.drew.setRow (w.heap.size + 1) R3)) HO6.out fun b hb => setRow_other _ _ b _ (show b ≠ w.heap.size + 1 by have := (own_lt HO6.out hb).1; have := HZ0.out; omega)
          have hfin2 := own_less (B' := w.heap.size) hfin (by have := HZ0.out; omega)
          refine .inr ?_
          show (y6.drew.setRow (w.heap.size + 1) R3).ownsRow w.heap.size 85 4 (.slice A3 (us.length + 1) cap3) (n.under ++ [(⟨(n.sent : Int) + 1, ka, kb, m⟩ : Lt (List UInt8))]).length (flat (encL sP) (n.under ++ [⟨(n.sent : Int) + 1, ka, kb, m⟩]))
          rw [HUN.out, HSQ.out]
          show (y6.drew.setRow (w.heap.size + 1) R3).ownsRow w.heap.size 85 4 (.slice A3 (us.length + 1) cap3) (us ++ [(⟨sq, ka, kb, m⟩ : Lt (List UInt8))]).length (flat (encL sP) (us ++ [⟨sq, ka, kb, m⟩]))
          rw [show (us ++ [(⟨sq, ka, kb, m⟩ : Lt (List UInt8))]).length = us.length + 1 by simp]
          exact hfin2
      -- GER
  · have HE : Hid (n.send a b m = (n, 0, 90)) := Lib.hid (by unfold Nt.send; rw [if_pos hh])
    rw [HE.out]
    obtain ⟨R, hR⟩ : ∃ R, rn n.nodes n.sent n.off (.slice A n.under.length cap) = R := ⟨_, rfl⟩
    have HR := Lib.hid hR
    rw [hR] at hR0 hRs hR1 ⊢
    have ht := Two2.start w R Z
    have HT := Lib.hid ht
    have c1 := (ht.box.cell 0).trans hR0
    have hno := rn_has hh
    generalize n.nodes = nd at *
    clear ht hh hR hv hs hR66 hRq
    go_enter Try.func46, Try.ntmps46
    rcases hno with hno | ⟨hno1, hno⟩ | ⟨hno1, hno2, hno⟩ | ⟨hno1, hno2, hno3, hno⟩
    all_goals
      go_wp2_with (first | refine wpList_loadN rfl (.tmp 4) rfl w.heap.size rfl R HT.out.box hRs ?_ | refine wpList_storeN rfl (.tmp 8) _ rfl (w.heap.size + 1) rfl R rfl Z HT.out.res hZs hRs hR1 ?_)
      refine bodyPost_ret (ret_send rfl rfl (HT.out.res.setRow R) hRs) rfl ?_
      have hb := below_setRow HT.out.below (Nat.le_succ w.heap.size) R
      exact ⟨_, by rw [HR.out]; rfl, .inl ⟨rfl, rfl⟩, hb⟩
end Go.Proofs.Ytmbednikbdfnmaa
