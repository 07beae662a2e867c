/- Locks: the document's Put of a nil list, and of whatever list, in memory. (Written by gputn.py.) -/
import Derived.Test.YtcjefigcaifmeaaLokPv
namespace Go.Proofs.Ytcjefigcaifmeaa
open Go.ChangeShapes Go.WideShapes Go.ChangeAt Go.RowKit Go.Lk
set_option linter.unusedVariables false
set_option linter.unusedSimpArgs false
set_option maxRecDepth 100000
set_option maxHeartbeats 8000000 in
theorem rput_none (x : Rw) (w : World) :
    Calls Try.prog 25 #[.slice none 0 0, aggR x] w fun e w' => ∃ v', e = .returned v' ∧ w'.ownsRow w.heap.size 74 3 v' 1 (flat encR [x]) ∧ Below w.heap.size w w' := by
  obtain ⟨x1, x2, x3⟩ := x
  have hal := (Below.refl w.heap.size w).alloc (Nat.le_refl _) (.cells #[.int .i64 x1, .int .i64 x2, .bool x3] 74)
  have HAL := Lib.hid hal
  have HKX : Hid (∀ z, Below (w.heap.size + 1) (w.alloc (.cells #[.int .i64 x1, .int .i64 x2, .bool x3] 74)) z → Whole z w.heap.size 74 #[.int .i64 x1, .int .i64 x2, .bool x3]) := Lib.hid fun z hz => (Whole.fresh w _ _).below hz (by omega)
  have HSZ : Hid ((w.alloc (.cells #[.int .i64 x1, .int .i64 x2, .bool x3] 74)).heap.size = w.heap.size + 1) := Lib.hid (by simp)
  clear hal
  go_enter Try.func25, Try.ntmps25
  go_wp2_with fail
  generalize hw0 : w.alloc (.cells #[.int .i64 x1, .int .i64 x2, .bool x3] 74) = w0 at *
  clear hw0
  go_loopw [5] (fun i wr => i = .int .i64 0 ∧ Below (w.heap.size + 1) w0 wr) (fun i _ => 0)
  case atStart => exact ⟨rfl, by rw [← HSZ.out]; exact Below.refl _ _⟩
  case round =>
    obtain ⟨rfl, hb⟩ := hrel
    have HB2 := Lib.hid hb
    have HB2z : Hid (w.heap.size + 1 ≤ wr.heap.size) := Lib.hid (by have := hb.size; have := HSZ.out; omega)
    have HBW : Hid (Below w.heap.size w wr) := Lib.hid (HAL.out.trans (hb.mono (by omega)))
    clear hb
    obtain ⟨C, hC, HCc, HCf⟩ := below_class wr
    go_wp2_with fail
    refine region_in C hC (by kernel_rfl) (by kernel_rfl) ?_
    iterate 34
      (refine WQ.step (fun K hK => ?_)
       go_simp
       first
         | (refine hK _ ?_; clear hK K)
         | (apply Exists.intro
            refine ⟨fun z hz => ?_, hK _ ?_⟩
            · rfl
            clear hK K))
    refine WQ.nil ?_
    intro wn hw
    have HBN := Lib.hid (HB2.out.trans ((HCf.out _ hw).mono HB2z.out))
    have HBX := Lib.hid (HBW.out.trans ((HCf.out _ hw).mono HBW.out.size))
    clear hw hC HCc HCf C HB2 HBW HB2z
    go_wp2_with fail
    have HB9 := Lib.hid (show Below w.heap.size w wn from HBX.out)
    have HWX := Lib.hid (HKX.out _ HBN.out)
    refine Iv.region (fun f aa y => ∃ p0 v1 p8 v2 v3, aa = ⟨#[.slice none 0 0, aggR { tx := x1, key := x2, b := x3 }, undef, .pointer (some ⟨w.heap.size, 0, none⟩), so (f 12) (v3) (.slice none 0 0), .int .i64 0, .int .i64 0, .slice none 0 0, .int .i64 0, .bool false, .bool false, undef, undef, undef, undef, undef, undef, undef, undef, undef, undef, undef, undef, undef, undef, undef, undef, undef, undef, undef, undef, undef, undef, undef, undef, undef, undef, undef, undef, .bool false, u40, u41, so (f 0) (.slice (some ⟨p0, 0, none⟩) 0 0) (undef), so (f 1) (.slice none 0 0) (undef), so (f 2) (.int .i64 0) (undef), so (f 3) (.slice none 0 0) (undef), so (f 4) (v1) (undef), so (f 5) (.agg #[.int .i64 x1, .int .i64 x2, .bool x3]) (undef), so (f 6) (.slice (some ⟨p8, 0, none⟩) 1 1) (undef), so (f 7) (v2) (undef), so (f 8) (.slice none 0 0) (undef), so (f 9) (.int .i64 0) (undef), so (f 10) (.slice none 0 0) (undef), so (f 11) (v3) (undef)], []⟩ ∧ Ag wn y [(w.heap.size, 74, #[.int .i64 x1, .int .i64 x2, .bool x3])] wn.heap.size p0 p8 v1 v2 v3 [] [] (⟨x1, x2, x3⟩ : Rw) (f 0) (f 4) (f 6) (f 7) (f 11) ∧ (f 12 = true → f 11 = true)) (by kernel_rfl) (by kernel_rfl) ?_ ?_ ?_
    · exact ⟨0, undef, 0, undef, undef, rfl, ⟨Ag.start (⟨drew_below wn 1, fun r hr => by rcases List.mem_cons.1 hr with rfl | hr; exact HWX.out; cases hr⟩) rfl 0 0 undef undef undef _ _ _, fun h => by cases h⟩⟩
    · refine ⟨?_, ?_, ?_, ?_, ?_, ?_, ?_, ?_, ?_, ?_, ?_, ?_, ?_, trivial⟩
      · rintro f a0 y Q' ⟨p0, v1, p8, v2, v3, rfl, hw⟩ hi hd hQ
        replace hQ := Lib.hid hQ
        simp [Iv.depsB, Region.binds] at hd
        try simp only [hi, hd, sl_true, sl_false, so_true, so_false]
        try simp only [hi, sl_true, sl_false, so_true, so_false]
        have hw2 := hw
        rw [hi] at hw2
        go_wp2_with fail
        refine hQ.out _ _ ⟨y.heap.size, v1, p8, v2, v3, ?_, ?_⟩
        · simp [Iv.upd, hi, hd, sl_true, sl_false, so_true, so_false]
        · simpa [Iv.upd, hi, hd] using (show _ ∧ _ from ⟨hw2.1.made, hw2.2⟩)
      · rintro f a0 y Q' ⟨p0, v1, p8, v2, v3, rfl, hw⟩ hi hd hQ
        replace hQ := Lib.hid hQ
        simp [Iv.depsB, Region.binds] at hd
        try simp only [hi, hd, sl_true, sl_false, so_true, so_false]
        try simp only [hi, sl_true, sl_false, so_true, so_false]
        go_wp2_with fail
        refine hQ.out _ _ ⟨p0, v1, p8, v2, v3, ?_, ?_⟩
        · simp [Iv.upd, hi, hd, sl_true, sl_false, so_true, so_false]
        · simpa [Iv.upd, hi, hd] using hw
      · rintro f a0 y Q' ⟨p0, v1, p8, v2, v3, rfl, hw⟩ hi hd hQ
        replace hQ := Lib.hid hQ
        simp [Iv.depsB, Region.binds] at hd
        try simp only [hi, hd, sl_true, sl_false, so_true, so_false]
        try simp only [hi, sl_true, sl_false, so_true, so_false]
        go_wp2_with fail
        refine hQ.out _ _ ⟨p0, v1, p8, v2, v3, ?_, ?_⟩
        · simp [Iv.upd, hi, hd, sl_true, sl_false, so_true, so_false]
        · simpa [Iv.upd, hi, hd] using hw
      · rintro f a0 y Q' ⟨p0, v1, p8, v2, v3, rfl, hw⟩ hi hd hQ
        replace hQ := Lib.hid hQ
        simp [Iv.depsB, Region.binds] at hd
        try simp only [hi, hd, sl_true, sl_false, so_true, so_false]
        try simp only [hi, sl_true, sl_false, so_true, so_false]
        go_wp2_with fail
        refine hQ.out _ _ ⟨p0, v1, p8, v2, v3, ?_, ?_⟩
        · simp [Iv.upd, hi, hd, sl_true, sl_false, so_true, so_false]
        · simpa [Iv.upd, hi, hd] using hw
      · rintro f a0 y Q' ⟨p0, v1, p8, v2, v3, rfl, hw⟩ hi hd hQ
        replace hQ := Lib.hid hQ
        simp [Iv.depsB, Region.binds] at hd
        try simp only [hi, hd, sl_true, sl_false, so_true, so_false]
        try simp only [hi, sl_true, sl_false, so_true, so_false]
        have ea : f 0 = true := by simp [hd]
        have eb : f 3 = true := by simp [hd]
        have hw2 := hw
        rw [hi, ea] at hw2
        have HW2 := Lib.hid hw2
        clear hw2
        try simp only [ea, eb, so_true, so_false]
        refine wpList_appG rfl (.tmp 42) (.tmp 45) _ 74 _ 3 24 rfl info_row Try.underlying25 rfl (by decide) wn.heap.size _ 0 ([]) (by rfl) (HW2.out.1.own0 rfl rfl) 0 none 0 0 [] (by rfl) (Sees.nothing _ _ _ _) (fun _ => rfl) (fun u hu => by cases hu) (by simp) (by simp) HW2.out.1.low.2.1 ?_
        intro vn yn ho hg
        have ho : yn.ownsRow wn.heap.size 74 3 vn ([] : List Rw).length (flat encR []) := ho
        go_wp2_with fail
        refine hQ.out _ _ ⟨p0, vn, p8, v2, v3, ?_, ?_⟩
        · simp [Iv.upd, hi, hd, sl_true, sl_false, so_true, so_false, ea, eb]
        · simpa [Iv.upd, hi, hd, ea, eb] using (show _ ∧ _ from ⟨HW2.out.1.app1 ho hg, HW2.out.2⟩)
      · rintro f a0 y Q' ⟨p0, v1, p8, v2, v3, rfl, hw⟩ hi hd hQ
        replace hQ := Lib.hid hQ
        simp [Iv.depsB, Region.binds] at hd
        try simp only [hi, hd, sl_true, sl_false, so_true, so_false]
        try simp only [hi, sl_true, sl_false, so_true, so_false]
        have kx := hw.1.st.knows.at 0 rfl
        have t0 := kx.cell 0
        have t1 := kx.cell 1
        have t2 := kx.cell 2
        have tz := kx.lt
        simp only [List.getElem?_toArray, List.getElem?_cons_zero, List.getElem?_cons_succ] at t0 t1 t2
        clear kx
        go_wp2_with fail
        refine hQ.out _ _ ⟨p0, v1, p8, v2, v3, ?_, ?_⟩
        · simp [Iv.upd, hi, hd, sl_true, sl_false, so_true, so_false]
        · simpa [Iv.upd, hi, hd] using hw
      · rintro f a0 y Q' ⟨p0, v1, p8, v2, v3, rfl, hw⟩ hi hd hQ
        replace hQ := Lib.hid hQ
        simp [Iv.depsB, Region.binds] at hd
        try simp only [hi, hd, sl_true, sl_false, so_true, so_false]
        try simp only [hi, sl_true, sl_false, so_true, so_false]
        have hw2 := hw
        rw [hi] at hw2
        go_wp2_with fail
        refine hQ.out _ _ ⟨p0, v1, y.heap.size, v2, v3, ?_, ?_⟩
        · simp [Iv.upd, hi, hd, sl_true, sl_false, so_true, so_false]
        · simpa [Iv.upd, hi, hd] using (show _ ∧ _ from ⟨hw2.1.item8, hw2.2⟩)
      · rintro f a0 y Q' ⟨p0, v1, p8, v2, v3, rfl, hw⟩ hi hd hQ
        replace hQ := Lib.hid hQ
        simp [Iv.depsB, Region.binds] at hd
        try simp only [hi, hd, sl_true, sl_false, so_true, so_false]
        try simp only [hi, sl_true, sl_false, so_true, so_false]
        have ea : f 4 = true := by simp [hd]
        have eb : f 6 = true := by simp [hd]
        have hw2 := hw
        rw [hi, ea, eb] at hw2
        have HW2 := Lib.hid hw2
        clear hw2
        try simp only [ea, eb, so_true, so_false]
        refine wpList_appG rfl (.tmp 46) (.tmp 48) _ 74 _ 3 24 rfl info_row Try.underlying25 rfl (by decide) wn.heap.size _ ([] : List Rw).length (flat encR ([] : List Rw)) (by rfl) (HW2.out.1.own1 rfl rfl) (p8 + 1) (some ⟨p8, 0, none⟩) 1 1 (flat encR [(⟨x1, x2, x3⟩ : Rw)]) (by rfl) HW2.out.1.sees (fun h => by cases h) (flat_encR_one _) (by simp) (by simp) HW2.out.1.low.2.1 ?_
        intro vn yn ho hg
        rw [← flat_append] at ho
        go_wp2_with fail
        refine hQ.out _ _ ⟨p0, v1, p8, vn, v3, ?_, ?_⟩
        · simp [Iv.upd, hi, hd, sl_true, sl_false, so_true, so_false, ea, eb]
        · simpa [Iv.upd, hi, hd, ea, eb] using (show _ ∧ _ from ⟨HW2.out.1.app2 ho hg, HW2.out.2⟩)
      · rintro f a0 y Q' ⟨p0, v1, p8, v2, v3, rfl, hw⟩ hi hd hQ
        replace hQ := Lib.hid hQ
        simp [Iv.depsB, Region.binds] at hd
        try simp only [hi, hd, sl_true, sl_false, so_true, so_false]
        try simp only [hi, sl_true, sl_false, so_true, so_false]
        go_wp2_with fail
        refine hQ.out _ _ ⟨p0, v1, p8, v2, v3, ?_, ?_⟩
        · simp [Iv.upd, hi, hd, sl_true, sl_false, so_true, so_false]
        · simpa [Iv.upd, hi, hd] using hw
      · rintro f a0 y Q' ⟨p0, v1, p8, v2, v3, rfl, hw⟩ hi hd hQ
        replace hQ := Lib.hid hQ
        simp [Iv.depsB, Region.binds] at hd
        try simp only [hi, hd, sl_true, sl_false, so_true, so_false]
        try simp only [hi, sl_true, sl_false, so_true, so_false]
        go_wp2_with fail
        refine hQ.out _ _ ⟨p0, v1, p8, v2, v3, ?_, ?_⟩
        · simp [Iv.upd, hi, hd, sl_true, sl_false, so_true, so_false]
        · simpa [Iv.upd, hi, hd] using hw
      · rintro f a0 y Q' ⟨p0, v1, p8, v2, v3, rfl, hw⟩ hi hd hQ
        replace hQ := Lib.hid hQ
        simp [Iv.depsB, Region.binds] at hd
        try simp only [hi, hd, sl_true, sl_false, so_true, so_false]
        try simp only [hi, sl_true, sl_false, so_true, so_false]
        go_wp2_with fail
        refine hQ.out _ _ ⟨p0, v1, p8, v2, v3, ?_, ?_⟩
        · simp [Iv.upd, hi, hd, sl_true, sl_false, so_true, so_false]
        · simpa [Iv.upd, hi, hd] using hw
      · rintro f a0 y Q' ⟨p0, v1, p8, v2, v3, rfl, hw⟩ hi hd hQ
        replace hQ := Lib.hid hQ
        simp [Iv.depsB, Region.binds] at hd
        try simp only [hi, hd, sl_true, sl_false, so_true, so_false]
        try simp only [hi, sl_true, sl_false, so_true, so_false]
        have e9 : f 12 = false := by
          cases e : f 12 with
          | false => rfl
          | true => have h1 := hw.2 e; rw [hi] at h1; cases h1
        have ea : f 7 = true := by simp [hd]
        have eb : f 10 = true := by simp [hd]
        have hw2 := hw
        rw [hi, ea] at hw2
        have HW2 := Lib.hid hw2
        clear hw2
        try simp only [ea, eb, so_true, so_false]
        refine wpList_appG rfl (.tmp 49) (.tmp 52) _ 74 _ 3 24 rfl info_row Try.underlying25 rfl (by decide) wn.heap.size _ (([] : List Rw).length + 1) (flat encR (([] : List Rw) ++ [(⟨x1, x2, x3⟩ : Rw)])) (by rfl) (HW2.out.1.own2 rfl rfl) 0 none 0 0 [] (by rfl) (Sees.nothing _ _ _ _) (fun _ => rfl) (fun u hu => by cases hu) (by simp) (by simp) HW2.out.1.low.2.1 ?_
        intro vn yn ho hg
        have ho : yn.ownsRow wn.heap.size 74 3 vn (([] : List Rw).length + 1 + ([] : List Rw).length) (flat encR (([] : List Rw) ++ [(⟨x1, x2, x3⟩ : Rw)] ++ [])) := by simpa using ho
        go_wp2_with fail
        refine hQ.out _ _ ⟨p0, v1, p8, v2, vn, ?_, ?_⟩
        · simp [Iv.upd, hi, hd, sl_true, sl_false, so_true, so_false, ea, eb, e9]
        · simpa [Iv.upd, hi, hd, ea, eb, e9] using HW2.out.1.app3 ho hg
      · rintro f a0 y Q' ⟨p0, v1, p8, v2, v3, rfl, hw⟩ hi hd hQ
        replace hQ := Lib.hid hQ
        simp [Iv.depsB, Region.binds] at hd
        try simp only [hi, hd, sl_true, sl_false, so_true, so_false]
        try simp only [hi, sl_true, sl_false, so_true, so_false]
        have ea : f 11 = true := by simp [hd]
        try simp only [ea, so_true, so_false]
        go_wp2_with fail
        refine hQ.out _ _ ⟨p0, v1, p8, v2, v3, ?_, ?_⟩
        · simp [Iv.upd, hi, hd, sl_true, sl_false, so_true, so_false, ea]
        · simpa [Iv.upd, hi, hd, ea] using hw.1
    · rintro f a0 yz ⟨p0, v1, p8, v2, v3, rfl, hw⟩ hall
      simp only [hall 0 (by decide), hall 1 (by decide), hall 2 (by decide), hall 3 (by decide), hall 4 (by decide), hall 5 (by decide), hall 6 (by decide), hall 7 (by decide), hall 8 (by decide), hall 9 (by decide), hall 10 (by decide), hall 11 (by decide), hall 12 (by decide), sl_true, ↓reduceIte, so_true, so_false] at hw ⊢
      clear hall
      have HO3 := Lib.hid (hw.1.own3 rfl)
      have HBZ := Lib.hid (HB9.out.trans (hw.1.st.below.mono HB9.out.size))
      clear hw
      go_wp2_with fail
      go_ret
      exact ⟨v3, rfl, own_lessB HO3.out HB9.out.size, HBZ.out⟩
/-- Put of a list of one's own. -/
theorem rput_any (v : Value) (l : List Rw) (x : Rw) (w : World) (B : Nat) (ho : w.ownsRow B 74 3 v l.length (flat encR l)) (hl : l.length ≤ 100000) :
    Calls Try.prog 25 #[v, aggR x] w fun e w' => ∃ v', e = .returned v' ∧ w'.ownsRow w.heap.size 74 3 v' (putR x l).length (flat encR (putR x l)) ∧ Below w.heap.size w w' := by
  have ho' := ho
  rcases ho.2 with ⟨h0, h1⟩ | ⟨g, cap, cur, h1, h2, h3, h4, h5, h6, h7⟩
  · have : l = [] := List.eq_nil_of_length_eq_zero h1
    subst this
    rw [h0]
    exact rput_none x w
  · rw [h1] at ho ⊢
    exact rput_some g cap l x w (Sees.own ho) h4 h5 hl
end Go.Proofs.Ytcjefigcaifmeaa
