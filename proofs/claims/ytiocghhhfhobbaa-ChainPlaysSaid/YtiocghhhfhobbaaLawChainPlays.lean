/- Whatever is put, asked and pruned, a chain answers as the document says, and has what it says; for every input, without conditions (of more calls the first 60 are made). -/
import Derived.Test.YtiocghhhfhobbaaChnQ
namespace Go.Proofs.Ytiocghhhfhobbaa.chainPlays
open Go.ChangeShapes Go.WideShapes Go.ChangeAt Go.RowKit Go.Cn
set_option linter.unusedVariables false
set_option linter.unusedSimpArgs false

set_option maxHeartbeats 20000000 in
set_option maxRecDepth 100000 in
theorem walk (A : Option Addr) (len cap : Nat) (l : List Op11) (w : World) (hL : IsR w A len cap 3 encO GO l) :
    Calls Try.prog 3 #[.slice A len cap] w fun r w' => r = .returned (.bool true) ∧ Below w.heap.size w w' := by
  obtain ⟨hlen, hs, hc1, hc2, hnil, hg⟩ := hL
  subst hlen
  have HS := Lib.hid hs
  clear hs hg hnil
  go_enter Try.func3, Try.ntmps3
  go_wp2_with fail
  refine (cnew_any _).mono ?_
  rintro r w1 ⟨rfl, hb1, k1⟩
  have H0 : Hid (Pl w w1 [] w.heap.size ⟨[], 0⟩ none 0 []) := Lib.hid (.start hb1 k1)
  have hs1 := hb1.size
  obtain ⟨mb, hmb⟩ : ∃ mb, mb = w1.heap.size := ⟨_, rfl⟩
  have H := Lib.hid (H0.out.alloc mb hmb 27 #[.slice none 0 0, .int .i64 0])
  clear hb1 k1 H0
  go_wp2_with fail
  rw [← hmb]
  refine (cawake_any _).mono ?_
  rintro r w2 ⟨rfl, hb1⟩
  replace H := Lib.hid (H.out.call hb1)
  have hwm : w.heap.size ≤ mb := by omega
  clear hb1 hmb hs1
  go_wp2_with fail
  go_loopw [5] (fun i wr => ∃ (n : Nat) (c : Cs) (Ar : Option Addr) (cr : Nat), n ≤ l.length ∧ n ≤ 60 ∧ i = .int .i64 (n : Int) ∧ Pl w wr [(mb, 27, #[.slice Ar c.l.length cr, .int .i64 c.mark])] w.heap.size c Ar cr c.l ∧ Hid (0 < c.l.length → ∀ a, Ar = some a → a.block ≠ mb)) (fun i _ => l.length - (intOf i).toNat)
  case atStart => exact ⟨0, ⟨[], 0⟩, none, 0, by omega, by omega, rfl, H.out, Lib.hid (fun h => absurd h (by simp))⟩
  case round =>
    obtain ⟨n, c, Ar, cr, hn1, hn2, rfl, hp, HF⟩ := hrel
    have HP := Lib.hid hp
    have hok := hp.ok
    have hfew := hok.few
    clear hp H hok
    by_cases hlt : n < l.length ∧ n < 60
    · obtain ⟨h1, h2⟩ := hlt
      obtain ⟨o, ho⟩ : ∃ o, l[n]? = some o := ⟨_, List.getElem?_eq_getElem h1⟩
      obtain ⟨b0, off, rfl, hb, hcc⟩ := (HS.out.below HP.out.st.below).item encO_len (by omega) n o ho
      have HO := Lib.hid ho
      obtain ⟨k, t, v⟩ := o
      have i1 : (n : Int) < (l.length : Int) := by omega
      have i2 : (n : Int) < 60 := by omega
      clear hcc ho hb
      have HD := Lib.hid (fun y M (h : Pl w y M w.heap.size c Ar cr c.l) => does_any w M w.heap.size c Ar cr ⟨k, t, v⟩ y h)
      have HLT := Lib.hid HP.out.st.below.size
      have hmlt := (HP.out.st.knows.at 0 rfl).lt
      generalize run1 c ⟨k, t, v⟩ = c2 at *
      have HCE := Lib.hid (fun y (hy : Below w.heap.size w y) => three_cells (HS.out.below hy) n ⟨k, t, v⟩ HO.out)
      go_wp2_with fail
      refine Iv.region (fun fl aa y => ∃ p0 A2 cap2, aa = ⟨#[.slice (some ⟨b0, off, none⟩) l.length cap, undef, u2, ptr w.heap.size, .pointer (some ⟨mb, 0, none⟩), .int .i64 (n : Int), so (fl 10) (.pointer (some ⟨p0, 0, none⟩)) u6, so (fl 12) (.bool true) u7, u8, u9, ptr w.heap.size, .agg #[.slice none 0 0, .int .i64 0], .bool true, .bool false, .bool false, ptr w.heap.size, .bool false, .bool false, .int .i64 (n : Int), .slice (some ⟨b0, off, none⟩) l.length cap, .int .i64 (l.length : Int), .bool true, .bool true, .int .i64 (n : Int), .bool true, .bool true, u26, u27, so (fl 7) (.tuple #[.agg #[.slice A2 c2.l.length cap2, .int .i64 c2.mark], .bool true]) u28, so (fl 0) (ptr w.heap.size) u29, so (fl 1) (.agg #[.slice Ar c.l.length cr, .int .i64 c.mark]) u30, so (fl 2) (.slice (some ⟨b0, off, none⟩) l.length cap) u31, so (fl 3) (.int .i64 (n : Int)) u32, so (fl 4) (.pointer (some ⟨b0, off + n * 3, none⟩)) u33, so (fl 5) (.agg #[.int .i64 k, .int .i64 t, .int .i64 v]) u34, so (fl 6) (.tuple #[.agg #[.slice A2 c2.l.length cap2, .int .i64 c2.mark], .bool true]) u35, so (fl 8) (.agg #[.slice A2 c2.l.length cap2, .int .i64 c2.mark]) u36, so (fl 9) (.bool true) u37, u38, u39, u40, u41, u42, u43, u44, u45, u46, u47, u48, u49, u50, u51, u52, u53, u54, u55, u56, u57, u58, u59, u60, u61, u62, u63, u64, u65, u66, u67, u68, u69, u70, u71, u72, u73, u74, u75, u76, u77, u78, u79, u80, u81, u82, u83, u84, u85, u86, u87, u88, u89, u90], []⟩ ∧ Dn w wr y [(mb, 27, #[.slice Ar c.l.length cr, .int .i64 c.mark])] w.heap.size c c2 Ar cr p0 A2 cap2 (fl 6) (fl 10) (fl 11) ∧ (fl 7 = true → fl 6 = true) ∧ (fl 8 = true → fl 6 = true)) (by kernel_rfl) (by kernel_rfl) ?_ ?_ ?_
      · exact ⟨0, none, 0, rfl, Dn.start (w := wr) (y := wr.drew) (HP.out.drewN 1) (Nat.le_refl _) 0 none 0 c2, (fun h => by cases h), (fun h => by cases h)⟩
      · refine ⟨?_, ?_, ?_, ?_, ?_, ?_, ?_, ?_, ?_, ?_, ?_, ?_, ?_, trivial⟩
        · rintro fl a0 y Q' ⟨p0, A2, cap2, rfl, hw⟩ hi hd hQ
          replace hQ := Lib.hid hQ
          simp [Iv.depsB, Region.binds] at hd
          try simp only [hi, hd, sl_true, sl_false, so_true, so_false]
          try simp only [hi, sl_true, sl_false, so_true, so_false]
          go_wp2_with fail
          refine hQ.out _ _ ⟨p0, A2, cap2, ?_, ?_⟩
          · simp [Iv.upd, hi, hd, sl_true, sl_false, so_true, so_false]
          · simpa [Iv.upd, hi, hd] using hw
        · rintro fl a0 y Q' ⟨p0, A2, cap2, rfl, hw⟩ hi hd hQ
          replace hQ := Lib.hid hQ
          simp [Iv.depsB, Region.binds] at hd
          try simp only [hi, hd, sl_true, sl_false, so_true, so_false]
          try simp only [hi, sl_true, sl_false, so_true, so_false]
          obtain ⟨m0, m1, mf0, mf1, ml⟩ := hw.1.reads.2.two 0 mb rfl
          go_wp2_with fail
          refine hQ.out _ _ ⟨p0, A2, cap2, ?_, ?_⟩
          · simp [Iv.upd, hi, hd, sl_true, sl_false, so_true, so_false]
          · simpa [Iv.upd, hi, hd] using hw
        · rintro fl a0 y Q' ⟨p0, A2, cap2, rfl, hw⟩ hi hd hQ
          replace hQ := Lib.hid hQ
          simp [Iv.depsB, Region.binds] at hd
          try simp only [hi, hd, sl_true, sl_false, so_true, so_false]
          try simp only [hi, sl_true, sl_false, so_true, so_false]
          go_wp2_with fail
          refine hQ.out _ _ ⟨p0, A2, cap2, ?_, ?_⟩
          · simp [Iv.upd, hi, hd, sl_true, sl_false, so_true, so_false]
          · simpa [Iv.upd, hi, hd] using hw
        · rintro fl a0 y Q' ⟨p0, A2, cap2, rfl, hw⟩ hi hd hQ
          replace hQ := Lib.hid hQ
          simp [Iv.depsB, Region.binds] at hd
          try simp only [hi, hd, sl_true, sl_false, so_true, so_false]
          try simp only [hi, sl_true, sl_false, so_true, so_false]
          go_wp2_with fail
          refine hQ.out _ _ ⟨p0, A2, cap2, ?_, ?_⟩
          · simp [Iv.upd, hi, hd, sl_true, sl_false, so_true, so_false]
          · simpa [Iv.upd, hi, hd] using hw
        · rintro fl a0 y Q' ⟨p0, A2, cap2, rfl, hw⟩ hi hd hQ
          replace hQ := Lib.hid hQ
          simp [Iv.depsB, Region.binds] at hd
          try simp only [hi, hd, sl_true, sl_false, so_true, so_false]
          try simp only [hi, sl_true, sl_false, so_true, so_false]
          go_wp2_with fail
          refine hQ.out _ _ ⟨p0, A2, cap2, ?_, ?_⟩
          · simp [Iv.upd, hi, hd, sl_true, sl_false, so_true, so_false]
          · simpa [Iv.upd, hi, hd] using hw
        · rintro fl a0 y Q' ⟨p0, A2, cap2, rfl, hw⟩ hi hd hQ
          replace hQ := Lib.hid hQ
          simp [Iv.depsB, Region.binds] at hd
          try simp only [hi, hd, sl_true, sl_false, so_true, so_false]
          try simp only [hi, sl_true, sl_false, so_true, so_false]
          obtain ⟨o0, o1, o2⟩ := HCE.out y hw.1.reads.1
          go_wp2_with fail
          refine hQ.out _ _ ⟨p0, A2, cap2, ?_, ?_⟩
          · simp [Iv.upd, hi, hd, sl_true, sl_false, so_true, so_false]
          · simpa [Iv.upd, hi, hd] using hw
        · rintro fl a0 y Q' ⟨p0, A2, cap2, rfl, hw⟩ hi hd hQ
          replace hQ := Lib.hid hQ
          simp [Iv.depsB, Region.binds] at hd
          try simp only [hi, hd, sl_true, sl_false, so_true, so_false]
          try simp only [hi, sl_true, sl_false, so_true, so_false]
          have ea : fl 0 = true := by simp [hd]
          have eb : fl 1 = true := by simp [hd]
          have ec : fl 5 = true := by simp [hd]
          have e7 : fl 7 = false := by
            cases e : fl 7 with
            | false => rfl
            | true => have h6 := hw.2.1 e; rw [hi] at h6; cases h6
          have e8 : fl 8 = false := by
            cases e : fl 8 with
            | false => rfl
            | true => have h6 := hw.2.2 e; rw [hi] at h6; cases h6
          have hw2 := hw.1
          rw [hi] at hw2
          try simp only [ea, eb, ec, so_true, so_false]
          cases ep : fl 10 with
          | false =>
            rw [ep] at hw2
            have HW2 := Lib.hid hw2
            clear hw2 hw
            go_wp2_with fail
            refine (HD.out y _ (HW2.out.p00 rfl rfl)).mono ?_
            rintro e y1 ⟨A3, cap3, rfl, hj, hj3⟩
            have HN := Lib.hid (HW2.out.called0 hj hj3)
            clear hj hj3
            go_wp2_with fail
            refine hQ.out _ _ ⟨p0, A3, cap3, ?_, ?_⟩
            · simp [Iv.upd, hi, hd, ea, eb, ec, e7, e8, ep, sl_true, sl_false, so_true, so_false]
            · simpa [Iv.upd, hi, hd, e7, e8, ep] using HN.out
          | true =>
            rw [ep] at hw2
            have HW2 := Lib.hid hw2
            clear hw2 hw
            go_wp2_with fail
            refine (HD.out y _ (HW2.out.p01 rfl rfl).1).mono ?_
            rintro e y1 ⟨A3, cap3, rfl, hj, hj3⟩
            have HN := Lib.hid (HW2.out.called1 hj hj3)
            clear hj hj3
            go_wp2_with fail
            refine hQ.out _ _ ⟨p0, A3, cap3, ?_, ?_⟩
            · simp [Iv.upd, hi, hd, ea, eb, ec, e7, e8, ep, sl_true, sl_false, so_true, so_false]
            · simpa [Iv.upd, hi, hd, e7, e8, ep] using HN.out
        · rintro fl a0 y Q' ⟨p0, A2, cap2, rfl, hw⟩ hi hd hQ
          replace hQ := Lib.hid hQ
          simp [Iv.depsB, Region.binds] at hd
          try simp only [hi, hd, sl_true, sl_false, so_true, so_false]
          try simp only [hi, sl_true, sl_false, so_true, so_false]
          go_wp2_with fail
          refine hQ.out _ _ ⟨p0, A2, cap2, ?_, ?_⟩
          · simp [Iv.upd, hi, hd, sl_true, sl_false, so_true, so_false]
          · simpa [Iv.upd, hi, hd] using hw
        · rintro fl a0 y Q' ⟨p0, A2, cap2, rfl, hw⟩ hi hd hQ
          replace hQ := Lib.hid hQ
          simp [Iv.depsB, Region.binds] at hd
          try simp only [hi, hd, sl_true, sl_false, so_true, so_false]
          try simp only [hi, sl_true, sl_false, so_true, so_false]
          have e6 : fl 6 = true := hw.2.1 (by simp [hd])
          go_wp2_with fail
          refine hQ.out _ _ ⟨p0, A2, cap2, ?_, ?_⟩
          · simp [Iv.upd, hi, hd, sl_true, sl_false, so_true, so_false, e6]
          · simpa [Iv.upd, hi, hd, e6] using hw
        · rintro fl a0 y Q' ⟨p0, A2, cap2, rfl, hw⟩ hi hd hQ
          replace hQ := Lib.hid hQ
          simp [Iv.depsB, Region.binds] at hd
          try simp only [hi, hd, sl_true, sl_false, so_true, so_false]
          try simp only [hi, sl_true, sl_false, so_true, so_false]
          have e6 : fl 6 = true := hw.2.1 (by simp [hd])
          go_wp2_with fail
          refine hQ.out _ _ ⟨p0, A2, cap2, ?_, ?_⟩
          · simp [Iv.upd, hi, hd, sl_true, sl_false, so_true, so_false, e6]
          · simpa [Iv.upd, hi, hd, e6] using hw
        · rintro fl a0 y Q' ⟨p0, A2, cap2, rfl, hw⟩ hi hd hQ
          replace hQ := Lib.hid hQ
          simp [Iv.depsB, Region.binds] at hd
          try simp only [hi, hd, sl_true, sl_false, so_true, so_false]
          try simp only [hi, sl_true, sl_false, so_true, so_false]
          have hw2 := hw.1
          rw [hi] at hw2
          go_wp2_with fail
          refine hQ.out _ _ ⟨y.heap.size, A2, cap2, ?_, ?_⟩
          · simp [Iv.upd, hi, hd, sl_true, sl_false, so_true, so_false]
          · simpa [Iv.upd, hi, hd] using (show _ ∧ _ from ⟨hw2.made, hw.2⟩)
        · rintro fl a0 y Q' ⟨p0, A2, cap2, rfl, hw⟩ hi hd hQ
          replace hQ := Lib.hid hQ
          simp [Iv.depsB, Region.binds] at hd
          try simp only [hi, hd, sl_true, sl_false, so_true, so_false]
          try simp only [hi, sl_true, sl_false, so_true, so_false]
          have eb : fl 8 = true := by simp [hd]
          have ea : fl 6 = true := hw.2.2 eb
          have ec : fl 10 = true := by simp [hd]
          have hw2 := hw.1
          rw [hi, ea, ec] at hw2
          obtain ⟨m0, m1, mf0, mf1, ml⟩ := hw2.cells
          have HW2 := Lib.hid hw2
          clear hw2
          try simp only [ea, eb, ec, so_true, so_false]
          go_wp2_with fail
          refine hQ.out _ _ ⟨p0, A2, cap2, ?_, ?_⟩
          · simp [Iv.upd, hi, hd, sl_true, sl_false, so_true, so_false, ea, eb, ec]
          · simpa [Iv.upd, hi, hd, ea, eb, ec] using HW2.out.told
        · rintro fl a0 y Q' ⟨p0, A2, cap2, rfl, hw⟩ hi hd hQ
          replace hQ := Lib.hid hQ
          simp [Iv.depsB, Region.binds] at hd
          try simp only [hi, hd, sl_true, sl_false, so_true, so_false]
          try simp only [hi, sl_true, sl_false, so_true, so_false]
          go_wp2_with fail
          refine hQ.out _ _ ⟨p0, A2, cap2, ?_, ?_⟩
          · simp [Iv.upd, hi, hd, sl_true, sl_false, so_true, so_false]
          · simpa [Iv.upd, hi, hd] using hw
      · rintro fl a0 y ⟨p0, A2, cap2, rfl, hw⟩ hall
        simp only [hall 0 (by decide), hall 1 (by decide), hall 2 (by decide), hall 3 (by decide), hall 4 (by decide), hall 5 (by decide), hall 6 (by decide), hall 7 (by decide), hall 8 (by decide), hall 9 (by decide), hall 10 (by decide), hall 11 (by decide), hall 12 (by decide), sl_true, ↓reduceIte, so_true, so_false] at hw ⊢
        clear hall
        have HP2 := Lib.hid (hw.1.fin rfl)
        have hn := hw.1.new rfl
        have hmp : mb ≠ p0 := hn.2 (mb, 27, #[.slice Ar c.l.length cr, .int .i64 c.mark]) (List.mem_singleton.2 rfl)
        have HAM : Hid (0 < c2.l.length → ∀ a, A2 = some a → a.block ≠ mb) := Lib.hid (fun hl a ha => by
          rcases hw.1.far rfl with ⟨e1, e2⟩ | h
          · subst e1
            exact HF.out (by rw [← e2]; exact hl) a ha
          · have := h a ha; omega)
        clear hw HF
        have hdd : ∀ (x z : Array Value) (j : Nat) (r : Row), (((p0, 27, x) :: (mb, 27, z) :: [] : List Row))[j]? = some r → r.1 = mb → j = 1 := fun x z j r hj hr => by
          match j with
          | 0 => simp at hj; subst hj; exact absurd hr.symm hmp
          | 1 => rfl
          | j + 2 => simp at hj
        have HP3 := Lib.hid (((HP2.out.setB 1 (x := mb) (t := 27) (cs := #[.slice Ar c.l.length cr, .int .i64 c.mark]) rfl hwm (hdd _ _) HAM.out 0 (.slice A2 c2.l.length cap2)).setB 1 (x := mb) (t := 27) (cs := #[.slice A2 c2.l.length cap2, .int .i64 c.mark]) rfl hwm (hdd _ _) HAM.out 1 (.int .i64 c2.mark)).few (L' := [(mb, 27, #[.slice A2 c2.l.length cap2, .int .i64 c2.mark])]) (fun r hr => by rw [List.mem_singleton.1 hr]; exact List.mem_cons_of_mem _ (List.mem_singleton.2 rfl)))
        obtain ⟨m0, m1, mf0, mf1, ml⟩ := HP2.out.st.knows.two 0 p0 rfl
        obtain ⟨t0, t1, tf0, tf1, tl⟩ := HP2.out.st.knows.two 1 mb rfl
        clear hdd hmp hn
        go_wp2_with fail
        refine (plast HP3.out).mono ?_
        rintro r w4 ⟨rfl, hb1⟩
        replace HP3 := Lib.hid ((HP3.out.call hb1).alloc w4.heap.size rfl 34 #[.int .i64 (lastV c2.l).1, .int .i64 (lastV c2.l).2])
        clear HP2 m0 m1 mf0 mf1 ml t0 t1 tf0 tf1 tl hb1
        have hfew2 := HP3.out.ok.few
        have hroom2 := HP3.out.row.room
        have htop2 := HP3.out.row.top
        by_cases hz : 0 < c2.l.length
        · have hzd : decide (0 < c2.l.length) = true := by simpa using hz
          have hzi : (0 : Int) < (c2.l.length : Int) := by omega
          rw [hzd]
          have HPZ := Lib.hid (HP3.out.drewN 1)
          go_wp2_with fail
          refine Iv.region (fun fl aa z => ∃ A8 c8, aa = ⟨#[.slice (some ⟨b0, off, none⟩) l.length cap, undef, u2, ptr w.heap.size, .pointer (some ⟨mb, 0, none⟩), .int .i64 (n : Int), .pointer (some ⟨p0, 0, none⟩), .bool true, .pointer (some ⟨w4.heap.size, 0, none⟩), .bool true, ptr w.heap.size, .agg #[.slice none 0 0, .int .i64 0], .bool true, .bool false, .bool false, ptr w.heap.size, .bool false, .bool false, .int .i64 (n : Int), .slice (some ⟨b0, off, none⟩) l.length cap, .int .i64 (l.length : Int), .bool true, .bool true, .int .i64 (n : Int), .bool true, .bool true, u26, u27, .tuple #[.agg #[.slice A2 c2.l.length cap2, .int .i64 c2.mark], .bool true], ptr w.heap.size, .agg #[.slice Ar c.l.length cr, .int .i64 c.mark], .slice (some ⟨b0, off, none⟩) l.length cap, .int .i64 (n : Int), .pointer (some ⟨b0, off + n * 3, none⟩), .agg #[.int .i64 k, .int .i64 t, .int .i64 v], .tuple #[.agg #[.slice A2 c2.l.length cap2, .int .i64 c2.mark], .bool true], .agg #[.slice A2 c2.l.length cap2, .int .i64 c2.mark], .bool true, .agg #[.slice A2 c2.l.length cap2, .int .i64 c2.mark], .tuple #[aggV (lastV c2.l), .bool true], ptr w.heap.size, .tuple #[aggV (lastV c2.l), .bool true], aggV (lastV c2.l), .bool true, so (fl 0) (.bool true) u44, so (fl 1) (.bool false) u45, so (fl 2) (.bool false) u46, so (fl 3) (ptr w.heap.size) u47, so (fl 4) (.slice A8 c2.l.length c8) u48, so (fl 5) (.pointer (some ⟨mb, 0, none⟩)) u49, so (fl 6) (.slice A2 c2.l.length cap2) u50, so (fl 7) (.bool true) u51, so (fl 8) (.bool false) u52, so (fl 9) (.bool false) u53, so (fl 10) (.bool false) u54, so (fl 11) (ptr w.heap.size) u55, so (fl 12) (.int .i64 c2.mark) u56, so (fl 13) (.pointer (some ⟨mb, 1, none⟩)) u57, so (fl 14) (.int .i64 c2.mark) u58, so (fl 15) (.bool false) u59, so (fl 16) (.bool false) u60, so (fl 17) (.bool false) u61, so (fl 18) (.bool true) u62, so (fl 19) (.pointer (some ⟨mb, 0, none⟩)) u63, so (fl 20) (.slice A2 c2.l.length cap2) u64, so (fl 21) (.int .i64 (c2.l.length : Int)) u65, so (fl 22) (.bool true) u66, so (fl 23) (.bool false) u67, so (fl 24) (.bool false) u68, u69, u70, u71, u72, u73, u74, u75, u76, u77, u78, u79, u80, u81, u82, u83, u84, u85, u86, u87, u88, u89, u90], []⟩ ∧ Pl w z [(w4.heap.size, 34, #[.int .i64 (lastV c2.l).1, .int .i64 (lastV c2.l).2]), (mb, 27, #[.slice A2 c2.l.length cap2, .int .i64 c2.mark])] w.heap.size c2 A2 cap2 c2.l ∧ (fl 4 = true → Rv z A8 c8 c2.l)) (by kernel_rfl) (by kernel_rfl) ?_ ?_ ?_
          · exact ⟨none, 0, rfl, HPZ.out, (fun h => by cases h)⟩
          · refine ⟨?_, ?_, ?_, ?_, ?_, ?_, ?_, ?_, ?_, ?_, ?_, ?_, ?_, ?_, ?_, ?_, ?_, ?_, ?_, ?_, ?_, ?_, ?_, ?_, ?_, trivial⟩
            · rintro fl a0 z Q' ⟨A8, c8, rfl, hw⟩ hi hd hQ
              replace hQ := Lib.hid hQ
              simp [Iv.depsB, Region.binds] at hd
              try simp only [hi, hd, sl_true, sl_false, so_true, so_false]
              try simp only [hi, sl_true, sl_false, so_true, so_false]
              go_wp2_with fail
              refine hQ.out _ _ ⟨A8, c8, ?_, ?_⟩
              · simp [Iv.upd, hi, hd, hz, sl_true, sl_false, so_true, so_false]
              · simpa [Iv.upd, hi, hd] using hw
            · rintro fl a0 z Q' ⟨A8, c8, rfl, hw⟩ hi hd hQ
              replace hQ := Lib.hid hQ
              simp [Iv.depsB, Region.binds] at hd
              try simp only [hi, hd, sl_true, sl_false, so_true, so_false]
              try simp only [hi, sl_true, sl_false, so_true, so_false]
              go_wp2_with fail
              refine hQ.out _ _ ⟨A8, c8, ?_, ?_⟩
              · simp [Iv.upd, hi, hd, hz, sl_true, sl_false, so_true, so_false]
              · simpa [Iv.upd, hi, hd] using hw
            · rintro fl a0 z Q' ⟨A8, c8, rfl, hw⟩ hi hd hQ
              replace hQ := Lib.hid hQ
              simp [Iv.depsB, Region.binds] at hd
              try simp only [hi, hd, sl_true, sl_false, so_true, so_false]
              try simp only [hi, sl_true, sl_false, so_true, so_false]
              go_wp2_with fail
              refine hQ.out _ _ ⟨A8, c8, ?_, ?_⟩
              · simp [Iv.upd, hi, hd, hz, sl_true, sl_false, so_true, so_false]
              · simpa [Iv.upd, hi, hd] using hw
            · rintro fl a0 z Q' ⟨A8, c8, rfl, hw⟩ hi hd hQ
              replace hQ := Lib.hid hQ
              simp [Iv.depsB, Region.binds] at hd
              try simp only [hi, hd, sl_true, sl_false, so_true, so_false]
              try simp only [hi, sl_true, sl_false, so_true, so_false]
              go_wp2_with fail
              refine hQ.out _ _ ⟨A8, c8, ?_, ?_⟩
              · simp [Iv.upd, hi, hd, hz, sl_true, sl_false, so_true, so_false]
              · simpa [Iv.upd, hi, hd] using hw
            · rintro fl a0 z Q' ⟨A8, c8, rfl, hw⟩ hi hd hQ
              replace hQ := Lib.hid hQ
              simp [Iv.depsB, Region.binds] at hd
              try simp only [hi, hd, sl_true, sl_false, so_true, so_false]
              try simp only [hi, sl_true, sl_false, so_true, so_false]
              have ea : fl 3 = true := by simp [hd]
              go_wp2_with fail
              refine (plist hw.1).mono ?_
              rintro e z1 ⟨A9, c9, rfl, hb, ho⟩
              have HN := Lib.hid (show Pl w z1 [(w4.heap.size, 34, #[.int .i64 (lastV c2.l).1, .int .i64 (lastV c2.l).2]), (mb, 27, #[.slice A2 c2.l.length cap2, .int .i64 c2.mark])] w.heap.size c2 A2 cap2 c2.l ∧ Rv z1 A9 c9 c2.l from ⟨hw.1.call hb, Rv.own ho rfl⟩)
              clear hb ho
              go_wp2_with fail
              refine hQ.out _ _ ⟨A9, c9, ?_, ?_⟩
              · simp [Iv.upd, hi, hd, hz, sl_true, sl_false, so_true, so_false, ea]
              · simpa [Iv.upd, hi, hd, ea] using HN.out
            · rintro fl a0 z Q' ⟨A8, c8, rfl, hw⟩ hi hd hQ
              replace hQ := Lib.hid hQ
              simp [Iv.depsB, Region.binds] at hd
              try simp only [hi, hd, sl_true, sl_false, so_true, so_false]
              try simp only [hi, sl_true, sl_false, so_true, so_false]
              go_wp2_with fail
              refine hQ.out _ _ ⟨A8, c8, ?_, ?_⟩
              · simp [Iv.upd, hi, hd, hz, sl_true, sl_false, so_true, so_false]
              · simpa [Iv.upd, hi, hd] using hw
            · rintro fl a0 z Q' ⟨A8, c8, rfl, hw⟩ hi hd hQ
              replace hQ := Lib.hid hQ
              simp [Iv.depsB, Region.binds] at hd
              try simp only [hi, hd, sl_true, sl_false, so_true, so_false]
              try simp only [hi, sl_true, sl_false, so_true, so_false]
              obtain ⟨t0, t1, tf0, tf1, tl⟩ := hw.1.st.knows.two 1 mb rfl
              go_wp2_with fail
              refine hQ.out _ _ ⟨A8, c8, ?_, ?_⟩
              · simp [Iv.upd, hi, hd, hz, sl_true, sl_false, so_true, so_false]
              · simpa [Iv.upd, hi, hd] using hw
            · rintro fl a0 z Q' ⟨A8, c8, rfl, hw⟩ hi hd hQ
              replace hQ := Lib.hid hQ
              simp [Iv.depsB, Region.binds] at hd
              try simp only [hi, hd, sl_true, sl_false, so_true, so_false]
              try simp only [hi, sl_true, sl_false, so_true, so_false]
              have ea : fl 4 = true := by simp [hd]
              have eb : fl 6 = true := by simp [hd]
              have hrv := hw.2 ea
              try simp only [ea, eb, so_true, so_false]
              go_wp2_with fail
              refine (rsame_any A8 c8 A2 cap2 c2.l z hrv hw.1.row (by omega)).mono ?_
              rintro e z1 ⟨rfl, hb⟩
              have HN := Lib.hid (show Pl w z1 [(w4.heap.size, 34, #[.int .i64 (lastV c2.l).1, .int .i64 (lastV c2.l).2]), (mb, 27, #[.slice A2 c2.l.length cap2, .int .i64 c2.mark])] w.heap.size c2 A2 cap2 c2.l ∧ Rv z1 A8 c8 c2.l from ⟨hw.1.call hb, hrv.call hb⟩)
              clear hb hrv
              go_wp2_with fail
              refine hQ.out _ _ ⟨A8, c8, ?_, ?_⟩
              · simp [Iv.upd, hi, hd, hz, sl_true, sl_false, so_true, so_false, ea, eb]
              · simpa [Iv.upd, hi, hd, ea, eb] using HN.out
            · rintro fl a0 z Q' ⟨A8, c8, rfl, hw⟩ hi hd hQ
              replace hQ := Lib.hid hQ
              simp [Iv.depsB, Region.binds] at hd
              try simp only [hi, hd, sl_true, sl_false, so_true, so_false]
              try simp only [hi, sl_true, sl_false, so_true, so_false]
              go_wp2_with fail
              refine hQ.out _ _ ⟨A8, c8, ?_, ?_⟩
              · simp [Iv.upd, hi, hd, hz, sl_true, sl_false, so_true, so_false]
              · simpa [Iv.upd, hi, hd] using hw
            · rintro fl a0 z Q' ⟨A8, c8, rfl, hw⟩ hi hd hQ
              replace hQ := Lib.hid hQ
              simp [Iv.depsB, Region.binds] at hd
              try simp only [hi, hd, sl_true, sl_false, so_true, so_false]
              try simp only [hi, sl_true, sl_false, so_true, so_false]
              go_wp2_with fail
              refine hQ.out _ _ ⟨A8, c8, ?_, ?_⟩
              · simp [Iv.upd, hi, hd, hz, sl_true, sl_false, so_true, so_false]
              · simpa [Iv.upd, hi, hd] using hw
            · rintro fl a0 z Q' ⟨A8, c8, rfl, hw⟩ hi hd hQ
              replace hQ := Lib.hid hQ
              simp [Iv.depsB, Region.binds] at hd
              try simp only [hi, hd, sl_true, sl_false, so_true, so_false]
              try simp only [hi, sl_true, sl_false, so_true, so_false]
              go_wp2_with fail
              refine hQ.out _ _ ⟨A8, c8, ?_, ?_⟩
              · simp [Iv.upd, hi, hd, hz, sl_true, sl_false, so_true, so_false]
              · simpa [Iv.upd, hi, hd] using hw
            · rintro fl a0 z Q' ⟨A8, c8, rfl, hw⟩ hi hd hQ
              replace hQ := Lib.hid hQ
              simp [Iv.depsB, Region.binds] at hd
              try simp only [hi, hd, sl_true, sl_false, so_true, so_false]
              try simp only [hi, sl_true, sl_false, so_true, so_false]
              go_wp2_with fail
              refine hQ.out _ _ ⟨A8, c8, ?_, ?_⟩
              · simp [Iv.upd, hi, hd, hz, sl_true, sl_false, so_true, so_false]
              · simpa [Iv.upd, hi, hd] using hw
            · rintro fl a0 z Q' ⟨A8, c8, rfl, hw⟩ hi hd hQ
              replace hQ := Lib.hid hQ
              simp [Iv.depsB, Region.binds] at hd
              try simp only [hi, hd, sl_true, sl_false, so_true, so_false]
              try simp only [hi, sl_true, sl_false, so_true, so_false]
              have ea : fl 11 = true := by simp [hd]
              go_wp2_with fail
              refine (pmark hw.1).mono ?_
              rintro e z1 ⟨rfl, e1⟩
              subst z1
              go_wp2_with fail
              refine hQ.out _ _ ⟨A8, c8, ?_, ?_⟩
              · simp [Iv.upd, hi, hd, hz, sl_true, sl_false, so_true, so_false, ea]
              · simpa [Iv.upd, hi, hd, ea] using hw
            · rintro fl a0 z Q' ⟨A8, c8, rfl, hw⟩ hi hd hQ
              replace hQ := Lib.hid hQ
              simp [Iv.depsB, Region.binds] at hd
              try simp only [hi, hd, sl_true, sl_false, so_true, so_false]
              try simp only [hi, sl_true, sl_false, so_true, so_false]
              go_wp2_with fail
              refine hQ.out _ _ ⟨A8, c8, ?_, ?_⟩
              · simp [Iv.upd, hi, hd, hz, sl_true, sl_false, so_true, so_false]
              · simpa [Iv.upd, hi, hd] using hw
            · rintro fl a0 z Q' ⟨A8, c8, rfl, hw⟩ hi hd hQ
              replace hQ := Lib.hid hQ
              simp [Iv.depsB, Region.binds] at hd
              try simp only [hi, hd, sl_true, sl_false, so_true, so_false]
              try simp only [hi, sl_true, sl_false, so_true, so_false]
              obtain ⟨t0, t1, tf0, tf1, tl⟩ := hw.1.st.knows.two 1 mb rfl
              go_wp2_with fail
              refine hQ.out _ _ ⟨A8, c8, ?_, ?_⟩
              · simp [Iv.upd, hi, hd, hz, sl_true, sl_false, so_true, so_false]
              · simpa [Iv.upd, hi, hd] using hw
            · rintro fl a0 z Q' ⟨A8, c8, rfl, hw⟩ hi hd hQ
              replace hQ := Lib.hid hQ
              simp [Iv.depsB, Region.binds] at hd
              try simp only [hi, hd, sl_true, sl_false, so_true, so_false]
              try simp only [hi, sl_true, sl_false, so_true, so_false]
              go_wp2_with fail
              refine hQ.out _ _ ⟨A8, c8, ?_, ?_⟩
              · simp [Iv.upd, hi, hd, hz, sl_true, sl_false, so_true, so_false]
              · simpa [Iv.upd, hi, hd] using hw
            · rintro fl a0 z Q' ⟨A8, c8, rfl, hw⟩ hi hd hQ
              replace hQ := Lib.hid hQ
              simp [Iv.depsB, Region.binds] at hd
              try simp only [hi, hd, sl_true, sl_false, so_true, so_false]
              try simp only [hi, sl_true, sl_false, so_true, so_false]
              go_wp2_with fail
              refine hQ.out _ _ ⟨A8, c8, ?_, ?_⟩
              · simp [Iv.upd, hi, hd, hz, sl_true, sl_false, so_true, so_false]
              · simpa [Iv.upd, hi, hd] using hw
            · rintro fl a0 z Q' ⟨A8, c8, rfl, hw⟩ hi hd hQ
              replace hQ := Lib.hid hQ
              simp [Iv.depsB, Region.binds] at hd
              try simp only [hi, hd, sl_true, sl_false, so_true, so_false]
              try simp only [hi, sl_true, sl_false, so_true, so_false]
              go_wp2_with fail
              refine hQ.out _ _ ⟨A8, c8, ?_, ?_⟩
              · simp [Iv.upd, hi, hd, hz, sl_true, sl_false, so_true, so_false]
              · simpa [Iv.upd, hi, hd] using hw
            · rintro fl a0 z Q' ⟨A8, c8, rfl, hw⟩ hi hd hQ
              replace hQ := Lib.hid hQ
              simp [Iv.depsB, Region.binds] at hd
              try simp only [hi, hd, sl_true, sl_false, so_true, so_false]
              try simp only [hi, sl_true, sl_false, so_true, so_false]
              go_wp2_with fail
              refine hQ.out _ _ ⟨A8, c8, ?_, ?_⟩
              · simp [Iv.upd, hi, hd, hz, sl_true, sl_false, so_true, so_false]
              · simpa [Iv.upd, hi, hd] using hw
            · rintro fl a0 z Q' ⟨A8, c8, rfl, hw⟩ hi hd hQ
              replace hQ := Lib.hid hQ
              simp [Iv.depsB, Region.binds] at hd
              try simp only [hi, hd, sl_true, sl_false, so_true, so_false]
              try simp only [hi, sl_true, sl_false, so_true, so_false]
              go_wp2_with fail
              refine hQ.out _ _ ⟨A8, c8, ?_, ?_⟩
              · simp [Iv.upd, hi, hd, hz, sl_true, sl_false, so_true, so_false]
              · simpa [Iv.upd, hi, hd] using hw
            · rintro fl a0 z Q' ⟨A8, c8, rfl, hw⟩ hi hd hQ
              replace hQ := Lib.hid hQ
              simp [Iv.depsB, Region.binds] at hd
              try simp only [hi, hd, sl_true, sl_false, so_true, so_false]
              try simp only [hi, sl_true, sl_false, so_true, so_false]
              obtain ⟨t0, t1, tf0, tf1, tl⟩ := hw.1.st.knows.two 1 mb rfl
              go_wp2_with fail
              refine hQ.out _ _ ⟨A8, c8, ?_, ?_⟩
              · simp [Iv.upd, hi, hd, hz, sl_true, sl_false, so_true, so_false]
              · simpa [Iv.upd, hi, hd] using hw
            · rintro fl a0 z Q' ⟨A8, c8, rfl, hw⟩ hi hd hQ
              replace hQ := Lib.hid hQ
              simp [Iv.depsB, Region.binds] at hd
              try simp only [hi, hd, sl_true, sl_false, so_true, so_false]
              try simp only [hi, sl_true, sl_false, so_true, so_false]
              go_wp2_with fail
              refine hQ.out _ _ ⟨A8, c8, ?_, ?_⟩
              · simp [Iv.upd, hi, hd, hz, sl_true, sl_false, so_true, so_false]
              · simpa [Iv.upd, hi, hd] using hw
            · rintro fl a0 z Q' ⟨A8, c8, rfl, hw⟩ hi hd hQ
              replace hQ := Lib.hid hQ
              simp [Iv.depsB, Region.binds] at hd
              try simp only [hi, hd, sl_true, sl_false, so_true, so_false]
              try simp only [hi, sl_true, sl_false, so_true, so_false]
              go_wp2_with fail
              refine hQ.out _ _ ⟨A8, c8, ?_, ?_⟩
              · simp [Iv.upd, hi, hd, hz, sl_true, sl_false, so_true, so_false]
              · simpa [Iv.upd, hi, hd] using hw
            · rintro fl a0 z Q' ⟨A8, c8, rfl, hw⟩ hi hd hQ
              replace hQ := Lib.hid hQ
              simp [Iv.depsB, Region.binds] at hd
              try simp only [hi, hd, sl_true, sl_false, so_true, so_false]
              try simp only [hi, sl_true, sl_false, so_true, so_false]
              go_wp2_with fail
              refine hQ.out _ _ ⟨A8, c8, ?_, ?_⟩
              · simp [Iv.upd, hi, hd, hz, sl_true, sl_false, so_true, so_false]
              · simpa [Iv.upd, hi, hd] using hw
            · rintro fl a0 z Q' ⟨A8, c8, rfl, hw⟩ hi hd hQ
              replace hQ := Lib.hid hQ
              simp [Iv.depsB, Region.binds] at hd
              try simp only [hi, hd, sl_true, sl_false, so_true, so_false]
              try simp only [hi, sl_true, sl_false, so_true, so_false]
              go_wp2_with fail
              refine hQ.out _ _ ⟨A8, c8, ?_, ?_⟩
              · simp [Iv.upd, hi, hd, hz, sl_true, sl_false, so_true, so_false]
              · simpa [Iv.upd, hi, hd] using hw
          · rintro fl a0 z ⟨A8, c8, rfl, hw⟩ hall
            simp only [hall 0 (by decide), hall 1 (by decide), hall 2 (by decide), hall 3 (by decide), hall 4 (by decide), hall 5 (by decide), hall 6 (by decide), hall 7 (by decide), hall 8 (by decide), hall 9 (by decide), hall 10 (by decide), hall 11 (by decide), hall 12 (by decide), hall 13 (by decide), hall 14 (by decide), hall 15 (by decide), hall 16 (by decide), hall 17 (by decide), hall 18 (by decide), hall 19 (by decide), hall 20 (by decide), hall 21 (by decide), hall 22 (by decide), hall 23 (by decide), hall 24 (by decide), sl_true, ↓reduceIte, so_true, so_false] at hw ⊢
            clear hall
            have HP4 := Lib.hid hw.1
            clear hw HP3 HPZ
            obtain ⟨m9, hm9⟩ : ∃ m9, c2.l.length = m9 + 1 := ⟨c2.l.length - 1, by omega⟩
            have hat := lastV_at (l := c2.l) (by omega)
            rw [show c2.l.length - 1 = m9 by omega] at hat
            obtain ⟨b2, o2, rfl, -, -, -⟩ := HP4.out.row.cell m9 (lastV c2.l) hat
            have HAT := Lib.hid hat
            have q3 : IntKind.i64.wrap ((c2.l.length : Int) - 1) = (m9 : Int) := by rw [IntKind.wrap_i64]; omega
            have i9 : (m9 : Int) < (c2.l.length : Int) := by omega
            clear hat hm9
            obtain ⟨C, hC, HCc, HCf⟩ := HP4.out.class
            go_wp2_with fail
            refine region_in C hC (by kernel_rfl) (by kernel_rfl) ?_
            iterate 22
              (refine WQ.step (fun K hK => ?_)
               go_simp
               try simp only [q3, bne_self_eq_false, if_true, if_false, decide_true, decide_false, Bool.or_false, Bool.and_false, Bool.true_and, Bool.not_true, Bool.not_false, Bool.true_or, Bool.false_or, Bool.or_true]
               first
                 | (refine hK _ ?_; clear hK K)
                 | (apply Exists.intro
                    refine ⟨fun x hx => ?_, hK _ ?_⟩
                    · first
                        | rfl
                        | (obtain ⟨t0, t1, tf0, tf1, tl⟩ := (HCf.out _ hx).1.st.knows.two 0 w4.heap.size rfl; go_simp; rfl)
                        | (obtain ⟨t0, t1, tf0, tf1, tl⟩ := (HCf.out _ hx).1.st.knows.two 1 mb rfl; go_simp; rfl)
                        | (obtain ⟨-, k0, k1⟩ := (HCf.out _ hx).1.row.cellAt m9 (lastV c2.l) HAT.out; go_simp; rfl)
                    clear hK K))
            refine WQ.nil ?_
            intro w9 hw9
            have HP5 := Lib.hid ((HCf.out _ hw9).1.few (L' := [(mb, 27, #[.slice (some ⟨b2, o2, none⟩) c2.l.length cap2, .int .i64 c2.mark])]) (fun r hr => by rw [List.mem_singleton.1 hr]; exact List.mem_cons_of_mem _ (List.mem_singleton.2 rfl)))
            clear hw9 hC HCc HCf C
            go_wp2_with fail
            go_roundw
            case rel => exact ⟨n + 1, c2, _, cap2, by omega, by omega, by go_num, HP5.out, HAM.out⟩
            case measure => simp [intOf]; omega
        · have hzd : decide (0 < c2.l.length) = false := by simpa using hz
          have hzi : ¬ (0 : Int) < (c2.l.length : Int) := by omega
          rw [hzd]
          have HPZ := Lib.hid (HP3.out.drewN 1)
          go_wp2_with fail
          refine Iv.region (fun fl aa z => ∃ A8 c8, aa = ⟨#[.slice (some ⟨b0, off, none⟩) l.length cap, undef, u2, ptr w.heap.size, .pointer (some ⟨mb, 0, none⟩), .int .i64 (n : Int), .pointer (some ⟨p0, 0, none⟩), .bool true, .pointer (some ⟨w4.heap.size, 0, none⟩), .bool false, ptr w.heap.size, .agg #[.slice none 0 0, .int .i64 0], .bool true, .bool false, .bool false, ptr w.heap.size, .bool false, .bool false, .int .i64 (n : Int), .slice (some ⟨b0, off, none⟩) l.length cap, .int .i64 (l.length : Int), .bool true, .bool true, .int .i64 (n : Int), .bool true, .bool true, u26, u27, .tuple #[.agg #[.slice A2 c2.l.length cap2, .int .i64 c2.mark], .bool true], ptr w.heap.size, .agg #[.slice Ar c.l.length cr, .int .i64 c.mark], .slice (some ⟨b0, off, none⟩) l.length cap, .int .i64 (n : Int), .pointer (some ⟨b0, off + n * 3, none⟩), .agg #[.int .i64 k, .int .i64 t, .int .i64 v], .tuple #[.agg #[.slice A2 c2.l.length cap2, .int .i64 c2.mark], .bool true], .agg #[.slice A2 c2.l.length cap2, .int .i64 c2.mark], .bool true, .agg #[.slice A2 c2.l.length cap2, .int .i64 c2.mark], .tuple #[aggV (lastV c2.l), .bool false], ptr w.heap.size, .tuple #[aggV (lastV c2.l), .bool false], aggV (lastV c2.l), .bool false, so (fl 0) (.bool true) u44, so (fl 1) (.bool false) u45, so (fl 2) (.bool false) u46, so (fl 3) (ptr w.heap.size) u47, so (fl 4) (.slice A8 c2.l.length c8) u48, so (fl 5) (.pointer (some ⟨mb, 0, none⟩)) u49, so (fl 6) (.slice A2 c2.l.length cap2) u50, so (fl 7) (.bool true) u51, so (fl 8) (.bool false) u52, so (fl 9) (.bool false) u53, so (fl 10) (.bool false) u54, so (fl 11) (ptr w.heap.size) u55, so (fl 12) (.int .i64 c2.mark) u56, so (fl 13) (.pointer (some ⟨mb, 1, none⟩)) u57, so (fl 14) (.int .i64 c2.mark) u58, so (fl 15) (.bool false) u59, so (fl 16) (.bool false) u60, so (fl 17) (.bool false) u61, so (fl 18) (.bool false) u62, so (fl 19) (.pointer (some ⟨mb, 0, none⟩)) u63, so (fl 20) (.slice A2 c2.l.length cap2) u64, so (fl 21) (.int .i64 (c2.l.length : Int)) u65, so (fl 22) (.bool false) u66, so (fl 23) (.bool false) u67, so (fl 24) (.bool false) u68, u69, u70, u71, u72, u73, u74, u75, u76, u77, u78, u79, u80, u81, u82, u83, u84, u85, u86, u87, u88, u89, u90], []⟩ ∧ Pl w z [(w4.heap.size, 34, #[.int .i64 (lastV c2.l).1, .int .i64 (lastV c2.l).2]), (mb, 27, #[.slice A2 c2.l.length cap2, .int .i64 c2.mark])] w.heap.size c2 A2 cap2 c2.l ∧ (fl 4 = true → Rv z A8 c8 c2.l)) (by kernel_rfl) (by kernel_rfl) ?_ ?_ ?_
          · exact ⟨none, 0, rfl, HPZ.out, (fun h => by cases h)⟩
          · refine ⟨?_, ?_, ?_, ?_, ?_, ?_, ?_, ?_, ?_, ?_, ?_, ?_, ?_, ?_, ?_, ?_, ?_, ?_, ?_, ?_, ?_, ?_, ?_, ?_, ?_, trivial⟩
            · rintro fl a0 z Q' ⟨A8, c8, rfl, hw⟩ hi hd hQ
              replace hQ := Lib.hid hQ
              simp [Iv.depsB, Region.binds] at hd
              try simp only [hi, hd, sl_true, sl_false, so_true, so_false]
              try simp only [hi, sl_true, sl_false, so_true, so_false]
              go_wp2_with fail
              refine hQ.out _ _ ⟨A8, c8, ?_, ?_⟩
              · simp [Iv.upd, hi, hd, hz, sl_true, sl_false, so_true, so_false]
              · simpa [Iv.upd, hi, hd] using hw
            · rintro fl a0 z Q' ⟨A8, c8, rfl, hw⟩ hi hd hQ
              replace hQ := Lib.hid hQ
              simp [Iv.depsB, Region.binds] at hd
              try simp only [hi, hd, sl_true, sl_false, so_true, so_false]
              try simp only [hi, sl_true, sl_false, so_true, so_false]
              go_wp2_with fail
              refine hQ.out _ _ ⟨A8, c8, ?_, ?_⟩
              · simp [Iv.upd, hi, hd, hz, sl_true, sl_false, so_true, so_false]
              · simpa [Iv.upd, hi, hd] using hw
            · rintro fl a0 z Q' ⟨A8, c8, rfl, hw⟩ hi hd hQ
              replace hQ := Lib.hid hQ
              simp [Iv.depsB, Region.binds] at hd
              try simp only [hi, hd, sl_true, sl_false, so_true, so_false]
              try simp only [hi, sl_true, sl_false, so_true, so_false]
              go_wp2_with fail
              refine hQ.out _ _ ⟨A8, c8, ?_, ?_⟩
              · simp [Iv.upd, hi, hd, hz, sl_true, sl_false, so_true, so_false]
              · simpa [Iv.upd, hi, hd] using hw
            · rintro fl a0 z Q' ⟨A8, c8, rfl, hw⟩ hi hd hQ
              replace hQ := Lib.hid hQ
              simp [Iv.depsB, Region.binds] at hd
              try simp only [hi, hd, sl_true, sl_false, so_true, so_false]
              try simp only [hi, sl_true, sl_false, so_true, so_false]
              go_wp2_with fail
              refine hQ.out _ _ ⟨A8, c8, ?_, ?_⟩
              · simp [Iv.upd, hi, hd, hz, sl_true, sl_false, so_true, so_false]
              · simpa [Iv.upd, hi, hd] using hw
            · rintro fl a0 z Q' ⟨A8, c8, rfl, hw⟩ hi hd hQ
              replace hQ := Lib.hid hQ
              simp [Iv.depsB, Region.binds] at hd
              try simp only [hi, hd, sl_true, sl_false, so_true, so_false]
              try simp only [hi, sl_true, sl_false, so_true, so_false]
              have ea : fl 3 = true := by simp [hd]
              go_wp2_with fail
              refine (plist hw.1).mono ?_
              rintro e z1 ⟨A9, c9, rfl, hb, ho⟩
              have HN := Lib.hid (show Pl w z1 [(w4.heap.size, 34, #[.int .i64 (lastV c2.l).1, .int .i64 (lastV c2.l).2]), (mb, 27, #[.slice A2 c2.l.length cap2, .int .i64 c2.mark])] w.heap.size c2 A2 cap2 c2.l ∧ Rv z1 A9 c9 c2.l from ⟨hw.1.call hb, Rv.own ho rfl⟩)
              clear hb ho
              go_wp2_with fail
              refine hQ.out _ _ ⟨A9, c9, ?_, ?_⟩
              · simp [Iv.upd, hi, hd, hz, sl_true, sl_false, so_true, so_false, ea]
              · simpa [Iv.upd, hi, hd, ea] using HN.out
            · rintro fl a0 z Q' ⟨A8, c8, rfl, hw⟩ hi hd hQ
              replace hQ := Lib.hid hQ
              simp [Iv.depsB, Region.binds] at hd
              try simp only [hi, hd, sl_true, sl_false, so_true, so_false]
              try simp only [hi, sl_true, sl_false, so_true, so_false]
              go_wp2_with fail
              refine hQ.out _ _ ⟨A8, c8, ?_, ?_⟩
              · simp [Iv.upd, hi, hd, hz, sl_true, sl_false, so_true, so_false]
              · simpa [Iv.upd, hi, hd] using hw
            · rintro fl a0 z Q' ⟨A8, c8, rfl, hw⟩ hi hd hQ
              replace hQ := Lib.hid hQ
              simp [Iv.depsB, Region.binds] at hd
              try simp only [hi, hd, sl_true, sl_false, so_true, so_false]
              try simp only [hi, sl_true, sl_false, so_true, so_false]
              obtain ⟨t0, t1, tf0, tf1, tl⟩ := hw.1.st.knows.two 1 mb rfl
              go_wp2_with fail
              refine hQ.out _ _ ⟨A8, c8, ?_, ?_⟩
              · simp [Iv.upd, hi, hd, hz, sl_true, sl_false, so_true, so_false]
              · simpa [Iv.upd, hi, hd] using hw
            · rintro fl a0 z Q' ⟨A8, c8, rfl, hw⟩ hi hd hQ
              replace hQ := Lib.hid hQ
              simp [Iv.depsB, Region.binds] at hd
              try simp only [hi, hd, sl_true, sl_false, so_true, so_false]
              try simp only [hi, sl_true, sl_false, so_true, so_false]
              have ea : fl 4 = true := by simp [hd]
              have eb : fl 6 = true := by simp [hd]
              have hrv := hw.2 ea
              try simp only [ea, eb, so_true, so_false]
              go_wp2_with fail
              refine (rsame_any A8 c8 A2 cap2 c2.l z hrv hw.1.row (by omega)).mono ?_
              rintro e z1 ⟨rfl, hb⟩
              have HN := Lib.hid (show Pl w z1 [(w4.heap.size, 34, #[.int .i64 (lastV c2.l).1, .int .i64 (lastV c2.l).2]), (mb, 27, #[.slice A2 c2.l.length cap2, .int .i64 c2.mark])] w.heap.size c2 A2 cap2 c2.l ∧ Rv z1 A8 c8 c2.l from ⟨hw.1.call hb, hrv.call hb⟩)
              clear hb hrv
              go_wp2_with fail
              refine hQ.out _ _ ⟨A8, c8, ?_, ?_⟩
              · simp [Iv.upd, hi, hd, hz, sl_true, sl_false, so_true, so_false, ea, eb]
              · simpa [Iv.upd, hi, hd, ea, eb] using HN.out
            · rintro fl a0 z Q' ⟨A8, c8, rfl, hw⟩ hi hd hQ
              replace hQ := Lib.hid hQ
              simp [Iv.depsB, Region.binds] at hd
              try simp only [hi, hd, sl_true, sl_false, so_true, so_false]
              try simp only [hi, sl_true, sl_false, so_true, so_false]
              go_wp2_with fail
              refine hQ.out _ _ ⟨A8, c8, ?_, ?_⟩
              · simp [Iv.upd, hi, hd, hz, sl_true, sl_false, so_true, so_false]
              · simpa [Iv.upd, hi, hd] using hw
            · rintro fl a0 z Q' ⟨A8, c8, rfl, hw⟩ hi hd hQ
              replace hQ := Lib.hid hQ
              simp [Iv.depsB, Region.binds] at hd
              try simp only [hi, hd, sl_true, sl_false, so_true, so_false]
              try simp only [hi, sl_true, sl_false, so_true, so_false]
              go_wp2_with fail
              refine hQ.out _ _ ⟨A8, c8, ?_, ?_⟩
              · simp [Iv.upd, hi, hd, hz, sl_true, sl_false, so_true, so_false]
              · simpa [Iv.upd, hi, hd] using hw
            · rintro fl a0 z Q' ⟨A8, c8, rfl, hw⟩ hi hd hQ
              replace hQ := Lib.hid hQ
              simp [Iv.depsB, Region.binds] at hd
              try simp only [hi, hd, sl_true, sl_false, so_true, so_false]
              try simp only [hi, sl_true, sl_false, so_true, so_false]
              go_wp2_with fail
              refine hQ.out _ _ ⟨A8, c8, ?_, ?_⟩
              · simp [Iv.upd, hi, hd, hz, sl_true, sl_false, so_true, so_false]
              · simpa [Iv.upd, hi, hd] using hw
            · rintro fl a0 z Q' ⟨A8, c8, rfl, hw⟩ hi hd hQ
              replace hQ := Lib.hid hQ
              simp [Iv.depsB, Region.binds] at hd
              try simp only [hi, hd, sl_true, sl_false, so_true, so_false]
              try simp only [hi, sl_true, sl_false, so_true, so_false]
              go_wp2_with fail
              refine hQ.out _ _ ⟨A8, c8, ?_, ?_⟩
              · simp [Iv.upd, hi, hd, hz, sl_true, sl_false, so_true, so_false]
              · simpa [Iv.upd, hi, hd] using hw
            · rintro fl a0 z Q' ⟨A8, c8, rfl, hw⟩ hi hd hQ
              replace hQ := Lib.hid hQ
              simp [Iv.depsB, Region.binds] at hd
              try simp only [hi, hd, sl_true, sl_false, so_true, so_false]
              try simp only [hi, sl_true, sl_false, so_true, so_false]
              have ea : fl 11 = true := by simp [hd]
              go_wp2_with fail
              refine (pmark hw.1).mono ?_
              rintro e z1 ⟨rfl, e1⟩
              subst z1
              go_wp2_with fail
              refine hQ.out _ _ ⟨A8, c8, ?_, ?_⟩
              · simp [Iv.upd, hi, hd, hz, sl_true, sl_false, so_true, so_false, ea]
              · simpa [Iv.upd, hi, hd, ea] using hw
            · rintro fl a0 z Q' ⟨A8, c8, rfl, hw⟩ hi hd hQ
              replace hQ := Lib.hid hQ
              simp [Iv.depsB, Region.binds] at hd
              try simp only [hi, hd, sl_true, sl_false, so_true, so_false]
              try simp only [hi, sl_true, sl_false, so_true, so_false]
              go_wp2_with fail
              refine hQ.out _ _ ⟨A8, c8, ?_, ?_⟩
              · simp [Iv.upd, hi, hd, hz, sl_true, sl_false, so_true, so_false]
              · simpa [Iv.upd, hi, hd] using hw
            · rintro fl a0 z Q' ⟨A8, c8, rfl, hw⟩ hi hd hQ
              replace hQ := Lib.hid hQ
              simp [Iv.depsB, Region.binds] at hd
              try simp only [hi, hd, sl_true, sl_false, so_true, so_false]
              try simp only [hi, sl_true, sl_false, so_true, so_false]
              obtain ⟨t0, t1, tf0, tf1, tl⟩ := hw.1.st.knows.two 1 mb rfl
              go_wp2_with fail
              refine hQ.out _ _ ⟨A8, c8, ?_, ?_⟩
              · simp [Iv.upd, hi, hd, hz, sl_true, sl_false, so_true, so_false]
              · simpa [Iv.upd, hi, hd] using hw
            · rintro fl a0 z Q' ⟨A8, c8, rfl, hw⟩ hi hd hQ
              replace hQ := Lib.hid hQ
              simp [Iv.depsB, Region.binds] at hd
              try simp only [hi, hd, sl_true, sl_false, so_true, so_false]
              try simp only [hi, sl_true, sl_false, so_true, so_false]
              go_wp2_with fail
              refine hQ.out _ _ ⟨A8, c8, ?_, ?_⟩
              · simp [Iv.upd, hi, hd, hz, sl_true, sl_false, so_true, so_false]
              · simpa [Iv.upd, hi, hd] using hw
            · rintro fl a0 z Q' ⟨A8, c8, rfl, hw⟩ hi hd hQ
              replace hQ := Lib.hid hQ
              simp [Iv.depsB, Region.binds] at hd
              try simp only [hi, hd, sl_true, sl_false, so_true, so_false]
              try simp only [hi, sl_true, sl_false, so_true, so_false]
              go_wp2_with fail
              refine hQ.out _ _ ⟨A8, c8, ?_, ?_⟩
              · simp [Iv.upd, hi, hd, hz, sl_true, sl_false, so_true, so_false]
              · simpa [Iv.upd, hi, hd] using hw
            · rintro fl a0 z Q' ⟨A8, c8, rfl, hw⟩ hi hd hQ
              replace hQ := Lib.hid hQ
              simp [Iv.depsB, Region.binds] at hd
              try simp only [hi, hd, sl_true, sl_false, so_true, so_false]
              try simp only [hi, sl_true, sl_false, so_true, so_false]
              go_wp2_with fail
              refine hQ.out _ _ ⟨A8, c8, ?_, ?_⟩
              · simp [Iv.upd, hi, hd, hz, sl_true, sl_false, so_true, so_false]
              · simpa [Iv.upd, hi, hd] using hw
            · rintro fl a0 z Q' ⟨A8, c8, rfl, hw⟩ hi hd hQ
              replace hQ := Lib.hid hQ
              simp [Iv.depsB, Region.binds] at hd
              try simp only [hi, hd, sl_true, sl_false, so_true, so_false]
              try simp only [hi, sl_true, sl_false, so_true, so_false]
              go_wp2_with fail
              refine hQ.out _ _ ⟨A8, c8, ?_, ?_⟩
              · simp [Iv.upd, hi, hd, hz, sl_true, sl_false, so_true, so_false]
              · simpa [Iv.upd, hi, hd] using hw
            · rintro fl a0 z Q' ⟨A8, c8, rfl, hw⟩ hi hd hQ
              replace hQ := Lib.hid hQ
              simp [Iv.depsB, Region.binds] at hd
              try simp only [hi, hd, sl_true, sl_false, so_true, so_false]
              try simp only [hi, sl_true, sl_false, so_true, so_false]
              go_wp2_with fail
              refine hQ.out _ _ ⟨A8, c8, ?_, ?_⟩
              · simp [Iv.upd, hi, hd, hz, sl_true, sl_false, so_true, so_false]
              · simpa [Iv.upd, hi, hd] using hw
            · rintro fl a0 z Q' ⟨A8, c8, rfl, hw⟩ hi hd hQ
              replace hQ := Lib.hid hQ
              simp [Iv.depsB, Region.binds] at hd
              try simp only [hi, hd, sl_true, sl_false, so_true, so_false]
              try simp only [hi, sl_true, sl_false, so_true, so_false]
              obtain ⟨t0, t1, tf0, tf1, tl⟩ := hw.1.st.knows.two 1 mb rfl
              go_wp2_with fail
              refine hQ.out _ _ ⟨A8, c8, ?_, ?_⟩
              · simp [Iv.upd, hi, hd, hz, sl_true, sl_false, so_true, so_false]
              · simpa [Iv.upd, hi, hd] using hw
            · rintro fl a0 z Q' ⟨A8, c8, rfl, hw⟩ hi hd hQ
              replace hQ := Lib.hid hQ
              simp [Iv.depsB, Region.binds] at hd
              try simp only [hi, hd, sl_true, sl_false, so_true, so_false]
              try simp only [hi, sl_true, sl_false, so_true, so_false]
              go_wp2_with fail
              refine hQ.out _ _ ⟨A8, c8, ?_, ?_⟩
              · simp [Iv.upd, hi, hd, hz, sl_true, sl_false, so_true, so_false]
              · simpa [Iv.upd, hi, hd] using hw
            · rintro fl a0 z Q' ⟨A8, c8, rfl, hw⟩ hi hd hQ
              replace hQ := Lib.hid hQ
              simp [Iv.depsB, Region.binds] at hd
              try simp only [hi, hd, sl_true, sl_false, so_true, so_false]
              try simp only [hi, sl_true, sl_false, so_true, so_false]
              go_wp2_with fail
              refine hQ.out _ _ ⟨A8, c8, ?_, ?_⟩
              · simp [Iv.upd, hi, hd, hz, sl_true, sl_false, so_true, so_false]
              · simpa [Iv.upd, hi, hd] using hw
            · rintro fl a0 z Q' ⟨A8, c8, rfl, hw⟩ hi hd hQ
              replace hQ := Lib.hid hQ
              simp [Iv.depsB, Region.binds] at hd
              try simp only [hi, hd, sl_true, sl_false, so_true, so_false]
              try simp only [hi, sl_true, sl_false, so_true, so_false]
              go_wp2_with fail
              refine hQ.out _ _ ⟨A8, c8, ?_, ?_⟩
              · simp [Iv.upd, hi, hd, hz, sl_true, sl_false, so_true, so_false]
              · simpa [Iv.upd, hi, hd] using hw
            · rintro fl a0 z Q' ⟨A8, c8, rfl, hw⟩ hi hd hQ
              replace hQ := Lib.hid hQ
              simp [Iv.depsB, Region.binds] at hd
              try simp only [hi, hd, sl_true, sl_false, so_true, so_false]
              try simp only [hi, sl_true, sl_false, so_true, so_false]
              go_wp2_with fail
              refine hQ.out _ _ ⟨A8, c8, ?_, ?_⟩
              · simp [Iv.upd, hi, hd, hz, sl_true, sl_false, so_true, so_false]
              · simpa [Iv.upd, hi, hd] using hw
          · rintro fl a0 z ⟨A8, c8, rfl, hw⟩ hall
            simp only [hall 0 (by decide), hall 1 (by decide), hall 2 (by decide), hall 3 (by decide), hall 4 (by decide), hall 5 (by decide), hall 6 (by decide), hall 7 (by decide), hall 8 (by decide), hall 9 (by decide), hall 10 (by decide), hall 11 (by decide), hall 12 (by decide), hall 13 (by decide), hall 14 (by decide), hall 15 (by decide), hall 16 (by decide), hall 17 (by decide), hall 18 (by decide), hall 19 (by decide), hall 20 (by decide), hall 21 (by decide), hall 22 (by decide), hall 23 (by decide), hall 24 (by decide), sl_true, ↓reduceIte, so_true, so_false] at hw ⊢
            clear hall
            have HP4 := Lib.hid hw.1
            clear hw HP3 HPZ
            have hl0 : lastV c2.l = (0, 0) := lastV_none (by omega)
            rw [hl0] at HP4
            obtain ⟨C, hC, HCc, HCf⟩ := HP4.out.class
            go_wp2_with fail
            refine region_in C hC (by kernel_rfl) (by kernel_rfl) ?_
            iterate 22
              (refine WQ.step (fun K hK => ?_)
               go_simp
               try simp only [hl0, bne_self_eq_false, if_true, if_false, decide_true, decide_false, Bool.or_false, Bool.and_false, Bool.true_and, Bool.not_true, Bool.not_false, Bool.true_or, Bool.false_or, Bool.or_true]
               first
                 | (refine hK _ ?_; clear hK K)
                 | (apply Exists.intro
                    refine ⟨fun x hx => ?_, hK _ ?_⟩
                    · first
                        | rfl
                        | (obtain ⟨t0, t1, tf0, tf1, tl⟩ := (HCf.out _ hx).1.st.knows.two 0 w4.heap.size rfl; go_simp; rfl)
                        | (obtain ⟨t0, t1, tf0, tf1, tl⟩ := (HCf.out _ hx).1.st.knows.two 1 mb rfl; go_simp; rfl)
                    clear hK K))
            refine WQ.nil ?_
            intro w9 hw9
            have HP5 := Lib.hid ((HCf.out _ hw9).1.few (L' := [(mb, 27, #[.slice A2 c2.l.length cap2, .int .i64 c2.mark])]) (fun r hr => by rw [List.mem_singleton.1 hr]; exact List.mem_cons_of_mem _ (List.mem_singleton.2 rfl)))
            clear hw9 hC HCc HCf C
            go_wp2_with fail
            go_roundw
            case rel => exact ⟨n + 1, c2, _, cap2, by omega, by omega, by go_num, HP5.out, HAM.out⟩
            case measure => simp [intOf]; omega
    · have hend : ((n : Int) < (l.length : Int) ∧ n = 60) ∨ (¬ (n : Int) < (l.length : Int)) := by omega
      rcases hend with ⟨i1, rfl⟩ | i1
      all_goals
        go_wp2_with fail
        go_ret
        exact ⟨rfl, HP.out.st.below⟩

set_option maxRecDepth 100000 in
theorem lifted (os : Os) (started : os.Started) (H : Type) (enc : TypeId × Value → H) :
    ReturnsInHanded {} Try.checked os 3 .any (Rows.chainPlaysSpec.pre6 enc Try.prog Try.f3 Rows.chainPlaysRow.domain false) (Rows.chainPlaysSpec.post enc Try.prog Try.f3 false true false false) := by
  refine returnsInHanded_of_change (C := Try.checked) own started (by kernel_rfl) Try.func3
    (ChangeSpec.witness6 (enc := enc) (C := Try.checked) false ⟨#[], #[.slice none 0 0], []⟩ 8 (by kernel_rfl) (by kernel_rfl) (by kernel_rfl) (by kernel_rfl)) ?_
  intro W base args ds gs before hval0 hW hcnd _
  have hval : ∀ (j : Nat) t v, Try.f3.params[j]? = some t → args[j]? = some v → Value.okWide Try.prog W .any base t v := hval0
  have hW' := hW
  obtain ⟨p, q, hA0, hV, rfl, hfz, hnd⟩ := hW
  have hA : DataW.TrodAll enc Try.prog W 0 (fun _ => true) true Try.f3.params.toList args.toList ds p := hA0
  rw [Try.params3] at hA hval
  obtain ⟨v0, vs0, d0, ds0, p0, q0, hargs, rfl, rfl, h0, r0⟩ := trodAll_cons hA
  obtain ⟨rfl, rfl, rfl⟩ := trodAll_nil r0
  obtain rfl : args = #[v0] := by cases args; simp_all
  obtain ⟨rfl, rfl⟩ := trodVars_none hV
  obtain ⟨A0, len0, cap0, rfl⟩ := okWide_slice Try.underlying22 (hval 0 22 v0 rfl rfl)
  obtain ⟨l0, w0⟩ := open_ops h0
  have lt0 : ∀ x ∈ p0, x.block < W.heap.size := by obtain ⟨m, hm⟩ := h0; exact DataW.trod_lt m _ _ _ hm
  clear hA0 hval0
  simp only [List.append_nil] at hW'
  refine (walk A0 len0 cap0 l0 W w0).mono fun e W' ⟨he, bel⟩ => ?_
  subst he
  exact ⟨_, rfl, _, _, _, [], _, [], hW', trodAll_mk1 (shut_bool Try.underlying4 _), (trodAll_cons_mk (Below.trod laidOut (by kernel_rfl) (of_decide_eq_true (by kernel_rfl)) h0 bel lt0) trodAll_mk0), rfl, bel.frame _, fun h => by cases h⟩

theorem proved : Rows.ChainPlaysSaid :=
  OpenClaim.holds_of_wide 3 Try.f3 rfl rfl rfl rfl rfl rfl rfl ⟨rfl, rfl, rfl, rfl, rfl⟩ rfl rfl rfl rfl rfl (by kernel_rfl) Try.func3 (by kernel_rfl)
    (of_decide_eq_true (by kernel_rfl)) (by unfold Func.isWrapper; first | (rw [if_pos (by decide +kernel)]; kernel_rfl) | (rw [if_neg (by decide +kernel)]; exact ⟨rfl, rfl⟩))
    (fun os started H enc _ => lifted os started H enc)
#print axioms proved
end Go.Proofs.Ytiocghhhfhobbaa.chainPlays
