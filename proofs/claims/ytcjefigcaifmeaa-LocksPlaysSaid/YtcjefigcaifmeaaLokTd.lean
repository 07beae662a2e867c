/- Locks: LocksPlays: does a key stand as in the document's table? (Written by gtold13.py.) -/
import Derived.Test.YtcjefigcaifmeaaLokPd
import Derived.Test.YtcjefigcaifmeaaLokOf
namespace Go.Proofs.Ytcjefigcaifmeaa
open Go.ChangeShapes Go.WideShapes Go.ChangeAt Go.RowKit Go.Lk
set_option linter.unusedVariables false
set_option linter.unusedSimpArgs false
set_option maxRecDepth 100000
set_option maxHeartbeats 8000000 in
theorem told_any {W w : World} {L : List Row} {g : Nat} {s : Tb} {p : Nat} {vh vw vd : Value} {H Wt : List Rw} {D : List Int} {n : Nat} (k : Int) (hk : W64 k) (h : Pd W w L g s p vh vw vd H Wt D n) (r1 : Rel H s.h) (r2 : Rel Wt s.w) (hn : n ≤ 1000) (hl : H.length ≤ 100000) (hl2 : Wt.length ≤ 100000) :
    Calls Try.prog 12 #[ptr g, .agg #[vh, vw, vd], .int .i64 k] w fun e w' => e = .returned (.bool true) ∧ Below w.heap.size w w' := by
  obtain ⟨A1, c1, rfl, -⟩ := own_slice0 h.t.hh
  obtain ⟨A2, c2, rfl, -⟩ := own_slice0 h.t.hw
  obtain ⟨A3, c3, rfl, -⟩ := own_slice0 h.t.hd
  have HAL : Hid (Below w.heap.size w (w.alloc (.cells #[.slice A1 H.length c1, .slice A2 Wt.length c2, .slice A3 D.length c3] 28))) := Lib.hid ((Below.refl _ _).alloc (Nat.le_refl _) _)
  have HP := Lib.hid (h.alloc w.heap.size rfl 28 #[.slice A1 H.length c1, .slice A2 Wt.length c2, .slice A3 D.length c3] (by decide))
  have R1 := Lib.hid r1
  have R2 := Lib.hid r2
  clear h r1 r2
  go_enter Try.func12, Try.ntmps12
  go_upto_region 1 with fail
  generalize hw0 : w.alloc (.cells #[.slice A1 H.length c1, .slice A2 Wt.length c2, .slice A3 D.length c3] 28) = wr at *
  clear hw0
  have HH := Lib.hid (fun y (h : Pd W y ((w.heap.size, 28, #[.slice A1 H.length c1, .slice A2 Wt.length c2, .slice A3 D.length c3]) :: L) g s p (.slice A1 H.length c1) (.slice A2 Wt.length c2) (.slice A3 D.length c3) H Wt D n) => pdholds k hk h (by omega))
  have HWT := Lib.hid (fun y (h : Pd W y ((w.heap.size, 28, #[.slice A1 H.length c1, .slice A2 Wt.length c2, .slice A3 D.length c3]) :: L) g s p (.slice A1 H.length c1) (.slice A2 Wt.length c2) (.slice A3 D.length c3) H Wt D n) => pdwaits k hk h (by omega))
  have HO1 := Lib.hid (fun y (h : Pd W y ((w.heap.size, 28, #[.slice A1 H.length c1, .slice A2 Wt.length c2, .slice A3 D.length c3]) :: L) g s p (.slice A1 H.length c1) (.slice A2 Wt.length c2) (.slice A3 D.length c3) H Wt D n) => rof_rel A1 c1 H s.h R1.out k y (Sees.own h.t.hh) hl)
  have HO2 := Lib.hid (fun y (h : Pd W y ((w.heap.size, 28, #[.slice A1 H.length c1, .slice A2 Wt.length c2, .slice A3 D.length c3]) :: L) g s p (.slice A1 H.length c1) (.slice A2 Wt.length c2) (.slice A3 D.length c3) H Wt D n) => rof_rel A2 c2 Wt s.w R2.out k y (Sees.own h.t.hw) hl2)
  have HS1 : Hid ((supp (s.h k)).length ≤ 9223372036854775807) := Lib.hid (by
    have e := of_len R1.out k
    have h1 : (ofR H k).length ≤ H.length := by unfold ofR; rw [List.length_map]; exact List.length_filter_le _ _
    omega)
  have HS2 : Hid ((supp (s.w k)).length ≤ 9223372036854775807) := Lib.hid (by
    have e := of_len R2.out k
    have h1 : (ofR Wt k).length ≤ Wt.length := by unfold ofR; rw [List.length_map]; exact List.length_filter_le _ _
    omega)
  clear R1 R2
  generalize supp (s.h k) = S1 at *
  generalize supp (s.w k) = S2 at *
  generalize fl (s.h k) = f1 at *
  generalize fl (s.w k) = f2 at *
  refine Iv.region (fun f aa y => ∃ Aa ca Ab cb Ac cc Ad cd, aa = ⟨#[ptr g, .agg #[.slice A1 H.length c1, .slice A2 Wt.length c2, .slice A3 D.length c3], .int .i64 k, undef, .pointer (some ⟨w.heap.size, 0, none⟩), undef, so (f 18) (.bool true) (.bool false), so (f 0) (ptr g) (undef), so (f 1) (.int .i64 k) (undef), so (f 2) (.slice Aa S1.length ca) (undef), so (f 3) (.pointer (some ⟨w.heap.size, 0, none⟩)) (undef), so (f 4) (.slice A1 H.length c1) (undef), so (f 5) (.int .i64 k) (undef), so (f 6) (.slice Ab S1.length cb) (undef), so (f 7) (.bool true) (undef), so (f 8) (.bool true) (undef), so (f 9) (ptr g) (undef), so (f 10) (.int .i64 k) (undef), so (f 11) (.slice Ac S2.length cc) (undef), so (f 12) (.pointer (some ⟨w.heap.size, 1, none⟩)) (undef), so (f 13) (.slice A2 Wt.length c2) (undef), so (f 14) (.int .i64 k) (undef), so (f 15) (.slice Ad S2.length cd) (undef), so (f 16) (.bool true) (undef), so (f 17) (.bool true) (undef)], []⟩ ∧ H4 wr y S1 S2 f1 f2 Aa ca Ab cb Ac cc Ad cd (f 2) (f 6) (f 11) (f 15)) (by kernel_rfl) (by kernel_rfl) ?_ ?_ ?_
  · exact ⟨none, 0, none, 0, none, 0, none, 0, rfl, H4.start wr (drew_below wr 1)⟩
  · refine ⟨?_, ?_, ?_, ?_, ?_, ?_, ?_, ?_, ?_, ?_, ?_, ?_, ?_, ?_, ?_, ?_, ?_, ?_, ?_, trivial⟩
    · rintro f a0 y Q' ⟨Aa, ca, Ab, cb, Ac, cc, Ad, cd, rfl, hw⟩ hi hd hQ
      replace hQ := Lib.hid hQ
      simp [Iv.depsB, Region.binds] at hd
      try simp only [hi, hd, sl_true, sl_false, so_true, so_false]
      try simp only [hi, sl_true, sl_false, so_true, so_false]
      go_wp2_with fail
      refine hQ.out _ _ ⟨Aa, ca, Ab, cb, Ac, cc, Ad, cd, ?_, ?_⟩
      · simp [Iv.upd, hi, hd, sl_true, sl_false, so_true, so_false]
      · simpa [Iv.upd, hi, hd] using hw
    · rintro f a0 y Q' ⟨Aa, ca, Ab, cb, Ac, cc, Ad, cd, rfl, hw⟩ hi hd hQ
      replace hQ := Lib.hid hQ
      simp [Iv.depsB, Region.binds] at hd
      try simp only [hi, hd, sl_true, sl_false, so_true, so_false]
      try simp only [hi, sl_true, sl_false, so_true, so_false]
      go_wp2_with fail
      refine hQ.out _ _ ⟨Aa, ca, Ab, cb, Ac, cc, Ad, cd, ?_, ?_⟩
      · simp [Iv.upd, hi, hd, sl_true, sl_false, so_true, so_false]
      · simpa [Iv.upd, hi, hd] using hw
    · rintro f a0 y Q' ⟨Aa, ca, Ab, cb, Ac, cc, Ad, cd, rfl, hw⟩ hi hd hQ
      replace hQ := Lib.hid hQ
      simp [Iv.depsB, Region.binds] at hd
      try simp only [hi, hd, sl_true, sl_false, so_true, so_false]
      try simp only [hi, sl_true, sl_false, so_true, so_false]
      have HQW := Lib.hid hw
      rw [hi] at HQW
      clear hw
      go_wp2_with fail
      refine (HH.out y (HP.out.call HQW.out.bel)).mono ?_
      rintro e y1 ⟨A9, cap9, rfl, hb, ho⟩
      have HN := Lib.hid (HQW.out.row1 hb (Sees.own ho) (own_room ho))
      clear hb ho
      go_wp2_with fail
      refine hQ.out _ _ ⟨A9, cap9, Ab, cb, Ac, cc, Ad, cd, ?_, ?_⟩
      · simp [Iv.upd, hi, hd, sl_true, sl_false, so_true, so_false]
      · simpa [Iv.upd, hi, hd] using HN.out
    · rintro f a0 y Q' ⟨Aa, ca, Ab, cb, Ac, cc, Ad, cd, rfl, hw⟩ hi hd hQ
      replace hQ := Lib.hid hQ
      simp [Iv.depsB, Region.binds] at hd
      try simp only [hi, hd, sl_true, sl_false, so_true, so_false]
      try simp only [hi, sl_true, sl_false, so_true, so_false]
      go_wp2_with fail
      refine hQ.out _ _ ⟨Aa, ca, Ab, cb, Ac, cc, Ad, cd, ?_, ?_⟩
      · simp [Iv.upd, hi, hd, sl_true, sl_false, so_true, so_false]
      · simpa [Iv.upd, hi, hd] using hw
    · rintro f a0 y Q' ⟨Aa, ca, Ab, cb, Ac, cc, Ad, cd, rfl, hw⟩ hi hd hQ
      replace hQ := Lib.hid hQ
      simp [Iv.depsB, Region.binds] at hd
      try simp only [hi, hd, sl_true, sl_false, so_true, so_false]
      try simp only [hi, sl_true, sl_false, so_true, so_false]
      have kx := (HP.out.call hw.bel).t.st.knows.at 0 rfl
      have t0 := kx.cell 0
      have t1 := kx.cell 1
      have tz := kx.lt
      simp only [List.getElem?_toArray, List.getElem?_cons_zero, List.getElem?_cons_succ] at t0 t1
      clear kx
      go_wp2_with fail
      refine hQ.out _ _ ⟨Aa, ca, Ab, cb, Ac, cc, Ad, cd, ?_, ?_⟩
      · simp [Iv.upd, hi, hd, sl_true, sl_false, so_true, so_false]
      · simpa [Iv.upd, hi, hd] using hw
    · rintro f a0 y Q' ⟨Aa, ca, Ab, cb, Ac, cc, Ad, cd, rfl, hw⟩ hi hd hQ
      replace hQ := Lib.hid hQ
      simp [Iv.depsB, Region.binds] at hd
      try simp only [hi, hd, sl_true, sl_false, so_true, so_false]
      try simp only [hi, sl_true, sl_false, so_true, so_false]
      go_wp2_with fail
      refine hQ.out _ _ ⟨Aa, ca, Ab, cb, Ac, cc, Ad, cd, ?_, ?_⟩
      · simp [Iv.upd, hi, hd, sl_true, sl_false, so_true, so_false]
      · simpa [Iv.upd, hi, hd] using hw
    · rintro f a0 y Q' ⟨Aa, ca, Ab, cb, Ac, cc, Ad, cd, rfl, hw⟩ hi hd hQ
      replace hQ := Lib.hid hQ
      simp [Iv.depsB, Region.binds] at hd
      try simp only [hi, hd, sl_true, sl_false, so_true, so_false]
      try simp only [hi, sl_true, sl_false, so_true, so_false]
      have HQW := Lib.hid hw
      rw [hi] at HQW
      clear hw
      go_wp2_with fail
      refine (HO1.out y (HP.out.call HQW.out.bel)).mono ?_
      rintro e y1 ⟨A9, cap9, rfl, hb, ho⟩
      have HN := Lib.hid (HQW.out.row2 hb (Sees.own ho) (own_room ho))
      clear hb ho
      go_wp2_with fail
      refine hQ.out _ _ ⟨Aa, ca, A9, cap9, Ac, cc, Ad, cd, ?_, ?_⟩
      · simp [Iv.upd, hi, hd, sl_true, sl_false, so_true, so_false]
      · simpa [Iv.upd, hi, hd] using HN.out
    · rintro f a0 y Q' ⟨Aa, ca, Ab, cb, Ac, cc, Ad, cd, rfl, hw⟩ hi hd hQ
      replace hQ := Lib.hid hQ
      simp [Iv.depsB, Region.binds] at hd
      try simp only [hi, hd, sl_true, sl_false, so_true, so_false]
      try simp only [hi, sl_true, sl_false, so_true, so_false]
      have e2 : f 2 = true := by simp [hd]
      have e6 : f 6 = true := by simp [hd]
      have HQW := Lib.hid hw
      clear hw
      try simp only [e2, e6, so_true, so_false]
      go_wp2_with fail
      refine (rholds_any Aa ca Ab cb f1 S1 y (HQW.out.h1 e2).1 (HQW.out.h2 e6).1 (HQW.out.h1 e2).2 (HQW.out.h2 e6).2 HS1.out).mono ?_
      rintro e y1 ⟨rfl, hb⟩
      have HN := Lib.hid (HQW.out.call hb)
      clear hb
      go_wp2_with fail
      refine hQ.out _ _ ⟨Aa, ca, Ab, cb, Ac, cc, Ad, cd, ?_, ?_⟩
      · simp [Iv.upd, hi, hd, sl_true, sl_false, so_true, so_false, e2, e6]
      · simpa [Iv.upd, hi, hd, e2, e6] using HN.out
    · rintro f a0 y Q' ⟨Aa, ca, Ab, cb, Ac, cc, Ad, cd, rfl, hw⟩ hi hd hQ
      replace hQ := Lib.hid hQ
      simp [Iv.depsB, Region.binds] at hd
      try simp only [hi, hd, sl_true, sl_false, so_true, so_false]
      try simp only [hi, sl_true, sl_false, so_true, so_false]
      go_wp2_with fail
      refine hQ.out _ _ ⟨Aa, ca, Ab, cb, Ac, cc, Ad, cd, ?_, ?_⟩
      · simp [Iv.upd, hi, hd, sl_true, sl_false, so_true, so_false]
      · simpa [Iv.upd, hi, hd] using hw
    · rintro f a0 y Q' ⟨Aa, ca, Ab, cb, Ac, cc, Ad, cd, rfl, hw⟩ hi hd hQ
      replace hQ := Lib.hid hQ
      simp [Iv.depsB, Region.binds] at hd
      try simp only [hi, hd, sl_true, sl_false, so_true, so_false]
      try simp only [hi, sl_true, sl_false, so_true, so_false]
      go_wp2_with fail
      refine hQ.out _ _ ⟨Aa, ca, Ab, cb, Ac, cc, Ad, cd, ?_, ?_⟩
      · simp [Iv.upd, hi, hd, sl_true, sl_false, so_true, so_false]
      · simpa [Iv.upd, hi, hd] using hw
    · rintro f a0 y Q' ⟨Aa, ca, Ab, cb, Ac, cc, Ad, cd, rfl, hw⟩ hi hd hQ
      replace hQ := Lib.hid hQ
      simp [Iv.depsB, Region.binds] at hd
      try simp only [hi, hd, sl_true, sl_false, so_true, so_false]
      try simp only [hi, sl_true, sl_false, so_true, so_false]
      go_wp2_with fail
      refine hQ.out _ _ ⟨Aa, ca, Ab, cb, Ac, cc, Ad, cd, ?_, ?_⟩
      · simp [Iv.upd, hi, hd, sl_true, sl_false, so_true, so_false]
      · simpa [Iv.upd, hi, hd] using hw
    · rintro f a0 y Q' ⟨Aa, ca, Ab, cb, Ac, cc, Ad, cd, rfl, hw⟩ hi hd hQ
      replace hQ := Lib.hid hQ
      simp [Iv.depsB, Region.binds] at hd
      try simp only [hi, hd, sl_true, sl_false, so_true, so_false]
      try simp only [hi, sl_true, sl_false, so_true, so_false]
      have HQW := Lib.hid hw
      rw [hi] at HQW
      clear hw
      go_wp2_with fail
      refine (HWT.out y (HP.out.call HQW.out.bel)).mono ?_
      rintro e y1 ⟨A9, cap9, rfl, hb, ho⟩
      have HN := Lib.hid (HQW.out.row3 hb (Sees.own ho) (own_room ho))
      clear hb ho
      go_wp2_with fail
      refine hQ.out _ _ ⟨Aa, ca, Ab, cb, A9, cap9, Ad, cd, ?_, ?_⟩
      · simp [Iv.upd, hi, hd, sl_true, sl_false, so_true, so_false]
      · simpa [Iv.upd, hi, hd] using HN.out
    · rintro f a0 y Q' ⟨Aa, ca, Ab, cb, Ac, cc, Ad, cd, rfl, hw⟩ hi hd hQ
      replace hQ := Lib.hid hQ
      simp [Iv.depsB, Region.binds] at hd
      try simp only [hi, hd, sl_true, sl_false, so_true, so_false]
      try simp only [hi, sl_true, sl_false, so_true, so_false]
      go_wp2_with fail
      refine hQ.out _ _ ⟨Aa, ca, Ab, cb, Ac, cc, Ad, cd, ?_, ?_⟩
      · simp [Iv.upd, hi, hd, sl_true, sl_false, so_true, so_false]
      · simpa [Iv.upd, hi, hd] using hw
    · rintro f a0 y Q' ⟨Aa, ca, Ab, cb, Ac, cc, Ad, cd, rfl, hw⟩ hi hd hQ
      replace hQ := Lib.hid hQ
      simp [Iv.depsB, Region.binds] at hd
      try simp only [hi, hd, sl_true, sl_false, so_true, so_false]
      try simp only [hi, sl_true, sl_false, so_true, so_false]
      have kx := (HP.out.call hw.bel).t.st.knows.at 0 rfl
      have t0 := kx.cell 0
      have t1 := kx.cell 1
      have tz := kx.lt
      simp only [List.getElem?_toArray, List.getElem?_cons_zero, List.getElem?_cons_succ] at t0 t1
      clear kx
      go_wp2_with fail
      refine hQ.out _ _ ⟨Aa, ca, Ab, cb, Ac, cc, Ad, cd, ?_, ?_⟩
      · simp [Iv.upd, hi, hd, sl_true, sl_false, so_true, so_false]
      · simpa [Iv.upd, hi, hd] using hw
    · rintro f a0 y Q' ⟨Aa, ca, Ab, cb, Ac, cc, Ad, cd, rfl, hw⟩ hi hd hQ
      replace hQ := Lib.hid hQ
      simp [Iv.depsB, Region.binds] at hd
      try simp only [hi, hd, sl_true, sl_false, so_true, so_false]
      try simp only [hi, sl_true, sl_false, so_true, so_false]
      go_wp2_with fail
      refine hQ.out _ _ ⟨Aa, ca, Ab, cb, Ac, cc, Ad, cd, ?_, ?_⟩
      · simp [Iv.upd, hi, hd, sl_true, sl_false, so_true, so_false]
      · simpa [Iv.upd, hi, hd] using hw
    · rintro f a0 y Q' ⟨Aa, ca, Ab, cb, Ac, cc, Ad, cd, rfl, hw⟩ hi hd hQ
      replace hQ := Lib.hid hQ
      simp [Iv.depsB, Region.binds] at hd
      try simp only [hi, hd, sl_true, sl_false, so_true, so_false]
      try simp only [hi, sl_true, sl_false, so_true, so_false]
      have HQW := Lib.hid hw
      rw [hi] at HQW
      clear hw
      go_wp2_with fail
      refine (HO2.out y (HP.out.call HQW.out.bel)).mono ?_
      rintro e y1 ⟨A9, cap9, rfl, hb, ho⟩
      have HN := Lib.hid (HQW.out.row4 hb (Sees.own ho) (own_room ho))
      clear hb ho
      go_wp2_with fail
      refine hQ.out _ _ ⟨Aa, ca, Ab, cb, Ac, cc, A9, cap9, ?_, ?_⟩
      · simp [Iv.upd, hi, hd, sl_true, sl_false, so_true, so_false]
      · simpa [Iv.upd, hi, hd] using HN.out
    · rintro f a0 y Q' ⟨Aa, ca, Ab, cb, Ac, cc, Ad, cd, rfl, hw⟩ hi hd hQ
      replace hQ := Lib.hid hQ
      simp [Iv.depsB, Region.binds] at hd
      try simp only [hi, hd, sl_true, sl_false, so_true, so_false]
      try simp only [hi, sl_true, sl_false, so_true, so_false]
      have e11 : f 11 = true := by simp [hd]
      have e15 : f 15 = true := by simp [hd]
      have HQW := Lib.hid hw
      clear hw
      try simp only [e11, e15, so_true, so_false]
      go_wp2_with fail
      refine (rholds_any Ac cc Ad cd f2 S2 y (HQW.out.h3 e11).1 (HQW.out.h4 e15).1 (HQW.out.h3 e11).2 (HQW.out.h4 e15).2 HS2.out).mono ?_
      rintro e y1 ⟨rfl, hb⟩
      have HN := Lib.hid (HQW.out.call hb)
      clear hb
      go_wp2_with fail
      refine hQ.out _ _ ⟨Aa, ca, Ab, cb, Ac, cc, Ad, cd, ?_, ?_⟩
      · simp [Iv.upd, hi, hd, sl_true, sl_false, so_true, so_false, e11, e15]
      · simpa [Iv.upd, hi, hd, e11, e15] using HN.out
    · rintro f a0 y Q' ⟨Aa, ca, Ab, cb, Ac, cc, Ad, cd, rfl, hw⟩ hi hd hQ
      replace hQ := Lib.hid hQ
      simp [Iv.depsB, Region.binds] at hd
      try simp only [hi, hd, sl_true, sl_false, so_true, so_false]
      try simp only [hi, sl_true, sl_false, so_true, so_false]
      go_wp2_with fail
      refine hQ.out _ _ ⟨Aa, ca, Ab, cb, Ac, cc, Ad, cd, ?_, ?_⟩
      · simp [Iv.upd, hi, hd, sl_true, sl_false, so_true, so_false]
      · simpa [Iv.upd, hi, hd] using hw
    · rintro f a0 y Q' ⟨Aa, ca, Ab, cb, Ac, cc, Ad, cd, rfl, hw⟩ hi hd hQ
      replace hQ := Lib.hid hQ
      simp [Iv.depsB, Region.binds] at hd
      try simp only [hi, hd, sl_true, sl_false, so_true, so_false]
      try simp only [hi, sl_true, sl_false, so_true, so_false]
      go_wp2_with fail
      refine hQ.out _ _ ⟨Aa, ca, Ab, cb, Ac, cc, Ad, cd, ?_, ?_⟩
      · simp [Iv.upd, hi, hd, sl_true, sl_false, so_true, so_false]
      · simpa [Iv.upd, hi, hd] using hw
  · rintro f a0 wz ⟨Aa, ca, Ab, cb, Ac, cc, Ad, cd, rfl, hw⟩ hall
    simp only [hall 0 (by decide), hall 1 (by decide), hall 2 (by decide), hall 3 (by decide), hall 4 (by decide), hall 5 (by decide), hall 6 (by decide), hall 7 (by decide), hall 8 (by decide), hall 9 (by decide), hall 10 (by decide), hall 11 (by decide), hall 12 (by decide), hall 13 (by decide), hall 14 (by decide), hall 15 (by decide), hall 16 (by decide), hall 17 (by decide), hall 18 (by decide), sl_true, ↓reduceIte, so_true, so_false] at hw ⊢
    clear hall
    have HBZ := Lib.hid (HAL.out.trans (hw.bel.mono HAL.out.size))
    clear hw
    go_wp2_with fail
    go_ret
    exact ⟨rfl, HBZ.out⟩
end Go.Proofs.Ytcjefigcaifmeaa
