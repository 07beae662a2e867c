/- Whatever is put, closed, asked and pruned, a store answers as the document says, and has what it says; for every input, without conditions (of more calls the first 30 are made). -/
import Derived.Test.YtcpcepbjdohdmaaStoY
namespace Go.Proofs.Ytcpcepbjdohdmaa.storePlays
open Go.ChangeShapes Go.WideShapes Go.ChangeAt Go.RowKit Go.Cn Go.So
set_option linter.unusedVariables false
set_option linter.unusedSimpArgs false

theorem run_field_opS (a b c v : Value) (x : World) : (Instr.field 33 (.agg #[a, b, c, v]) 3).run Try.prog x = .ok v x := by kernel_rfl
theorem four_cells {w : World} {A : Option Addr} {l : List Op12} {b off : Nat} (h : Sees w w.heap.size 4 A l.length (flat encO l)) (hA : A = some ⟨b, off, none⟩) (k : Nat) (v : Op12) (hv : l[k]? = some v) :
    w.cell? ⟨b, off + k * 4, none⟩ = some (.int .i64 v.k) ∧ w.cell? ⟨b, off + k * 4 + 1, none⟩ = some (.int .i64 v.key) ∧ w.cell? ⟨b, off + k * 4 + 2, none⟩ = some (.int .i64 v.t) ∧ w.cell? ⟨b, off + k * 4 + 3, none⟩ = some (.slice v.A v.l.length v.cap) := by
  obtain ⟨b0, o0, h1, -, hc⟩ := h.item encO_len (by have := (List.getElem?_eq_some_iff.1 hv).1; omega) k v hv
  rw [hA] at h1
  injection h1 with h1
  injection h1 with e1 e2
  subst e1 e2
  exact ⟨hc 0 _ rfl, hc 1 _ rfl, hc 2 _ rfl, hc 3 _ rfl⟩
set_option maxHeartbeats 64000000 in
set_option maxRecDepth 100000 in
theorem walk (A : Option Addr) (len cap : Nat) (l : List Op12) (w : World) (hL : IsR w A len cap 4 encO (GO w) l) :
    Calls Try.prog 3 #[.slice A len cap] w fun r w' => r = .returned (.bool true) ∧ Below w.heap.size w w' := by
  obtain ⟨hlen, hs, hc1, hc2, hnil, hg⟩ := hL
  subst hlen
  have HS := Lib.hid hs
  have HGO := Lib.hid hg
  clear hs hg hnil
  obtain ⟨g, hgg⟩ : ∃ g, g = w.heap.size + 1 := ⟨_, rfl⟩
  have HNW := Lib.hid (snew_at w g hgg)
  clear hgg
  go_enter Try.func3, Try.ntmps3
  go_wp2_with fail
  refine HNW.out.mono ?_
  rintro r w1 ⟨rfl, hp⟩
  have H0 : Hid (Go12 w w1 [] g newS ⟨[], 0, 0⟩ none 0) := Lib.hid ⟨hp.less (fun b hb => by obtain ⟨a, ha, -⟩ := hb; cases ha), Dv.none _, Rel.new, Late.new⟩
  obtain ⟨mb, hmb⟩ : ∃ mb, mb = w1.heap.size := ⟨_, rfl⟩
  have H := Lib.hid (H0.out.alloc mb hmb 27 #[.slice none 0 0, .int .i64 0, .int .i64 0])
  have hwm : w.heap.size ≤ mb := by have := hp.st.below.size; omega
  clear hp H0 HNW
  go_wp2_with fail
  rw [← hmb]
  clear hmb
  refine (awake_any _).mono ?_
  rintro r w2 ⟨rfl, hb1⟩
  replace H := Lib.hid (H.out.call hb1)
  clear hb1
  go_wp2_with fail
  go_loopw [5] (fun i wr => ∃ (n : Nat) (s : Sto) (d : Ds) (Ar : Option Addr) (cr : Nat), n ≤ l.length ∧ n ≤ 30 ∧ i = .int .i64 (n : Int) ∧ Go12 w wr [(mb, 27, #[.slice Ar d.l.length cr, .int .i64 d.closed, .int .i64 d.mark])] g s d Ar cr ∧ d.l.length ≤ n * 120) (fun i _ => l.length - (intOf i).toNat)
  case atStart => exact ⟨0, newS, ⟨[], 0, 0⟩, none, 0, by omega, by omega, rfl, H.out, by simp⟩
  case round =>
    obtain ⟨n, s, d, Ar, cr, hn1, hn2, rfl, hp, hdl⟩ := hrel
    have HP := Lib.hid hp
    clear hp H
    by_cases hlt : n < l.length ∧ n < 30
    · obtain ⟨h1, h2⟩ := hlt
      obtain ⟨o, ho⟩ : ∃ o, l[n]? = some o := ⟨_, List.getElem?_eq_getElem h1⟩
      obtain ⟨b0, off, hA, hb, hcc⟩ := (HS.out.below HP.out.ps.st.below).item encO_len (by omega) n o ho
      have HO := Lib.hid ho
      have HOO := Lib.hid (HGO.out o (List.mem_of_getElem? ho))
      have HFW := Lib.hid HOO.out.few
      have HFE := Lib.hid (fun w0 => few_any o w0 HOO.out.row.room HOO.out.row.top)
      have HF2 : Hid (aggO (few12 o) = .agg #[.int .i64 o.k, .int .i64 o.key, .int .i64 o.t, .slice o.A (few12 o).l.length o.cap]) := Lib.hid rfl
      have hfl : (few12 o).l.length ≤ 120 := by rw [few12_len]; omega
      have HER : Hid (Er w o.A o.cap (few12 o).l) := Lib.hid HFW.out.row
      have HKY := Lib.hid HOO.out.key
      have HNL := Lib.hid HOO.out.nil
      rw [HF2.out] at HFE
      have HCE := Lib.hid (fun y (hy : Below w.heap.size w y) => four_cells ((HS.out.below hy).more hy.size) hA n o HO.out)
      subst hA
      clear ho hb hcc HOO HFW HF2 HO
      generalize (few12 o).l = fl at *
      obtain ⟨k, key, t, Ao, co, lo⟩ := o
      simp only at HFE HER HKY HNL HCE
      have HD := Lib.hid (fun y M (h : Go12 w y M g s d Ar cr) => does_any k key t Ao co fl h (by omega) HER.out hfl HNL.out)
      have i1 : (n : Int) < (l.length : Int) := by omega
      have i2 : (n : Int) < 30 := by omega
      go_wp2_with fail
      refine Iv.region (fun f aa y => ∃ p A2 cap2 d2 s2, aa = ⟨#[Value.slice (some { block := b0, off := off }) l.length cap, undef, u2, ptr g, Value.pointer (some { block := mb, off := 0 }), Value.int IntKind.i64 ↑n, so (f 11) (.pointer (some ⟨p, 0, none⟩)) u6, so (f 13) (.bool true) u7, u8, u9, u10, u11, undef, undef, undef, undef, ptr g, Value.agg #[Value.slice none 0 0, Value.int IntKind.i64 0, Value.int IntKind.i64 0], Value.bool true, Value.bool false, Value.bool false, ptr g, Value.bool false, Value.bool false, Value.int IntKind.i64 ↑n, Value.slice (some { block := b0, off := off }) l.length cap, Value.int IntKind.i64 ↑l.length, Value.bool true, Value.bool true, Value.int IntKind.i64 ↑n, Value.bool true, Value.bool true, u32, u33, so (f 8) (.tuple #[.agg #[.slice A2 d2.l.length cap2, .int .i64 d2.closed, .int .i64 d2.mark], .bool true]) u34, so (f 0) (ptr g) u35, so (f 1) (.agg #[.slice Ar d.l.length cr, .int .i64 d.closed, .int .i64 d.mark]) u36, so (f 2) (.slice (some ⟨b0, off, none⟩) l.length cap) u37, so (f 3) (.int .i64 (n : Int)) u38, so (f 4) (.pointer (some ⟨b0, off + n * 4, none⟩)) u39, so (f 5) (.agg #[.int .i64 k, .int .i64 key, .int .i64 t, .slice Ao lo.length co]) u40, so (f 6) (.agg #[.int .i64 k, .int .i64 key, .int .i64 t, .slice Ao fl.length co]) u41, so (f 7) (.tuple #[.agg #[.slice A2 d2.l.length cap2, .int .i64 d2.closed, .int .i64 d2.mark], .bool true]) u42, so (f 9) (.agg #[.slice A2 d2.l.length cap2, .int .i64 d2.closed, .int .i64 d2.mark]) u43, so (f 10) (.bool true) u44, u45, u46, u47, u48, u49, u50, u51, u52, u53, u54, u55, u56, u57, u58, u59, u60, u61, u62, u63, u64, u65, u66, u67, u68, u69, u70, u71, u72, u73, u74, u75, u76, u77, u78, u79, u80, u81, u82, u83, u84, u85, u86, u87, u88, u89, u90, u91, u92, u93, u94, u95, u96, u97, u98, u99, undef, undef, undef, undef, undef, undef, undef, undef, undef, undef, undef, undef, undef, undef, undef, undef, undef, undef, undef, undef, undef, undef], []⟩ ∧ Dn12 w y [(mb, 27, #[.slice Ar d.l.length cr, .int .i64 d.closed, .int .i64 d.mark])] g s s2 d d2 Ar A2 cr cap2 p (f 7) (f 11) (f 12) ∧ (f 8 = true → f 7 = true) ∧ (f 9 = true → f 7 = true)) (by kernel_rfl) (by kernel_rfl) ?_ ?_ ?_
      · exact ⟨0, none, 0, d, s, rfl, Dn12.start (HP.out.drewN 1) s d none 0 0, (fun h => by cases h), (fun h => by cases h)⟩
      · refine ⟨?_, ?_, ?_, ?_, ?_, ?_, ?_, ?_, ?_, ?_, ?_, ?_, ?_, ?_, trivial⟩
        · rintro f a0 y Q' ⟨p, A2, cap2, d2, s2, rfl, hw⟩ hi hd hQ
          replace hQ := Lib.hid hQ
          simp [Iv.depsB, Region.binds] at hd
          try simp only [hi, hd, sl_true, sl_false, so_true, so_false]
          try simp only [hi, sl_true, sl_false, so_true, so_false]
          go_wp2_with fail
          refine hQ.out _ _ ⟨p, A2, cap2, d2, s2, ?_, ?_⟩
          · simp [Iv.upd, hi, hd, sl_true, sl_false, so_true, so_false]
          · simpa [Iv.upd, hi, hd] using hw
        · rintro f a0 y Q' ⟨p, A2, cap2, d2, s2, rfl, hw⟩ hi hd hQ
          replace hQ := Lib.hid hQ
          simp [Iv.depsB, Region.binds] at hd
          try simp only [hi, hd, sl_true, sl_false, so_true, so_false]
          try simp only [hi, sl_true, sl_false, so_true, so_false]
          obtain ⟨m0, m1, m2, mf0, mf1, mf2, ml⟩ := (hw.1.reads fun h => (hw.1.ord h).1).2.three3 0 mb rfl
          go_wp2_with fail
          refine hQ.out _ _ ⟨p, A2, cap2, d2, s2, ?_, ?_⟩
          · simp [Iv.upd, hi, hd, sl_true, sl_false, so_true, so_false]
          · simpa [Iv.upd, hi, hd] using hw
        · rintro f a0 y Q' ⟨p, A2, cap2, d2, s2, rfl, hw⟩ hi hd hQ
          replace hQ := Lib.hid hQ
          simp [Iv.depsB, Region.binds] at hd
          try simp only [hi, hd, sl_true, sl_false, so_true, so_false]
          try simp only [hi, sl_true, sl_false, so_true, so_false]
          go_wp2_with fail
          refine hQ.out _ _ ⟨p, A2, cap2, d2, s2, ?_, ?_⟩
          · simp [Iv.upd, hi, hd, sl_true, sl_false, so_true, so_false]
          · simpa [Iv.upd, hi, hd] using hw
        · rintro f a0 y Q' ⟨p, A2, cap2, d2, s2, rfl, hw⟩ hi hd hQ
          replace hQ := Lib.hid hQ
          simp [Iv.depsB, Region.binds] at hd
          try simp only [hi, hd, sl_true, sl_false, so_true, so_false]
          try simp only [hi, sl_true, sl_false, so_true, so_false]
          go_wp2_with fail
          refine hQ.out _ _ ⟨p, A2, cap2, d2, s2, ?_, ?_⟩
          · simp [Iv.upd, hi, hd, sl_true, sl_false, so_true, so_false]
          · simpa [Iv.upd, hi, hd] using hw
        · rintro f a0 y Q' ⟨p, A2, cap2, d2, s2, rfl, hw⟩ hi hd hQ
          replace hQ := Lib.hid hQ
          simp [Iv.depsB, Region.binds] at hd
          try simp only [hi, hd, sl_true, sl_false, so_true, so_false]
          try simp only [hi, sl_true, sl_false, so_true, so_false]
          go_wp2_with fail
          refine hQ.out _ _ ⟨p, A2, cap2, d2, s2, ?_, ?_⟩
          · simp [Iv.upd, hi, hd, sl_true, sl_false, so_true, so_false]
          · simpa [Iv.upd, hi, hd] using hw
        · rintro f a0 y Q' ⟨p, A2, cap2, d2, s2, rfl, hw⟩ hi hd hQ
          replace hQ := Lib.hid hQ
          simp [Iv.depsB, Region.binds] at hd
          try simp only [hi, hd, sl_true, sl_false, so_true, so_false]
          try simp only [hi, sl_true, sl_false, so_true, so_false]
          obtain ⟨o0, o1, o2, o3⟩ := HCE.out y (hw.1.reads fun h => (hw.1.ord h).1).1
          go_wp2_with fail
          refine hQ.out _ _ ⟨p, A2, cap2, d2, s2, ?_, ?_⟩
          · simp [Iv.upd, hi, hd, sl_true, sl_false, so_true, so_false]
          · simpa [Iv.upd, hi, hd] using hw
        · rintro f a0 y Q' ⟨p, A2, cap2, d2, s2, rfl, hw⟩ hi hd hQ
          replace hQ := Lib.hid hQ
          simp [Iv.depsB, Region.binds] at hd
          try simp only [hi, hd, sl_true, sl_false, so_true, so_false]
          try simp only [hi, sl_true, sl_false, so_true, so_false]
          have e5 : f 5 = true := by simp [hd]
          have HW := Lib.hid hw
          clear hw
          go_wp2_with fail
          refine (HFE.out y).mono ?_
          rintro e y1 ⟨rfl, hb⟩
          have HN := Lib.hid (show _ ∧ _ from ⟨HW.out.1.call hb, HW.out.2⟩)
          clear hb
          go_wp2_with fail
          refine hQ.out _ _ ⟨p, A2, cap2, d2, s2, ?_, ?_⟩
          · simp [Iv.upd, hi, hd, sl_true, sl_false, so_true, so_false, e5]
          · simpa [Iv.upd, hi, hd, e5] using HN.out
        · rintro f a0 y Q' ⟨p, A2, cap2, d2, s2, rfl, hw⟩ hi hd hQ
          replace hQ := Lib.hid hQ
          simp [Iv.depsB, Region.binds] at hd
          try simp only [hi, hd, sl_true, sl_false, so_true, so_false]
          try simp only [hi, sl_true, sl_false, so_true, so_false]
          have ea : f 0 = true := by simp [hd]
          have eb : f 1 = true := by simp [hd]
          have ec : f 6 = true := by simp [hd]
          have e8 : f 8 = false := by
            cases e : f 8 with
            | false => rfl
            | true => have h7 := hw.2.1 e; rw [hi] at h7; cases h7
          have e9 : f 9 = false := by
            cases e : f 9 with
            | false => rfl
            | true => have h7 := hw.2.2 e; rw [hi] at h7; cases h7
          have hw2 := hw.1
          rw [hi] at hw2
          try simp only [ea, eb, ec, so_true, so_false]
          cases ep : f 11 with
          | false =>
            rw [ep] at hw2
            have HW2 := Lib.hid hw2
            clear hw2 hw
            go_wp2_with fail
            refine (HD.out y _ (HW2.out.p00 rfl rfl)).mono ?_
            rintro e y1 ⟨A3, cap3, d3, s3, rfl, hj, hj3⟩
            have HN := Lib.hid (HW2.out.called0 hj hj3)
            clear hj hj3
            go_wp2_with fail
            refine hQ.out _ _ ⟨p, A3, cap3, d3, s3, ?_, ?_⟩
            · simp [Iv.upd, hi, hd, ea, eb, ec, e8, e9, ep, sl_true, sl_false, so_true, so_false]
            · simpa [Iv.upd, hi, hd, e8, e9, ep] using HN.out
          | true =>
            rw [ep] at hw2
            have HW2 := Lib.hid hw2
            clear hw2 hw
            go_wp2_with fail
            refine (HD.out y _ (HW2.out.p01 rfl rfl)).mono ?_
            rintro e y1 ⟨A3, cap3, d3, s3, rfl, hj, hj3⟩
            have HN := Lib.hid (HW2.out.called1 hj hj3)
            clear hj hj3
            go_wp2_with fail
            refine hQ.out _ _ ⟨p, A3, cap3, d3, s3, ?_, ?_⟩
            · simp [Iv.upd, hi, hd, ea, eb, ec, e8, e9, ep, sl_true, sl_false, so_true, so_false]
            · simpa [Iv.upd, hi, hd, e8, e9, ep] using HN.out
        · rintro f a0 y Q' ⟨p, A2, cap2, d2, s2, rfl, hw⟩ hi hd hQ
          replace hQ := Lib.hid hQ
          simp [Iv.depsB, Region.binds] at hd
          try simp only [hi, hd, sl_true, sl_false, so_true, so_false]
          try simp only [hi, sl_true, sl_false, so_true, so_false]
          have e7 : f 7 = true := by simp [hd]
          go_wp2_with fail
          refine hQ.out _ _ ⟨p, A2, cap2, d2, s2, ?_, ?_⟩
          · simp [Iv.upd, hi, hd, sl_true, sl_false, so_true, so_false, e7]
          · simpa [Iv.upd, hi, hd, e7] using hw
        · rintro f a0 y Q' ⟨p, A2, cap2, d2, s2, rfl, hw⟩ hi hd hQ
          replace hQ := Lib.hid hQ
          simp [Iv.depsB, Region.binds] at hd
          try simp only [hi, hd, sl_true, sl_false, so_true, so_false]
          try simp only [hi, sl_true, sl_false, so_true, so_false]
          have e8 : f 8 = true := by simp [hd]
          have e7 : f 7 = true := hw.2.1 e8
          go_wp2_with fail
          refine hQ.out _ _ ⟨p, A2, cap2, d2, s2, ?_, ?_⟩
          · simp [Iv.upd, hi, hd, sl_true, sl_false, so_true, so_false, e8, e7]
          · simpa [Iv.upd, hi, hd, e8, e7] using hw
        · rintro f a0 y Q' ⟨p, A2, cap2, d2, s2, rfl, hw⟩ hi hd hQ
          replace hQ := Lib.hid hQ
          simp [Iv.depsB, Region.binds] at hd
          try simp only [hi, hd, sl_true, sl_false, so_true, so_false]
          try simp only [hi, sl_true, sl_false, so_true, so_false]
          have e8 : f 8 = true := by simp [hd]
          have e7 : f 7 = true := hw.2.1 e8
          go_wp2_with fail
          refine hQ.out _ _ ⟨p, A2, cap2, d2, s2, ?_, ?_⟩
          · simp [Iv.upd, hi, hd, sl_true, sl_false, so_true, so_false, e8, e7]
          · simpa [Iv.upd, hi, hd, e8, e7] using hw
        · rintro f a0 y Q' ⟨p, A2, cap2, d2, s2, rfl, hw⟩ hi hd hQ
          replace hQ := Lib.hid hQ
          simp [Iv.depsB, Region.binds] at hd
          try simp only [hi, hd, sl_true, sl_false, so_true, so_false]
          try simp only [hi, sl_true, sl_false, so_true, so_false]
          have hw2 := hw.1
          rw [hi] at hw2
          go_wp2_with fail
          refine hQ.out _ _ ⟨y.heap.size, A2, cap2, d2, s2, ?_, ?_⟩
          · simp [Iv.upd, hi, hd, sl_true, sl_false, so_true, so_false]
          · simpa [Iv.upd, hi, hd] using (show _ ∧ _ from ⟨hw2.made, hw.2⟩)
        · rintro f a0 y Q' ⟨p, A2, cap2, d2, s2, rfl, hw⟩ hi hd hQ
          replace hQ := Lib.hid hQ
          simp [Iv.depsB, Region.binds] at hd
          try simp only [hi, hd, sl_true, sl_false, so_true, so_false]
          try simp only [hi, sl_true, sl_false, so_true, so_false]
          have eb : f 9 = true := by simp [hd]
          have ea : f 7 = true := hw.2.2 eb
          have ec : f 11 = true := by simp [hd]
          have hw2 := hw.1
          rw [hi, ea, ec] at hw2
          obtain ⟨m0, m1, m2, mf0, mf1, mf2, ml⟩ := hw2.cells
          have HW2 := Lib.hid hw2
          have HWF := Lib.hid hw.2
          clear hw2
          try simp only [ea, eb, ec, so_true, so_false]
          go_wp2_with fail
          refine hQ.out _ _ ⟨p, A2, cap2, d2, s2, ?_, ?_⟩
          · simp [Iv.upd, hi, hd, sl_true, sl_false, so_true, so_false, ea, eb, ec]
          · simpa [Iv.upd, hi, hd, ea, eb, ec] using (show _ ∧ _ from ⟨HW2.out.told, HWF.out⟩)
        · rintro f a0 y Q' ⟨p, A2, cap2, d2, s2, rfl, hw⟩ hi hd hQ
          replace hQ := Lib.hid hQ
          simp [Iv.depsB, Region.binds] at hd
          try simp only [hi, hd, sl_true, sl_false, so_true, so_false]
          try simp only [hi, sl_true, sl_false, so_true, so_false]
          go_wp2_with fail
          refine hQ.out _ _ ⟨p, A2, cap2, d2, s2, ?_, ?_⟩
          · simp [Iv.upd, hi, hd, sl_true, sl_false, so_true, so_false]
          · simpa [Iv.upd, hi, hd] using hw
      · rintro f a0 y ⟨p, A2, cap2, d2, s2, rfl, hw⟩ hall
        simp only [hall 0 (by decide), hall 1 (by decide), hall 2 (by decide), hall 3 (by decide), hall 4 (by decide), hall 5 (by decide), hall 6 (by decide), hall 7 (by decide), hall 8 (by decide), hall 9 (by decide), hall 10 (by decide), hall 11 (by decide), hall 12 (by decide), hall 13 (by decide), sl_true, ↓reduceIte, so_true, so_false] at hw ⊢
        clear hall
        have HP2 := Lib.hid (hw.1.fin rfl)
        have hn := hw.1.new rfl
        have hlen2 := hw.1.len rfl
        have hmp : mb ≠ p := hn.2 (mb, 27, #[.slice Ar d.l.length cr, .int .i64 d.closed, .int .i64 d.mark]) (List.mem_singleton.2 rfl)
        clear hw
        have HP3 := Lib.hid (((HP2.out.few (L' := [(mb, 27, #[.slice Ar d.l.length cr, .int .i64 d.closed, .int .i64 d.mark]), (p, 27, #[.slice A2 d2.l.length cap2, .int .i64 d2.closed, .int .i64 d2.mark])]) (fun r hr => by
          rcases List.mem_cons.1 hr with rfl | hr
          · exact List.mem_cons_of_mem _ (List.mem_singleton.2 rfl)
          · rw [List.mem_singleton.1 hr]; exact List.mem_cons_self ..)).set3 hwm (fun r hr => by rw [List.mem_singleton.1 hr]; exact Ne.symm hmp) A2 d2.l.length cap2 (.int .i64 d2.closed) (.int .i64 d2.mark)).few (L' := [(mb, 27, #[.slice A2 d2.l.length cap2, .int .i64 d2.closed, .int .i64 d2.mark])]) (fun r hr => by rw [List.mem_singleton.1 hr]; exact List.mem_cons_self ..))
        obtain ⟨m0, m1, m2, mf0, mf1, mf2, ml⟩ := HP2.out.ps.st.knows.three3 0 p rfl
        obtain ⟨t0, t1, t2, tf0, tf1, tf2, tl⟩ := HP2.out.ps.st.knows.three3 1 mb rfl
        obtain ⟨o0, o1, o2, o3⟩ := HCE.out _ HP3.out.ps.st.below
        clear hn HP2 HD HFE HER HNL
        go_wp2_with fail
        refine (plast key HKY.out HP3.out.ps).mono ?_
        rintro r w4 ⟨rfl, hb1⟩
        have hrl := HP3.out.rel.last HP3.out.ps.fine key
        have hsz := HP3.out.rel.size HP3.out.ps.fine
        have hcl : s2.closed = d2.closed := HP3.out.rel.closed.symm
        have hmk : s2.mark = d2.mark := HP3.out.rel.mark.symm
        have HRL := Lib.hid (fun y (h : Dv y A2 cap2 d2.l) => rlast_any A2 cap2 d2.l d2.closed d2.mark key y h (by omega))
        rw [hrl.1, hrl.2] at HRL
        have hmp2 : w4.heap.size = w4.heap.size := rfl
        replace HP3 := Lib.hid ((HP3.out.call hb1).alloc w4.heap.size rfl 36 #[.int .i64 (lastS s2 key).1, .int .i64 (lastS s2 key).2])
        have HSZ := Lib.hid hsz
        have HCL := Lib.hid hcl
        have HMK := Lib.hid hmk
        clear m0 m1 m2 mf0 mf1 mf2 ml t0 t1 t2 tf0 tf1 tf2 tl o0 o1 o2 o3 hb1 hrl hsz hcl hmk hmp2
        generalize lastS s2 key = v at *
        generalize (s2.ch key).isSome = is at *
        obtain ⟨q4, hq4⟩ : ∃ q4, q4 = w4.heap.size := ⟨_, rfl⟩
        go_wp2_with fail
        refine Iv.region (fun f aa z => ∃ q, aa = ⟨#[Value.slice (some { block := b0, off := off }) l.length cap, undef, u2, ptr g, Value.pointer (some { block := mb, off := 0 }), Value.int IntKind.i64 ↑n, Value.pointer (some { block := p, off := 0 }), Value.bool true, Value.pointer (some { block := w4.heap.size, off := 0 }), Value.bool is, so (f 10) (.pointer (some ⟨q, 0, none⟩)) u10, so (f 12) (.bool is) u11, undef, undef, undef, undef, ptr g, Value.agg #[Value.slice none 0 0, Value.int IntKind.i64 0, Value.int IntKind.i64 0], Value.bool true, Value.bool false, Value.bool false, ptr g, Value.bool false, Value.bool false, Value.int IntKind.i64 ↑n, Value.slice (some { block := b0, off := off }) l.length cap, Value.int IntKind.i64 ↑l.length, Value.bool true, Value.bool true, Value.int IntKind.i64 ↑n, Value.bool true, Value.bool true, u32, u33, Value.tuple #[Value.agg #[Value.slice A2 d2.l.length cap2, Value.int IntKind.i64 d2.closed, Value.int IntKind.i64 d2.mark], Value.bool true], ptr g, Value.agg #[Value.slice Ar d.l.length cr, Value.int IntKind.i64 d.closed, Value.int IntKind.i64 d.mark], Value.slice (some { block := b0, off := off }) l.length cap, Value.int IntKind.i64 ↑n, Value.pointer (some { block := b0, off := off + n * 4 }), Value.agg #[Value.int IntKind.i64 k, Value.int IntKind.i64 key, Value.int IntKind.i64 t, Value.slice Ao lo.length co], Value.agg #[Value.int IntKind.i64 k, Value.int IntKind.i64 key, Value.int IntKind.i64 t, Value.slice Ao fl.length co], Value.tuple #[Value.agg #[Value.slice A2 d2.l.length cap2, Value.int IntKind.i64 d2.closed, Value.int IntKind.i64 d2.mark], Value.bool true], Value.agg #[Value.slice A2 d2.l.length cap2, Value.int IntKind.i64 d2.closed, Value.int IntKind.i64 d2.mark], Value.bool true, Value.agg #[Value.slice A2 d2.l.length cap2, Value.int IntKind.i64 d2.closed, Value.int IntKind.i64 d2.mark], Value.tuple #[aggV v, Value.bool is], ptr g, Value.slice (some { block := b0, off := off }) l.length cap, Value.int IntKind.i64 ↑n, Value.pointer (some { block := b0, off := off + n * 4 }), Value.pointer (some { block := b0, off := off + n * 4 + 1 }), Value.int IntKind.i64 key, Value.tuple #[aggV v, Value.bool is], aggV v, Value.bool is, so (f 7) (.tuple #[aggV v, .bool is]) u56, so (f 0) (.agg #[.slice A2 d2.l.length cap2, .int .i64 d2.closed, .int .i64 d2.mark]) u57, so (f 1) (.slice (some ⟨b0, off, none⟩) l.length cap) u58, so (f 2) (.int .i64 (n : Int)) u59, so (f 3) (.pointer (some ⟨b0, off + n * 4, none⟩)) u60, so (f 4) (.pointer (some ⟨b0, off + n * 4 + 1, none⟩)) u61, so (f 5) (.int .i64 key) u62, so (f 6) (.tuple #[aggV v, .bool is]) u63, so (f 8) (aggV v) u64, so (f 9) (.bool is) u65, u66, u67, u68, u69, u70, u71, u72, u73, u74, u75, u76, u77, u78, u79, u80, u81, u82, u83, u84, u85, u86, u87, u88, u89, u90, u91, u92, u93, u94, u95, u96, u97, u98, u99, undef, undef, undef, undef, undef, undef, undef, undef, undef, undef, undef, undef, undef, undef, undef, undef, undef, undef, undef, undef, undef, undef], []⟩ ∧ Vn12 w z [(w4.heap.size, 36, #[.int .i64 v.1, .int .i64 v.2]), (mb, 27, #[.slice A2 d2.l.length cap2, .int .i64 d2.closed, .int .i64 d2.mark])] g s2 d2 A2 cap2 q v (f 10) (f 11)) (by kernel_rfl) (by kernel_rfl) ?_ ?_ ?_
        · exact ⟨0, rfl, Vn12.start (HP3.out.drewN 1) 0 v⟩
        · refine ⟨?_, ?_, ?_, ?_, ?_, ?_, ?_, ?_, ?_, ?_, ?_, ?_, ?_, trivial⟩
          · rintro f a0 z Q' ⟨q, rfl, hw⟩ hi hd hQ
            replace hQ := Lib.hid hQ
            simp [Iv.depsB, Region.binds] at hd
            try simp only [hi, hd, sl_true, sl_false, so_true, so_false]
            try simp only [hi, sl_true, sl_false, so_true, so_false]
            obtain ⟨t0, t1, t2, tf0, tf1, tf2, tl⟩ := hw.any.1.three3 1 mb rfl
            go_wp2_with fail
            refine hQ.out _ _ ⟨q, ?_, ?_⟩
            · simp [Iv.upd, hi, hd, sl_true, sl_false, so_true, so_false]
            · simpa [Iv.upd, hi, hd] using hw
          · rintro f a0 z Q' ⟨q, rfl, hw⟩ hi hd hQ
            replace hQ := Lib.hid hQ
            simp [Iv.depsB, Region.binds] at hd
            try simp only [hi, hd, sl_true, sl_false, so_true, so_false]
            try simp only [hi, sl_true, sl_false, so_true, so_false]
            go_wp2_with fail
            refine hQ.out _ _ ⟨q, ?_, ?_⟩
            · simp [Iv.upd, hi, hd, sl_true, sl_false, so_true, so_false]
            · simpa [Iv.upd, hi, hd] using hw
          · rintro f a0 z Q' ⟨q, rfl, hw⟩ hi hd hQ
            replace hQ := Lib.hid hQ
            simp [Iv.depsB, Region.binds] at hd
            try simp only [hi, hd, sl_true, sl_false, so_true, so_false]
            try simp only [hi, sl_true, sl_false, so_true, so_false]
            go_wp2_with fail
            refine hQ.out _ _ ⟨q, ?_, ?_⟩
            · simp [Iv.upd, hi, hd, sl_true, sl_false, so_true, so_false]
            · simpa [Iv.upd, hi, hd] using hw
          · rintro f a0 z Q' ⟨q, rfl, hw⟩ hi hd hQ
            replace hQ := Lib.hid hQ
            simp [Iv.depsB, Region.binds] at hd
            try simp only [hi, hd, sl_true, sl_false, so_true, so_false]
            try simp only [hi, sl_true, sl_false, so_true, so_false]
            go_wp2_with fail
            refine hQ.out _ _ ⟨q, ?_, ?_⟩
            · simp [Iv.upd, hi, hd, sl_true, sl_false, so_true, so_false]
            · simpa [Iv.upd, hi, hd] using hw
          · rintro f a0 z Q' ⟨q, rfl, hw⟩ hi hd hQ
            replace hQ := Lib.hid hQ
            simp [Iv.depsB, Region.binds] at hd
            try simp only [hi, hd, sl_true, sl_false, so_true, so_false]
            try simp only [hi, sl_true, sl_false, so_true, so_false]
            go_wp2_with fail
            refine hQ.out _ _ ⟨q, ?_, ?_⟩
            · simp [Iv.upd, hi, hd, sl_true, sl_false, so_true, so_false]
            · simpa [Iv.upd, hi, hd] using hw
          · rintro f a0 z Q' ⟨q, rfl, hw⟩ hi hd hQ
            replace hQ := Lib.hid hQ
            simp [Iv.depsB, Region.binds] at hd
            try simp only [hi, hd, sl_true, sl_false, so_true, so_false]
            try simp only [hi, sl_true, sl_false, so_true, so_false]
            obtain ⟨o0, o1, o2, o3⟩ := HCE.out z hw.any.2.2.1
            go_wp2_with fail
            refine hQ.out _ _ ⟨q, ?_, ?_⟩
            · simp [Iv.upd, hi, hd, sl_true, sl_false, so_true, so_false]
            · simpa [Iv.upd, hi, hd] using hw
          · rintro f a0 z Q' ⟨q, rfl, hw⟩ hi hd hQ
            replace hQ := Lib.hid hQ
            simp [Iv.depsB, Region.binds] at hd
            try simp only [hi, hd, sl_true, sl_false, so_true, so_false]
            try simp only [hi, sl_true, sl_false, so_true, so_false]
            have ea : f 0 = true := by simp [hd]
            have eb : f 5 = true := by simp [hd]
            try simp only [ea, eb, so_true, so_false]
            have HW2 := Lib.hid hw
            have hv := hw.any.2.1
            clear hw
            go_wp2_with fail
            refine (HRL.out z hv).mono ?_
            rintro e z1 ⟨rfl, hb⟩
            have HN := Lib.hid (HW2.out.call hb)
            clear hb hv
            go_wp2_with fail
            refine hQ.out _ _ ⟨q, ?_, ?_⟩
            · simp [Iv.upd, hi, hd, sl_true, sl_false, so_true, so_false, ea, eb]
            · simpa [Iv.upd, hi, hd, ea, eb] using HN.out
          · rintro f a0 z Q' ⟨q, rfl, hw⟩ hi hd hQ
            replace hQ := Lib.hid hQ
            simp [Iv.depsB, Region.binds] at hd
            try simp only [hi, hd, sl_true, sl_false, so_true, so_false]
            try simp only [hi, sl_true, sl_false, so_true, so_false]
            go_wp2_with fail
            refine hQ.out _ _ ⟨q, ?_, ?_⟩
            · simp [Iv.upd, hi, hd, sl_true, sl_false, so_true, so_false]
            · simpa [Iv.upd, hi, hd] using hw
          · rintro f a0 z Q' ⟨q, rfl, hw⟩ hi hd hQ
            replace hQ := Lib.hid hQ
            simp [Iv.depsB, Region.binds] at hd
            try simp only [hi, hd, sl_true, sl_false, so_true, so_false]
            try simp only [hi, sl_true, sl_false, so_true, so_false]
            go_wp2_with fail
            refine hQ.out _ _ ⟨q, ?_, ?_⟩
            · simp [Iv.upd, hi, hd, sl_true, sl_false, so_true, so_false]
            · simpa [Iv.upd, hi, hd] using hw
          · rintro f a0 z Q' ⟨q, rfl, hw⟩ hi hd hQ
            replace hQ := Lib.hid hQ
            simp [Iv.depsB, Region.binds] at hd
            try simp only [hi, hd, sl_true, sl_false, so_true, so_false]
            try simp only [hi, sl_true, sl_false, so_true, so_false]
            go_wp2_with fail
            refine hQ.out _ _ ⟨q, ?_, ?_⟩
            · simp [Iv.upd, hi, hd, sl_true, sl_false, so_true, so_false]
            · simpa [Iv.upd, hi, hd] using hw
          · rintro f a0 z Q' ⟨q, rfl, hw⟩ hi hd hQ
            replace hQ := Lib.hid hQ
            simp [Iv.depsB, Region.binds] at hd
            try simp only [hi, hd, sl_true, sl_false, so_true, so_false]
            try simp only [hi, sl_true, sl_false, so_true, so_false]
            have hw2 := hw
            rw [hi] at hw2
            go_wp2_with fail
            refine hQ.out _ _ ⟨z.heap.size, ?_, ?_⟩
            · simp [Iv.upd, hi, hd, sl_true, sl_false, so_true, so_false]
            · simpa [Iv.upd, hi, hd] using hw2.made
          · rintro f a0 z Q' ⟨q, rfl, hw⟩ hi hd hQ
            replace hQ := Lib.hid hQ
            simp [Iv.depsB, Region.binds] at hd
            try simp only [hi, hd, sl_true, sl_false, so_true, so_false]
            try simp only [hi, sl_true, sl_false, so_true, so_false]
            have eb : f 8 = true := by simp [hd]
            have ec : f 10 = true := by simp [hd]
            have hw2 := hw
            rw [hi, ec] at hw2
            obtain ⟨m0, m1, mf0, mf1, ml⟩ := hw2.cells
            have HW2 := Lib.hid hw2
            clear hw2 hw
            try simp only [eb, ec, so_true, so_false]
            go_wp2_with fail
            refine hQ.out _ _ ⟨q, ?_, ?_⟩
            · simp [Iv.upd, hi, hd, sl_true, sl_false, so_true, so_false, eb, ec]
            · simpa [Iv.upd, hi, hd, eb, ec] using HW2.out.told
          · rintro f a0 z Q' ⟨q, rfl, hw⟩ hi hd hQ
            replace hQ := Lib.hid hQ
            simp [Iv.depsB, Region.binds] at hd
            try simp only [hi, hd, sl_true, sl_false, so_true, so_false]
            try simp only [hi, sl_true, sl_false, so_true, so_false]
            go_wp2_with fail
            refine hQ.out _ _ ⟨q, ?_, ?_⟩
            · simp [Iv.upd, hi, hd, sl_true, sl_false, so_true, so_false]
            · simpa [Iv.upd, hi, hd] using hw
        · rintro f a0 z ⟨q, rfl, hw⟩ hall
          simp only [hall 0 (by decide), hall 1 (by decide), hall 2 (by decide), hall 3 (by decide), hall 4 (by decide), hall 5 (by decide), hall 6 (by decide), hall 7 (by decide), hall 8 (by decide), hall 9 (by decide), hall 10 (by decide), hall 11 (by decide), hall 12 (by decide), sl_true, ↓reduceIte, so_true, so_false] at hw ⊢
          clear hall
          have HP4 : Hid (Go12 w z ((q, 36, #[.int .i64 v.1, .int .i64 v.2]) :: [(w4.heap.size, 36, #[.int .i64 v.1, .int .i64 v.2]), (mb, 27, #[.slice A2 d2.l.length cap2, .int .i64 d2.closed, .int .i64 d2.mark])]) g s2 d2 A2 cap2) := Lib.hid (hw.fin rfl)
          clear hw HP3 HRL
          obtain ⟨C, hC, HCc, HCf⟩ := HP4.out.class
          go_wp2_with fail
          refine region_in C hC (by kernel_rfl) (by kernel_rfl) ?_
          iterate 34
            (refine WQ.step (fun K hK => ?_)
             go_simp
             try simp only [bne_self_eq_false, if_true, if_false, decide_true, decide_false, Bool.or_false, Bool.and_false, Bool.true_and, Bool.not_true, Bool.not_false, Bool.true_or, Bool.false_or, Bool.or_true]
             first
               | (refine hK _ ?_; clear hK K)
               | (apply Exists.intro
                  refine ⟨fun x hx => ?_, hK _ ?_⟩
                  · first
                      | rfl
                      | (go_at_call 15; refine (pclosed (HCf.out _ hx).1.ps).mono ?_; rintro e x1 ⟨rfl, rfl⟩; rw [HCL.out]; exact ⟨rfl, hx⟩)
                      | (go_at_call 16; refine (pmark (HCf.out _ hx).1.ps).mono ?_; rintro e x1 ⟨rfl, rfl⟩; rw [HMK.out]; exact ⟨rfl, hx⟩)
                      | (go_at_call 17; refine (psize (HCf.out _ hx).1.ps).mono ?_; rintro e x1 ⟨rfl, hb⟩; rw [← HSZ.out]; exact ⟨rfl, HCc.out _ _ hx hb⟩)
                      | (obtain ⟨t0, t1, t2, tf0, tf1, tf2, tl⟩ := (HCf.out _ hx).1.ps.st.knows.three3 2 mb rfl; go_simp; rfl)
                      | (obtain ⟨t0, t1, tf0, tf1, tl⟩ := (HCf.out _ hx).1.ps.st.knows.two 0 q rfl; go_simp; rfl)
                      | (obtain ⟨t0, t1, tf0, tf1, tl⟩ := (HCf.out _ hx).1.ps.st.knows.two 1 w4.heap.size rfl; go_simp; rfl)
                  clear hK K))
          refine WQ.nil ?_
          intro w9 hw9
          have HP5 := Lib.hid ((HCf.out _ hw9).1.few (L' := [(mb, 27, #[.slice A2 d2.l.length cap2, .int .i64 d2.closed, .int .i64 d2.mark])]) (fun r hr => by rw [List.mem_singleton.1 hr]; exact List.mem_cons_of_mem _ (List.mem_cons_of_mem _ (List.mem_singleton.2 rfl))))
          clear hw9 hC HCc HCf C
          go_wp2_with fail
          go_roundw
          case rel => exact ⟨n + 1, s2, d2, _, cap2, by omega, by omega, by go_num, HP5.out, by omega⟩
          case measure => simp [intOf]; omega
    · have hend : ((n : Int) < (l.length : Int) ∧ n = 30) ∨ (¬ (n : Int) < (l.length : Int)) := by omega
      obtain ⟨t0, t1, t2, tf0, tf1, tf2, tl⟩ := HP.out.ps.st.knows.three3 0 mb rfl
      have hcl : s.closed = d.closed := HP.out.rel.closed.symm
      have hmk : s.mark = d.mark := HP.out.rel.mark.symm
      have hsl : (snapS s s.closed).length ≤ 100000 := by have := snap_len s s.closed; unfold snapS; split <;> first | omega | simp
      have HSN := Lib.hid (fun y (h : Ps w y [(mb, 27, #[.slice Ar d.l.length cr, .int .i64 d.closed, .int .i64 d.mark])] g s (ym Ar)) => psnap s.closed h)
      have HRS := Lib.hid (fun y (h : Dv y Ar cr d.l) => rsnap_any Ar cr d s HP.out.rel HP.out.ps.fine s.closed y h (by omega))
      rw [hcl] at HSN HRS hsl
      rw [hmk] at HRS
      clear hcl hmk
      generalize snapS s d.closed = S at *
      generalize tellsE s d.closed = E at *
      rcases hend with ⟨i1, rfl⟩ | i1
      all_goals
        go_wp2_with fail
        refine (HSN.out _ HP.out.ps).mono ?_
        rintro r w4 ⟨A4, cap4, rfl, hb1, ho1⟩
        have HP4 := Lib.hid (HP.out.call hb1)
        have hr1 : S.length ≤ cap4 := by
          obtain ⟨_, _, e, h, _⟩ := own_slice0 ho1
          injection e with _ _ e
          omega
        have HV4 := Lib.hid (Sees.own ho1)
        clear t0 t1 t2 tf0 tf1 tf2 tl hb1 ho1
        obtain ⟨t0, t1, t2, tf0, tf1, tf2, tl⟩ := HP4.out.ps.st.knows.three3 0 mb rfl
        go_wp2_with fail
        refine (HRS.out _ HP4.out.dv).mono ?_
        rintro r w5 ⟨A5, cap5, rfl, hb1, ho1⟩
        have HP5 := Lib.hid (HP4.out.call hb1)
        have hr2 : S.length ≤ cap5 := by
          obtain ⟨_, _, e, h, _⟩ := own_slice0 ho1
          injection e with _ _ e
          omega
        have HV5 := Lib.hid (Sees.own ho1)
        have HV6 := Lib.hid ((HV4.out.below hb1).more hb1.size)
        have HSA := Lib.hid (rsame_any A4 cap4 A5 cap5 S w5 HV6.out HV5.out hr1 hr2 hsl)
        clear t0 t1 t2 tf0 tf1 tf2 tl hb1 ho1
        go_wp2_with fail
        refine HSA.out.mono ?_
        rintro r w6 ⟨rfl, hb1⟩
        have HB := Lib.hid (HP5.out.call hb1).ps.st.below
        clear hb1
        go_wp2_with fail
        go_ret
        exact ⟨rfl, HB.out⟩

set_option maxRecDepth 100000 in
theorem lifted (os : Os) (started : os.Started) (H : Type) (enc : TypeId × Value → H) :
    ReturnsInHanded {} Try.checked os 3 .any (Rows.storePlaysSpec.pre6 enc Try.prog Try.f3 Rows.storePlaysRow.domain false) (Rows.storePlaysSpec.post enc Try.prog Try.f3 false true false false) := by
  refine returnsInHanded_of_change (C := Try.checked) own started (by kernel_rfl) Try.func3
    (ChangeSpec.witness6 (enc := enc) (C := Try.checked) false ⟨#[], #[.slice none 0 0], []⟩ 8 (by kernel_rfl) (by kernel_rfl) (by kernel_rfl) (by kernel_rfl)) ?_
  intro W base args ds gs before hval0 hW hcnd _
  have hval : ∀ (j : Nat) t v, Try.f3.params[j]? = some t → args[j]? = some v → Value.okWide Try.prog W .any base t v := hval0
  have hW' := hW
  obtain ⟨p, q, hA0, hV, rfl, hfz, hnd⟩ := hW
  have hA : DataW.TrodAll enc Try.prog W 0 (fun _ => true) true Try.f3.params.toList args.toList ds p := hA0
  rw [Try.params3] at hA hval
  obtain ⟨v0, vs0, d0, ds0, p0, q0, hargs, rfl, rfl, h0, r0⟩ := trodAll_cons hA
  obtain ⟨rfl, rfl, rfl⟩ := trodAll_nil r0
  obtain rfl : args = #[v0] := by cases args; simp_all
  obtain ⟨rfl, rfl⟩ := trodVars_none hV
  obtain ⟨A0, len0, cap0, rfl⟩ := okWide_slice Try.underlying22 (hval 0 22 v0 rfl rfl)
  obtain ⟨l0, w0⟩ := open_ops h0
  have lt0 : ∀ x ∈ p0, x.block < W.heap.size := by obtain ⟨m, hm⟩ := h0; exact DataW.trod_lt m _ _ _ hm
  clear hA0 hval0
  simp only [List.append_nil] at hW'
  refine (walk A0 len0 cap0 l0 W w0).mono fun e W' ⟨he, bel⟩ => ?_
  subst he
  exact ⟨_, rfl, _, _, _, [], _, [], hW', trodAll_mk1 (shut_bool Try.underlying4 _), (trodAll_cons_mk (Below.trod laidOut (by kernel_rfl) (of_decide_eq_true (by kernel_rfl)) h0 bel lt0) trodAll_mk0), rfl, bel.frame _, fun h => by cases h⟩

theorem proved : Rows.StorePlaysSaid :=
  OpenClaim.holds_of_wide 3 Try.f3 rfl rfl rfl rfl rfl rfl rfl ⟨rfl, rfl, rfl, rfl, rfl⟩ rfl rfl rfl rfl rfl (by kernel_rfl) Try.func3 (by kernel_rfl)
    (of_decide_eq_true (by kernel_rfl)) (by unfold Func.isWrapper; first | (rw [if_pos (by decide +kernel)]; kernel_rfl) | (rw [if_neg (by decide +kernel)]; exact ⟨rfl, rfl⟩))
    (fun os started H enc _ => lifted os started H enc)
#print axioms proved
end Go.Proofs.Ytcpcepbjdohdmaa.storePlays
