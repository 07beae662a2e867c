/- Whatever is sent, taken, copied, lost, cut off and purged, a net answers as the document says, and has what it says: moietylaw09.PostPlays answers true. For every whole number and list of calls; no conditions. -/
import Derived.Test.YtmbednikbdfnmaaPostDa
namespace Go.Proofs.Ytmbednikbdfnmaa.postPlays
open Go.ChangeShapes Go.WideShapes Go.ChangeAt Go.RowKit Go.Po
set_option linter.unusedVariables false
set_option linter.unusedSimpArgs false

set_option maxRecDepth 100000 in
set_option maxHeartbeats 8000000 in
theorem walk (m0 : Int) (wm : -9223372036854775808 ≤ m0 ∧ m0 ≤ 9223372036854775807) (A : Option Addr) (len cap : Nat) (l : List Oc) (w : World) (hL : IsR w A len cap 5 encC GC l) :
    Calls Try.prog 4 #[.int .i64 m0, .slice A len cap] w fun r w' => r = .returned (.bool true) ∧ Below w.heap.size w w' := by
  obtain ⟨hlen, hs, hc1, hc2, hn, hg⟩ := hL
  subst hlen
  have HS := Lib.hid hs
  have HG := Lib.hid hg
  clear hs hg hn
  have hz := rzero
  obtain ⟨Z, hZ⟩ : ∃ Z, rn 0 0 (fun _ => false) (.slice none 0 0) = Z := ⟨_, rfl⟩
  have hZs : Z.size = 67 := by rw [← hZ]; exact rn_size
  rw [hZ] at hz
  clear hZ
  have HRN := Lib.hid fun (w0 : World) => rnew_any m0 wm w0
  have hRs := rn_size (nodes := m0) (sent := 0) (off := fun _ => false) (v := .slice none 0 0)
  have hR1 := rone (nodes := m0) (sent := 0) (off := fun _ => false) (v := .slice none 0 0) rfl
  obtain ⟨R, hR⟩ : ∃ R, rn m0 0 (fun _ => false) (.slice none 0 0) = R := ⟨_, rfl⟩
  rw [hR] at HRN hRs hR1
  have HR := Lib.hid hR
  clear hR
  by_cases hm : 1 ≤ m0 ∧ m0 ≤ 64
  case neg =>
    have HN := Lib.hid (snew_no m0 hm wm w)
    rw [show decide (1 ≤ m0 ∧ m0 ≤ 64) = false from decide_eq_false hm] at HRN
    clear hm
    go_enter Try.func4, Try.ntmps4
    go_wp2_with fail
    refine HN.out.mono ?_
    rintro e w1 ⟨rfl, e1⟩
    subst w1
    go_wp2_with fail
    refine (HRN.out _).mono ?_
    rintro e w2 ⟨rfl, hb⟩
    have HW := Lib.hid (Whole.fresh w2 38 Z)
    have HB := Lib.hid (below_setRow (hb.alloc hb.size (.cells Z 38)) hb.size R)
    clear hb
    go_wp2_with (refine wpList_storeN rfl (.tmp 7) _ rfl w2.heap.size rfl R rfl Z HW.out hZs hRs hR1 ?_)
    refine (awake_any _).mono ?_
    rintro e w3 ⟨rfl, hb⟩
    have HB2 := Lib.hid (HB.out.trans (hb.mono HB.out.size))
    clear hb
    go_wp2_with fail
    go_ret
    exact ⟨rfl, HB2.out⟩
  case pos =>
  rw [show decide (1 ≤ m0 ∧ m0 ≤ 64) = true from decide_eq_true hm] at HRN
  go_enter Try.func4, Try.ntmps4
  go_wp2_with fail
  refine (snew_lp (St.start w) m0 hm).mono ?_
  rintro e w1 ⟨g, rfl, hl⟩
  have H := Lib.hid hl
  clear hl hm
  go_wp2_with fail
  refine (HRN.out _).mono ?_
  rintro e w2 ⟨rfl, hb⟩
  have h2 := (Pq.new H.out).call hb
  have hxs : w.heap.size ≤ w2.heap.size := h2.lp.st.below.size
  have h3 := h2.alloc w2.heap.size rfl 38 Z
  have HW := Lib.hid (Whole.fresh w2 38 Z)
  have H3 := Lib.hid (h3.row (List.mem_cons_self ..) hxs R [(w2.heap.size, 38, R)] (fun r hr => .inl (by simpa using hr)))
  have HXS := Lib.hid hxs
  clear hb h2 h3 H hxs
  go_upto_region 3 with (refine wpList_storeN rfl (.tmp 7) _ rfl w2.heap.size rfl R rfl Z HW.out hZs hRs hR1 ?_)
  clear HW
  generalize w2.heap.size = x at *
  generalize ((w2.alloc _).setRow _ _) = w3 at *
  go_wp2_with fail
  refine (awake_any _).mono ?_
  rintro e w4 ⟨rfl, hb⟩
  have H4 : Hid (Px w w4 x g (.slice none 0 0) (Nt.new m0)) := Lib.hid (by
    have h := H3.out.call hb
    rw [← HR.out] at h
    exact h)
  clear hb H3
  go_wp2_with fail
  go_loopw [9] (fun i wr => ∃ (k : Nat) (v : Value) (n : Nt (List UInt8)), k ≤ l.length ∧ k ≤ 60 ∧ i = .int .i64 (k : Int) ∧ n.sent ≤ k ∧ n.puts ≤ k ∧ Px w wr x g v n) (fun i _ => l.length - (intOf i).toNat)
  case atStart => exact ⟨0, .slice none 0 0, Nt.new m0, by omega, by omega, rfl, Nat.le_refl _, Nat.le_refl _, H4.out⟩
  case round =>
    obtain ⟨k, v0, n0, hk1, hk2, rfl, hsent, hputs, hp5⟩ := hrel
    have H5 := Lib.hid hp5
    have hrs := hp5.rs
    clear hp5 H4
    by_cases hlt : k < l.length ∧ k < 60
    · obtain ⟨h1, h2⟩ := hlt
      obtain ⟨v, hv⟩ : ∃ v, l[k]? = some v := ⟨_, List.getElem?_eq_getElem h1⟩
      have hga := HG.out v (List.mem_of_getElem? hv)
      have HGA := Lib.hid hga.few
      have HFEW := Lib.hid (few_any v hga.s)
      obtain ⟨b0', off, rfl, hb, hcc⟩ := HS.out.item encC_len (by omega) k v hv
      have HCC := Lib.hid fun a (hB : Below w.heap.size w a) => (show a.cell? ⟨b0', off + k * 5, none⟩ = some (.int .i64 v.kind) ∧ a.cell? ⟨b0', off + k * 5 + 1, none⟩ = some (.int .i64 v.a) ∧ a.cell? ⟨b0', off + k * 5 + 2, none⟩ = some (.int .i64 v.b) ∧ a.cell? ⟨b0', off + k * 5 + 3, none⟩ = some (.string (txt v.s)) ∧ a.cell? ⟨b0', off + k * 5 + 4, none⟩ = some (.bool v.off) from
        ⟨(hB.cell (p := ⟨b0', off + k * 5, none⟩) hb).trans (by have := hcc 0 _ rfl; rwa [Nat.add_zero] at this), (hB.cell (p := ⟨b0', off + k * 5 + 1, none⟩) hb).trans (hcc 1 _ rfl), (hB.cell (p := ⟨b0', off + k * 5 + 2, none⟩) hb).trans (hcc 2 _ rfl), (hB.cell (p := ⟨b0', off + k * 5 + 3, none⟩) hb).trans (hcc 3 _ rfl), (hB.cell (p := ⟨b0', off + k * 5 + 4, none⟩) hb).trans (hcc 4 _ rfl)⟩)
      have i1 : (k : Int) < (l.length : Int) := by omega
      have i2 : (k : Int) < 60 := by omega
      clear hcc hv hga
      have hQs := rn_size (nodes := n0.nodes) (sent := n0.sent) (off := n0.off) (v := v0)
      have HDO : Hid (∀ y, Pq w y [(x, 38, rn n0.nodes n0.sent n0.off v0)] g v0 n0.under n0 → Calls Try.prog 20 #[ptr g, .agg (rn n0.nodes n0.sent n0.off v0), .agg #[.int .i64 v.kind, .int .i64 v.a, .int .i64 v.b, .string (txt v.few.s), .bool v.off]] y fun e w' => ∃ v' n', e = .returned (.tuple #[.agg (rn n'.nodes n'.sent n'.off v'), .bool true]) ∧ Pq w w' [(x, 38, rn n0.nodes n0.sent n0.off v0)] g v' n'.under n' ∧ n'.sent ≤ n0.sent + 1 ∧ n'.puts ≤ n0.puts + 1) := Lib.hid fun y hy => does_any w y _ g v0 n0 hy v.few HGA.out (by omega) (by unfold maxLen; omega)
      obtain ⟨Q, hQ⟩ : ∃ Q, rn n0.nodes n0.sent n0.off v0 = Q := ⟨_, rfl⟩
      have HQ := Lib.hid hQ
      replace H5 := H5.out
      unfold Px at H5
      rw [hQ] at hQs HDO H5
      replace H5 := Lib.hid H5
      clear hQ HGA hrs
      generalize v.kind = kd at *
      generalize v.a = va at *
      generalize v.b = vb at *
      generalize v.off = vo at *
      generalize txt v.few.s = S2 at *
      generalize txt v.s = S1 at *
      go_wp2_with fail
      refine Iv.region (fun f aa y => ∃ v2 n2 R2, aa = ⟨#[.int .i64 m0, Value.slice (some ⟨b0', off, none⟩) l.length cap, undef, undef, u4, ptr g, .int .i64 0, .pointer (some ⟨x, 0, none⟩), so (f 12) (.bool true) u8, .int .i64 (k : Int), .tuple #[ptr g, .int .i64 0], .int .i64 m0, .tuple #[ptr g, .int .i64 0], ptr g, .int .i64 0, .tuple #[.agg R, .bool true], .int .i64 m0, .tuple #[.agg R, .bool true], .agg R, .bool true, .bool true, .bool false, .bool false, .int .i64 0, .bool true, .bool true, .bool false, .bool false, .bool false, ptr g, .bool false, .bool true, .bool false, .bool false, ptr g, .bool false, undef, undef, .int .i64 (k : Int), Value.slice (some ⟨b0', off, none⟩) l.length cap, .int .i64 (l.length : Int), .bool true, .bool true, .int .i64 (k : Int), .bool true, .bool true, u46, u47, so (f 8) (Value.tuple #[.agg R2, .bool true]) u48, so (f 0) ((ptr g)) u49, so (f 1) (Value.agg Q) u50, so (f 2) (Value.slice (some ⟨b0', off, none⟩) l.length cap) u51, so (f 3) (.int .i64 (k : Int)) u52, so (f 4) (.pointer (some ⟨b0', off + k * 5, none⟩)) u53, so (f 5) (Value.agg #[.int .i64 kd, .int .i64 va, .int .i64 vb, .string S1, .bool vo]) u54, so (f 6) (Value.agg #[.int .i64 kd, .int .i64 va, .int .i64 vb, .string S2, .bool vo]) u55, so (f 7) (Value.tuple #[.agg R2, .bool true]) u56, so (f 9) (Value.agg R2) u57, so (f 10) (.bool true) u58, u59, u60, u61, u62, u63, u64, u65, u66, u67, u68], []⟩ ∧ Dn w y x g (k + 1) Q v0 n0 v2 n2 R2 (f 7) (f 11) ∧ Od f) (by kernel_rfl) (by kernel_rfl) ?_ ?_ ?_
      · exact ⟨v0, n0, Q, rfl, ⟨⟨fun _ => H5.out.call (below_drewN (Below.refl _ _) 1), (fun h => by cases h), (fun h => by cases h), fun h => by cases h⟩, (fun h => by cases h), (fun h => by cases h), (fun h => by cases h), (fun h => by cases h), (fun h => by cases h), (fun h => by cases h), fun h => by cases h⟩⟩
      · refine ⟨?_, ?_, ?_, ?_, ?_, ?_, ?_, ?_, ?_, ?_, ?_, ?_, ?_, trivial⟩
        · rintro f a0 y Q' ⟨v2, n2, R2, rfl, hw⟩ hi hd hQ
          replace hQ := Lib.hid hQ
          simp [Iv.depsB, Region.binds] at hd
          try simp only [hi, hd, sl_true, sl_false, so_true, so_false]
          try simp only [hi, sl_true, sl_false, so_true, so_false]
          go_wp2_with fail
          refine hQ.out _ _ ⟨v2, n2, R2, ?_, ?_⟩
          · simp [Iv.upd, hi, hd, sl_true, sl_false, so_true, so_false]
          · exact ⟨by simpa [Iv.upd] using hw.1, hw.2.upd 0 (fun e => absurd e (by decide)) (fun e => absurd e (by decide)) (fun e => absurd e (by decide))⟩
        · rintro f a0 y Q' ⟨v2, n2, R2, rfl, hw⟩ hi hd hQ
          replace hQ := Lib.hid hQ
          simp [Iv.depsB, Region.binds] at hd
          try simp only [hi, hd, sl_true, sl_false, so_true, so_false]
          try simp only [hi, sl_true, sl_false, so_true, so_false]
          have h7 : f 7 = false := by
            cases e : f 7 with
            | false => rfl
            | true => have := hw.2.1 e; simp [hi] at this
          refine wpList_loadN rfl (.tmp 7) rfl x rfl Q ((hw.1.a h7).whole (by simp)) hQs ?_
          go_wp2_with fail
          refine hQ.out _ _ ⟨v2, n2, R2, ?_, ?_⟩
          · simp [Iv.upd, hi, hd, h7, sl_true, sl_false, so_true, so_false]
          · exact ⟨by simpa [Iv.upd] using hw.1, hw.2.upd 1 (fun e => absurd e (by decide)) (fun e => absurd e (by decide)) (fun e => absurd e (by decide))⟩
        · rintro f a0 y Q' ⟨v2, n2, R2, rfl, hw⟩ hi hd hQ
          replace hQ := Lib.hid hQ
          simp [Iv.depsB, Region.binds] at hd
          try simp only [hi, hd, sl_true, sl_false, so_true, so_false]
          try simp only [hi, sl_true, sl_false, so_true, so_false]
          go_wp2_with fail
          refine hQ.out _ _ ⟨v2, n2, R2, ?_, ?_⟩
          · simp [Iv.upd, hi, hd, sl_true, sl_false, so_true, so_false]
          · exact ⟨by simpa [Iv.upd] using hw.1, hw.2.upd 2 (fun e => absurd e (by decide)) (fun e => absurd e (by decide)) (fun e => absurd e (by decide))⟩
        · rintro f a0 y Q' ⟨v2, n2, R2, rfl, hw⟩ hi hd hQ
          replace hQ := Lib.hid hQ
          simp [Iv.depsB, Region.binds] at hd
          try simp only [hi, hd, sl_true, sl_false, so_true, so_false]
          try simp only [hi, sl_true, sl_false, so_true, so_false]
          go_wp2_with fail
          refine hQ.out _ _ ⟨v2, n2, R2, ?_, ?_⟩
          · simp [Iv.upd, hi, hd, sl_true, sl_false, so_true, so_false]
          · exact ⟨by simpa [Iv.upd] using hw.1, hw.2.upd 3 (fun e => absurd e (by decide)) (fun e => absurd e (by decide)) (fun e => absurd e (by decide))⟩
        · rintro f a0 y Q' ⟨v2, n2, R2, rfl, hw⟩ hi hd hQ
          replace hQ := Lib.hid hQ
          simp [Iv.depsB, Region.binds] at hd
          try simp only [hi, hd, sl_true, sl_false, so_true, so_false]
          try simp only [hi, sl_true, sl_false, so_true, so_false]
          go_wp2_with fail
          refine hQ.out _ _ ⟨v2, n2, R2, ?_, ?_⟩
          · simp [Iv.upd, hi, hd, sl_true, sl_false, so_true, so_false]
          · exact ⟨by simpa [Iv.upd] using hw.1, hw.2.upd 4 (fun e => absurd e (by decide)) (fun e => absurd e (by decide)) (fun e => absurd e (by decide))⟩
        · rintro f a0 y Q' ⟨v2, n2, R2, rfl, hw⟩ hi hd hQ
          replace hQ := Lib.hid hQ
          simp [Iv.depsB, Region.binds] at hd
          try simp only [hi, hd, sl_true, sl_false, so_true, so_false]
          try simp only [hi, sl_true, sl_false, so_true, so_false]
          have h7 : f 7 = false := by
            cases e : f 7 with
            | false => rfl
            | true => have := hw.2.2.2.2.2.2.2 (hw.2.1 e).2; simp [hi] at this
          have d4 : f 4 = true := by simp [hd]
          try simp only [d4, so_true, so_false]
          obtain ⟨q0, q1, q2, q3, q4⟩ := HCC.out y (hw.1.a h7).lp.st.below
          go_wp2_with fail
          refine hQ.out _ _ ⟨v2, n2, R2, ?_, ?_⟩
          · simp [Iv.upd, hi, hd, h7, d4, sl_true, sl_false, so_true, so_false]
          · exact ⟨by simpa [Iv.upd] using hw.1, hw.2.upd 5 (fun e => absurd e (by decide)) (fun e => absurd e (by decide)) (fun e => absurd e (by decide))⟩
        · rintro f a0 y Q' ⟨v2, n2, R2, rfl, hw⟩ hi hd hQ
          replace hQ := Lib.hid hQ
          simp [Iv.depsB, Region.binds] at hd
          try simp only [hi, hd, sl_true, sl_false, so_true, so_false]
          try simp only [hi, sl_true, sl_false, so_true, so_false]
          have h7 : f 7 = false := by
            cases e : f 7 with
            | false => rfl
            | true => have := hw.2.1 e; simp [hi] at this
          have d5 : f 5 = true := by simp [hd]
          try simp only [d5, so_true, so_false]
          go_wp2_with fail
          refine (HFEW.out y).mono ?_
          rintro e y1 ⟨rfl, hb⟩
          go_wp2_with fail
          refine hQ.out _ _ ⟨v2, n2, R2, ?_, ?_⟩
          · simp [Iv.upd, hi, hd, h7, d5, sl_true, sl_false, so_true, so_false]
          · exact ⟨by simpa [Iv.upd] using hw.1.call hb, hw.2.upd 6 (fun e => absurd e (by decide)) (fun e => absurd e (by decide)) (fun _ => d5)⟩
        · rintro f a0 y Q' ⟨v2, n2, R2, rfl, hw⟩ hi hd hQ
          replace hQ := Lib.hid hQ
          simp [Iv.depsB, Region.binds] at hd
          try simp only [hi, hd, sl_true, sl_false, so_true, so_false]
          try simp only [hi, sl_true, sl_false, so_true, so_false]
          have h8 : f 8 = false := by
            cases e : f 8 with
            | false => rfl
            | true => have := hw.2.2.1 e; simp [hi] at this
          have h9 : f 9 = false := by
            cases e : f 9 with
            | false => rfl
            | true => have := hw.2.2.2.1 e; simp [hi] at this
          have h10 : f 10 = false := by
            cases e : f 10 with
            | false => rfl
            | true => have := hw.2.2.2.2.1 e; simp [hi] at this
          have h11 : f 11 = false := by
            cases e : f 11 with
            | false => rfl
            | true => have := hw.2.2.2.2.2.1 e; simp [hi] at this
          have h12 : f 12 = false := by
            cases e : f 12 with
            | false => rfl
            | true => have := hw.2.2.2.2.2.2.1 e; simp [hi] at this
          have d0 : f 0 = true := by simp [hd]
          have d1 : f 1 = true := by simp [hd]
          have d6 : f 6 = true := by simp [hd]
          try simp only [d0, d1, d6, so_true, so_false]
          have hcc := Lib.hid (HDO.out y (hw.1.a hi))
          go_wp2_with fail
          refine hcc.out.mono ?_
          rintro e y1 ⟨v3, n3, rfl, hb2, hp2, hp3⟩
          obtain ⟨R3, hR3⟩ : ∃ R3, rn n3.nodes n3.sent n3.off v3 = R3 := ⟨_, rfl⟩
          have HR3 := Lib.hid hR3
          rw [hR3]
          have HB2 := Lib.hid hb2
          have HP2 := Lib.hid (show n3.sent ≤ k + 1 ∧ n3.puts ≤ k + 1 from ⟨by omega, by omega⟩)
          clear hb2 hp2 hp3 hcc hR3
          go_wp2_with fail
          refine hQ.out _ _ ⟨v3, n3, R3, ?_, ?_⟩
          · simp [Iv.upd, hi, hd, h8, h9, h10, h11, h12, d0, d1, d6, sl_true, sl_false, so_true, so_false]
          · exact ⟨⟨fun e => by simp [Iv.upd] at e, fun _ _ => HB2.out, fun e => by simp [Iv.upd, h11] at e, fun _ => ⟨HR3.out.symm, HB2.out.one, HP2.out⟩⟩, hw.2.upd 7 (fun _ => ⟨d1, d6⟩) (fun e => absurd e (by decide)) (fun e => absurd e (by decide))⟩
        · rintro f a0 y Q' ⟨v2, n2, R2, rfl, hw⟩ hi hd hQ
          replace hQ := Lib.hid hQ
          simp [Iv.depsB, Region.binds] at hd
          try simp only [hi, hd, sl_true, sl_false, so_true, so_false]
          try simp only [hi, sl_true, sl_false, so_true, so_false]
          have d7 : f 7 = true := by simp [hd]
          try simp only [d7, so_true, so_false]
          go_wp2_with fail
          refine hQ.out _ _ ⟨v2, n2, R2, ?_, ?_⟩
          · simp [Iv.upd, hi, hd, d7, sl_true, sl_false, so_true, so_false]
          · exact ⟨by simpa [Iv.upd] using hw.1, hw.2.upd 8 (fun e => absurd e (by decide)) (fun _ => d7) (fun e => absurd e (by decide))⟩
        · rintro f a0 y Q' ⟨v2, n2, R2, rfl, hw⟩ hi hd hQ
          replace hQ := Lib.hid hQ
          simp [Iv.depsB, Region.binds] at hd
          try simp only [hi, hd, sl_true, sl_false, so_true, so_false]
          try simp only [hi, sl_true, sl_false, so_true, so_false]
          have d8 : f 8 = true := by simp [hd]
          have d7 := hw.2.2.1 d8
          try simp only [d8, so_true, so_false]
          go_wp2_with fail
          refine hQ.out _ _ ⟨v2, n2, R2, ?_, ?_⟩
          · simp [Iv.upd, hi, hd, d8, d7, sl_true, sl_false, so_true, so_false]
          · exact ⟨by simpa [Iv.upd] using hw.1, hw.2.upd 9 (fun e => absurd e (by decide)) (fun _ => d7) (fun e => absurd e (by decide))⟩
        · rintro f a0 y Q' ⟨v2, n2, R2, rfl, hw⟩ hi hd hQ
          replace hQ := Lib.hid hQ
          simp [Iv.depsB, Region.binds] at hd
          try simp only [hi, hd, sl_true, sl_false, so_true, so_false]
          try simp only [hi, sl_true, sl_false, so_true, so_false]
          have d8 : f 8 = true := by simp [hd]
          have d7 := hw.2.2.1 d8
          try simp only [d8, so_true, so_false]
          go_wp2_with fail
          refine hQ.out _ _ ⟨v2, n2, R2, ?_, ?_⟩
          · simp [Iv.upd, hi, hd, d8, d7, sl_true, sl_false, so_true, so_false]
          · exact ⟨by simpa [Iv.upd] using hw.1, hw.2.upd 10 (fun e => absurd e (by decide)) (fun _ => d7) (fun e => absurd e (by decide))⟩
        · rintro f a0 y Q' ⟨v2, n2, R2, rfl, hw⟩ hi hd hQ
          replace hQ := Lib.hid hQ
          simp [Iv.depsB, Region.binds] at hd
          try simp only [hi, hd, sl_true, sl_false, so_true, so_false]
          try simp only [hi, sl_true, sl_false, so_true, so_false]
          have d9 : f 9 = true := by simp [hd]
          have d7 := hw.2.2.2.1 d9
          try simp only [d9, so_true, so_false]
          have hbx := hw.1.b d7 hi
          have HBX := Lib.hid (hbx.row (List.mem_cons_self ..) HXS.out R2 [(x, 38, R2)] (fun r hr => .inl (by simpa using hr)))
          have HPP := Lib.hid (hw.1.p d7)
          refine wpList_storeN rfl (.tmp 7) (.tmp 57) rfl x rfl R2 rfl Q (hbx.whole (by simp)) hQs (by rw [HPP.out.1]; exact rn_size) (by rw [HPP.out.1]; exact rone HPP.out.2.1) ?_
          clear hbx
          go_wp2_with fail
          refine hQ.out _ _ ⟨v2, n2, R2, ?_, ?_⟩
          · simp [Iv.upd, hi, hd, d9, d7, sl_true, sl_false, so_true, so_false]
          · exact ⟨⟨fun e => by simp [Iv.upd, d7] at e, fun _ e => by simp [Iv.upd] at e, fun _ => HBX.out, fun _ => hw.1.p d7⟩, hw.2.upd 11 (fun e => absurd e (by decide)) (fun _ => d7) (fun e => absurd e (by decide))⟩
        · rintro f a0 y Q' ⟨v2, n2, R2, rfl, hw⟩ hi hd hQ
          replace hQ := Lib.hid hQ
          simp [Iv.depsB, Region.binds] at hd
          try simp only [hi, hd, sl_true, sl_false, so_true, so_false]
          try simp only [hi, sl_true, sl_false, so_true, so_false]
          have d10 : f 10 = true := by simp [hd]
          have d7 := hw.2.2.2.2.1 d10
          try simp only [d10, so_true, so_false]
          go_wp2_with fail
          refine hQ.out _ _ ⟨v2, n2, R2, ?_, ?_⟩
          · simp [Iv.upd, hi, hd, d10, d7, sl_true, sl_false, so_true, so_false]
          · exact ⟨by simpa [Iv.upd] using hw.1, hw.2.upd 12 (fun e => absurd e (by decide)) (fun _ => d7) (fun e => absurd e (by decide))⟩
      · rintro f a0 y ⟨v2, n2, R2, rfl, hw⟩ hall
        simp only [hall 0 (by decide), hall 1 (by decide), hall 2 (by decide), hall 3 (by decide), hall 4 (by decide), hall 5 (by decide), hall 6 (by decide), hall 7 (by decide), hall 8 (by decide), hall 9 (by decide), hall 10 (by decide), hall 11 (by decide), hall 12 (by decide), sl_true, ↓reduceIte, so_true, so_false] at hw ⊢
        clear hall
        have H6 := Lib.hid (hw.1.c rfl)
        have HP6 := Lib.hid (hw.1.p rfl)
        clear hw H5 HFEW HCC HDO
        obtain ⟨A2, c2, rfl, -, -, -⟩ := H6.out.rs.lies
        have HLD := Lib.hid (rn_66 (nodes := n2.nodes) (sent := n2.sent) (off := n2.off) (v := .slice A2 n2.under.length c2))
        rw [← HP6.out.1] at HLD
        go_wp2_with fail
        refine Iv.region (fun f aa y => ∃ A1 c1, aa = ⟨#[.int .i64 m0, Value.slice (some ⟨b0', off, none⟩) l.length cap, undef, undef, u4, ptr g, .int .i64 0, .pointer (some ⟨x, 0, none⟩), (.bool true), .int .i64 (k : Int), .tuple #[ptr g, .int .i64 0], .int .i64 m0, .tuple #[ptr g, .int .i64 0], ptr g, .int .i64 0, .tuple #[.agg R, .bool true], .int .i64 m0, .tuple #[.agg R, .bool true], .agg R, .bool true, .bool true, .bool false, .bool false, .int .i64 0, .bool true, .bool true, .bool false, .bool false, .bool false, ptr g, .bool false, .bool true, .bool false, .bool false, ptr g, .bool false, undef, undef, .int .i64 (k : Int), Value.slice (some ⟨b0', off, none⟩) l.length cap, .int .i64 (l.length : Int), .bool true, .bool true, .int .i64 (k : Int), .bool true, .bool true, u46, u47, (Value.tuple #[.agg R2, .bool true]), ((ptr g)), (Value.agg Q), (Value.slice (some ⟨b0', off, none⟩) l.length cap), (.int .i64 (k : Int)), (.pointer (some ⟨b0', off + k * 5, none⟩)), (Value.agg #[.int .i64 kd, .int .i64 va, .int .i64 vb, .string S1, .bool vo]), (Value.agg #[.int .i64 kd, .int .i64 va, .int .i64 vb, .string S2, .bool vo]), (Value.tuple #[.agg R2, .bool true]), (Value.agg R2), (.bool true), so (f 0) (.bool true) u59, so (f 1) (.bool false) u60, so (f 2) (.bool false) u61, so (f 3) ((ptr g)) u62, so (f 4) (.slice A1 n2.under.length c1) u63, so (f 5) (.pointer (some ⟨x, 66, none⟩)) u64, so (f 6) (.slice A2 n2.under.length c2) u65, so (f 7) (.bool true) u66, so (f 8) (.bool false) u67, so (f 9) (.bool false) u68], []⟩ ∧ Tn w y x g R2 (.slice A2 n2.under.length c2) n2 A1 c1 (f 4) ∧ (f 7 = true → f 4 = true)) (by kernel_rfl) (by kernel_rfl) ?_ ?_ ?_
        · exact ⟨none, 0, rfl, ⟨⟨H6.out.call (below_drewN (Below.refl _ _) 1), fun h => by cases h⟩, fun h => by cases h⟩⟩
        · refine ⟨?_, ?_, ?_, ?_, ?_, ?_, ?_, ?_, ?_, ?_, trivial⟩
          · rintro f a0 y Q' ⟨A1, c1, rfl, hw⟩ hi hd hQ
            replace hQ := Lib.hid hQ
            simp [Iv.depsB, Region.binds] at hd
            try simp only [hi, hd, sl_true, sl_false, so_true, so_false]
            try simp only [hi, sl_true, sl_false, so_true, so_false]
            go_wp2_with fail
            refine hQ.out _ _ ⟨A1, c1, ?_, ?_⟩
            · simp [Iv.upd, hi, hd, sl_true, sl_false, so_true, so_false]
            · simpa [Iv.upd, hi, hd] using hw
          · rintro f a0 y Q' ⟨A1, c1, rfl, hw⟩ hi hd hQ
            replace hQ := Lib.hid hQ
            simp [Iv.depsB, Region.binds] at hd
            try simp only [hi, hd, sl_true, sl_false, so_true, so_false]
            try simp only [hi, sl_true, sl_false, so_true, so_false]
            have d0 : f 0 = true := by simp [hd]
            try simp only [d0, so_true, so_false]
            go_wp2_with fail
            refine hQ.out _ _ ⟨A1, c1, ?_, ?_⟩
            · simp [Iv.upd, hi, hd, d0, sl_true, sl_false, so_true, so_false]
            · simpa [Iv.upd, hi, hd, d0] using hw
          · rintro f a0 y Q' ⟨A1, c1, rfl, hw⟩ hi hd hQ
            replace hQ := Lib.hid hQ
            simp [Iv.depsB, Region.binds] at hd
            try simp only [hi, hd, sl_true, sl_false, so_true, so_false]
            try simp only [hi, sl_true, sl_false, so_true, so_false]
            have d1 : f 1 = true := by simp [hd]
            try simp only [d1, so_true, so_false]
            go_wp2_with fail
            refine hQ.out _ _ ⟨A1, c1, ?_, ?_⟩
            · simp [Iv.upd, hi, hd, d1, sl_true, sl_false, so_true, so_false]
            · simpa [Iv.upd, hi, hd, d1] using hw
          · rintro f a0 y Q' ⟨A1, c1, rfl, hw⟩ hi hd hQ
            replace hQ := Lib.hid hQ
            simp [Iv.depsB, Region.binds] at hd
            try simp only [hi, hd, sl_true, sl_false, so_true, so_false]
            try simp only [hi, sl_true, sl_false, so_true, so_false]
            have d2 : f 2 = true := by simp [hd]
            try simp only [d2, so_true, so_false]
            go_wp2_with fail
            refine hQ.out _ _ ⟨A1, c1, ?_, ?_⟩
            · simp [Iv.upd, hi, hd, d2, sl_true, sl_false, so_true, so_false]
            · simpa [Iv.upd, hi, hd, d2] using hw
          · rintro f a0 y Q' ⟨A1, c1, rfl, hw⟩ hi hd hQ
            replace hQ := Lib.hid hQ
            simp [Iv.depsB, Region.binds] at hd
            try simp only [hi, hd, sl_true, sl_false, so_true, so_false]
            try simp only [hi, sl_true, sl_false, so_true, so_false]
            have d2 : f 2 = true := by simp [hd]
            have d3 : f 3 = true := by simp [hd]
            try simp only [d2, d3, so_true, so_false]
            have h7 : f 7 = false := by
              cases e : f 7 with
              | false => rfl
              | true => have := hw.2 e; simp [hi] at this
            have HT := Lib.hid hw.1.a
            have hcc := Lib.hid hw.1.a.lp.told
            clear hw
            go_wp2_with fail
            refine hcc.out.mono ?_
            rintro e y1 ⟨A3, c3, rfl, hc3, hs3, hb3⟩
            have HN := Lib.hid (show Tn w y1 x g R2 (.slice A2 n2.under.length c2) n2 A3 c3 true from ⟨HT.out.call hb3, fun _ => ⟨hc3, hs3⟩⟩)
            clear hcc hs3 hb3 HT
            go_wp2_with fail
            refine hQ.out _ _ ⟨A3, c3, ?_, ?_⟩
            · simp [Iv.upd, hi, hd, d2, d3, h7, sl_true, sl_false, so_true, so_false]
            · simpa [Iv.upd, hi, hd, d2, d3, h7] using HN.out
          · rintro f a0 y Q' ⟨A1, c1, rfl, hw⟩ hi hd hQ
            replace hQ := Lib.hid hQ
            simp [Iv.depsB, Region.binds] at hd
            try simp only [hi, hd, sl_true, sl_false, so_true, so_false]
            try simp only [hi, sl_true, sl_false, so_true, so_false]
            have d2 : f 2 = true := by simp [hd]
            try simp only [d2, so_true, so_false]
            go_wp2_with fail
            refine hQ.out _ _ ⟨A1, c1, ?_, ?_⟩
            · simp [Iv.upd, hi, hd, d2, sl_true, sl_false, so_true, so_false]
            · simpa [Iv.upd, hi, hd, d2] using hw
          · rintro f a0 y Q' ⟨A1, c1, rfl, hw⟩ hi hd hQ
            replace hQ := Lib.hid hQ
            simp [Iv.depsB, Region.binds] at hd
            try simp only [hi, hd, sl_true, sl_false, so_true, so_false]
            try simp only [hi, sl_true, sl_false, so_true, so_false]
            have d2 : f 2 = true := by simp [hd]
            have d5 : f 5 = true := by simp [hd]
            try simp only [d2, d5, so_true, so_false]
            have c0 := ((hw.1.a.whole (x := x) (t := 38) (cs := R2) (by simp)).cell 66).trans HLD.out
            have HW := Lib.hid hw
            clear hw
            go_wp2_with fail
            refine hQ.out _ _ ⟨A1, c1, ?_, ?_⟩
            · simp [Iv.upd, hi, hd, d2, d5, sl_true, sl_false, so_true, so_false]
            · simpa [Iv.upd, hi, hd, d2, d5] using HW.out
          · rintro f a0 y Q' ⟨A1, c1, rfl, hw⟩ hi hd hQ
            replace hQ := Lib.hid hQ
            simp [Iv.depsB, Region.binds] at hd
            try simp only [hi, hd, sl_true, sl_false, so_true, so_false]
            try simp only [hi, sl_true, sl_false, so_true, so_false]
            have d2 : f 2 = true := by simp [hd]
            have d4 : f 4 = true := by simp [hd]
            have d6 : f 6 = true := by simp [hd]
            try simp only [d2, d4, d6, so_true, so_false]
            have hsh := hw.1.a.shows
            obtain ⟨hcl, hs1⟩ := hw.1.b d4
            have hcc := Lib.hid (told_any n2.under hw.1.a.lp.fine.few A1 A2 c1 c2 _ _ y hs1 hsh.2.2 (Nat.le_refl _) (Nat.le_refl _) hcl hsh.2.1)
            have HW := Lib.hid hw
            clear hw hsh hcl hs1
            go_wp2_with fail
            refine hcc.out.mono ?_
            rintro e y1 ⟨rfl, hb3⟩
            have HN := Lib.hid (HW.out.1.call hb3)
            clear hcc hb3
            go_wp2_with fail
            have hN := HN.out
            rw [d4] at hN
            refine hQ.out _ _ ⟨A1, c1, ?_, ?_⟩
            · simp [Iv.upd, hi, hd, d2, d4, d6, sl_true, sl_false, so_true, so_false]
            · simpa [Iv.upd, hi, hd, d2, d4, d6] using hN
          · rintro f a0 y Q' ⟨A1, c1, rfl, hw⟩ hi hd hQ
            replace hQ := Lib.hid hQ
            simp [Iv.depsB, Region.binds] at hd
            try simp only [hi, hd, sl_true, sl_false, so_true, so_false]
            try simp only [hi, sl_true, sl_false, so_true, so_false]
            have d2 : f 2 = true := by simp [hd]
            have d7 : f 7 = true := by simp [hd]
            try simp only [d2, d7, so_true, so_false]
            have d4 := hw.2 d7
            go_wp2_with fail
            refine hQ.out _ _ ⟨A1, c1, ?_, ?_⟩
            · simp [Iv.upd, hi, hd, d2, d7, d4, sl_true, sl_false, so_true, so_false]
            · simpa [Iv.upd, hi, hd, d2, d7, d4] using hw
          · rintro f a0 y Q' ⟨A1, c1, rfl, hw⟩ hi hd hQ
            replace hQ := Lib.hid hQ
            simp [Iv.depsB, Region.binds] at hd
            try simp only [hi, hd, sl_true, sl_false, so_true, so_false]
            try simp only [hi, sl_true, sl_false, so_true, so_false]
            have d2 : f 2 = true := by simp [hd]
            have d8 : f 8 = true := by simp [hd]
            try simp only [d2, d8, so_true, so_false]
            go_wp2_with fail
            refine hQ.out _ _ ⟨A1, c1, ?_, ?_⟩
            · simp [Iv.upd, hi, hd, d2, d8, sl_true, sl_false, so_true, so_false]
            · simpa [Iv.upd, hi, hd, d2, d8] using hw
        · rintro f a0 y ⟨A1, c1, rfl, hw⟩ hall
          simp only [hall 0 (by decide), hall 1 (by decide), hall 2 (by decide), hall 3 (by decide), hall 4 (by decide), hall 5 (by decide), hall 6 (by decide), hall 7 (by decide), hall 8 (by decide), hall 9 (by decide), sl_true, ↓reduceIte, so_true, so_false] at hw ⊢
          clear hall
          have H7 := Lib.hid hw.1.a
          clear hw H6
          go_wp2_with fail
          go_roundw
          case rel => exact ⟨k + 1, .slice A2 n2.under.length c2, n2, by omega, by omega, by go_num, HP6.out.2.2.1, HP6.out.2.2.2, by unfold Px; rw [← HP6.out.1]; exact H7.out⟩
          case measure => simp [intOf]; omega
    · have hend : k = l.length ∨ (k < l.length ∧ k = 60) := by omega
      rcases hend with rfl | ⟨h1, rfl⟩
      · go_wp2_with fail
        go_ret
        exact ⟨rfl, H5.out.lp.st.below⟩
      · have g1 : ((60 : Nat) : Int) < (l.length : Int) := by omega
        go_wp2_with fail
        go_ret
        exact ⟨rfl, H5.out.lp.st.below⟩

set_option maxRecDepth 100000 in
theorem lifted (os : Os) (started : os.Started) (H : Type) (enc : TypeId × Value → H) :
    ReturnsInHanded {} Try.checked os 4 .any (Rows.postPlaysSpec.pre6 enc Try.prog Try.f4 Rows.postPlaysRow.domain false) (Rows.postPlaysSpec.post enc Try.prog Try.f4 false true false false) := by
  refine returnsInHanded_of_change (C := Try.checked) own started (by kernel_rfl) Try.func4
    (ChangeSpec.witness6 (enc := enc) (C := Try.checked) false ⟨#[], #[.int .i64 0, .slice none 0 0], []⟩ 8 (by kernel_rfl) (by kernel_rfl) (by kernel_rfl) (by kernel_rfl)) ?_
  intro W base args ds gs before hval0 hW hcnd _
  have hval : ∀ (j : Nat) t v, Try.f4.params[j]? = some t → args[j]? = some v → Value.okWide Try.prog W .any base t v := hval0
  have hW' := hW
  obtain ⟨p, q, hA0, hV, rfl, hfz, hnd⟩ := hW
  have hA : DataW.TrodAll enc Try.prog W 0 (fun _ => true) true Try.f4.params.toList args.toList ds p := hA0
  rw [Try.params4] at hA hval
  obtain ⟨v0, vs0, d0, ds0, p0, q0, hargs, rfl, rfl, h0, r0⟩ := trodAll_cons hA
  obtain ⟨v1, vs1, d1, ds1, p1, q1, rfl, rfl, rfl, h1, r1⟩ := trodAll_cons r0
  obtain ⟨rfl, rfl, rfl⟩ := trodAll_nil r1
  obtain rfl : args = #[v0, v1] := by cases args; simp_all
  obtain ⟨rfl, rfl⟩ := trodVars_none hV
  obtain ⟨a0, rfl⟩ := okWide_int Try.underlying3 (hval 0 3 v0 rfl rfl)
  have w0 : -9223372036854775808 ≤ a0 ∧ a0 ≤ 9223372036854775807 := by
    obtain ⟨m, hm⟩ := h0
    obtain ⟨s, hs, _, hl⟩ := DataW.trod_int Try.underlying3 hm
    simp [Value.cells] at hs
    rw [hs]; have := bounds_i64 hl; omega
  have lt0 : ∀ x ∈ p0, x.block < W.heap.size := by obtain ⟨m, hm⟩ := h0; exact DataW.trod_lt m _ _ _ hm
  obtain ⟨A1, len1, cap1, rfl⟩ := okWide_slice Try.underlying30 (hval 1 30 v1 rfl rfl)
  obtain ⟨l1, w1⟩ := open_posts h1
  have lt1 : ∀ x ∈ p1, x.block < W.heap.size := by obtain ⟨m, hm⟩ := h1; exact DataW.trod_lt m _ _ _ hm
  clear hA0 hval0
  simp only [List.append_nil] at hW'
  refine (walk a0 w0 A1 len1 cap1 l1 W w1).mono fun e W' ⟨he, bel⟩ => ?_
  subst he
  exact ⟨_, rfl, _, _, _, [], _, [], hW', trodAll_mk1 (shut_bool Try.underlying4 _), (trodAll_cons_mk (Below.trod laidOut (by kernel_rfl) (of_decide_eq_true (by kernel_rfl)) h0 bel lt0) (trodAll_cons_mk (Below.trod laidOut (by kernel_rfl) (of_decide_eq_true (by kernel_rfl)) h1 bel lt1) trodAll_mk0)), rfl, bel.frame _, fun h => by cases h⟩

theorem proved : Rows.PostPlaysSaid :=
  OpenClaim.holds_of_wide 4 Try.f4 rfl rfl rfl rfl rfl rfl rfl ⟨rfl, rfl, rfl, rfl, rfl⟩ rfl rfl rfl rfl rfl (by kernel_rfl) Try.func4 (by kernel_rfl)
    (of_decide_eq_true (by kernel_rfl)) (by unfold Func.isWrapper; first | (rw [if_pos (by decide +kernel)]; kernel_rfl) | (rw [if_neg (by decide +kernel)]; exact ⟨rfl, rfl⟩))
    (fun os started H enc _ => lifted os started H enc)
#print axioms proved
end Go.Proofs.Ytmbednikbdfnmaa.postPlays
