/- Whoever ends holds nothing; no key lies idle that somebody waits for; when all have ended, nobody holds or waits; for every input, without conditions (of more calls the first 40 are made). -/
import Derived.Test.YtilognaadkcncaaLokEn
namespace Go.Proofs.Ytilognaadkcncaa.locksEnds
open Go.ChangeShapes Go.WideShapes Go.ChangeAt Go.RowKit Go.Lk
set_option linter.unusedVariables false
set_option linter.unusedSimpArgs false

set_option maxHeartbeats 16000000 in
set_option maxRecDepth 100000 in
theorem walk (A : Option Addr) (len cap : Nat) (l : List Op13) (w : World) (hL : IsR w A len cap 4 encO GO l) :
    Calls Try.prog 5 #[.slice A len cap] w fun r w' => r = .returned (.bool true) ∧ Below w.heap.size w w' := by
  obtain ⟨hlen, hs, hc1, hc2, hnil, hg⟩ := hL
  subst hlen
  have HS := Lib.hid hs
  have HGO := Lib.hid hg
  clear hs hg hnil
  go_enter Try.func5, Try.ntmps5
  go_wp2_with fail
  refine (knew _).mono ?_
  rintro e w1 ⟨rfl, -, k1⟩
  have H := Lib.hid k1
  clear k1
  generalize w.heap.size + 1 + 1 = g at *
  go_wp2_with fail
  refine (awake_any _).mono ?_
  rintro r w2 ⟨rfl, hb1⟩
  replace H := Lib.hid (H.out.call hb1)
  clear hb1
  go_wp2_with fail
  go_loopw [4] (fun i wr => ∃ (n : Nat) (s : Tb), n ≤ l.length ∧ n ≤ 40 ∧ i = .int .i64 (n : Int) ∧ Pk w wr [] g s (fun _ => False) n ∧ Hid (∀ y, s.inn y = true → ∃ (i : Nat) (o : Op13), i < n ∧ l[i]? = some o ∧ o.x = y)) (fun i _ => l.length - (intOf i).toNat)
  case atStart => exact ⟨0, newT, by omega, by omega, rfl, H.out, Lib.hid fun y hy => by cases hy⟩
  case round =>
    obtain ⟨n, s, hn1, hn2, rfl, hp, HI⟩ := hrel
    have HP := Lib.hid hp
    clear hp H
    by_cases hlt : n < l.length ∧ n < 40
    · obtain ⟨h1, h2⟩ := hlt
      obtain ⟨o, ho⟩ : ∃ o, l[n]? = some o := ⟨_, List.getElem?_eq_getElem h1⟩
      obtain ⟨b0, off, rfl, hb, hcc⟩ := (HS.out.below HP.out.st.below).item encO_len (by omega) n o ho
      have q0 := hcc 0 _ rfl
      have q1 := hcc 1 _ rfl
      have q2 := hcc 2 _ rfl
      have q3 := hcc 3 _ rfl
      rw [Nat.add_zero] at q0
      have i1 : (n : Int) < (l.length : Int) := by omega
      have i2 : (n : Int) < 40 := by omega
      have HDO := Lib.hid (does_any o (HGO.out o (List.mem_of_getElem? ho)) HP.out (by omega))
      have HI2 : Hid (∀ y, (run1 s o).inn y = true → ∃ (i : Nat) (o : Op13), i < n + 1 ∧ l[i]? = some o ∧ o.x = y) := Lib.hid fun y hy => by
        rcases run_inn HP.out.fine o y hy with h | h
        · obtain ⟨i, o', a1, a2, a3⟩ := HI.out y h
          exact ⟨i, o', by omega, a2, a3⟩
        · exact ⟨n, o, by omega, ho, h.symm⟩
      clear hcc ho HP HI
      generalize runA s o = R at *
      generalize runE s o = E at *
      generalize run1 s o = s' at *
      obtain ⟨r1, r2, r3⟩ := R
      obtain ⟨o1, o2, o3, o4⟩ := o
      dsimp only at *
      go_wp2_with fail
      refine HDO.out.mono ?_
      rintro e w4 ⟨A4, c4, B4, e4, rfl, hp, -, -, -⟩
      have HP4 := Lib.hid hp
      clear hp HDO
      go_wp2_with fail
      go_roundw
      case rel => exact ⟨n + 1, s', by omega, by omega, by go_num, HP4.out, HI2⟩
      case measure => simp [intOf]; omega
    · have hend : ((n : Int) < (l.length : Int) ∧ n = 40) ∨ (¬ (n : Int) < (l.length : Int)) := by omega
      have HI2 : Hid (∀ y, s.inn y = true → ∃ (i : Nat) (o : Op13), 0 ≤ i ∧ i < 40 ∧ l[i]? = some o ∧ o.x = y) := Lib.hid fun y hy => by
        obtain ⟨i, o', a1, a2, a3⟩ := HI.out y hy
        exact ⟨i, o', by omega, by omega, a2, a3⟩
      have HP2 : Hid (Pk w wr [] g s (fun _ => False) 40) := Lib.hid ⟨HP.out.st, HP.out.tab, HP.out.low, HP.out.fine, Nat.le_trans HP.out.few hn2⟩
      clear HI hlt HP
      rcases hend with ⟨i1, rfl⟩ | i1
      · go_wp2_with fail
        go_loopw [5] (fun i wr => ∃ (p : Nat) (s : Tb), p ≤ l.length ∧ p ≤ 40 ∧ i = .int .i64 (p : Int) ∧ Pk w wr [] g s (fun _ => False) 40 ∧ Hid (∀ y, s.inn y = true → ∃ (i : Nat) (o : Op13), p ≤ i ∧ i < 40 ∧ l[i]? = some o ∧ o.x = y)) (fun i _ => l.length - (intOf i).toNat)
        case atStart => exact ⟨0, s, by omega, by omega, rfl, HP2.out, HI2⟩
        case round =>
          obtain ⟨p, s, hp1, hp2, rfl, hp, HI⟩ := hrel
          have HP := Lib.hid hp
          clear hp HP2 HI2
          by_cases hlt : p < l.length ∧ p < 40
          · obtain ⟨h1, h2⟩ := hlt
            obtain ⟨o, ho⟩ : ∃ o, l[p]? = some o := ⟨_, List.getElem?_eq_getElem h1⟩
            obtain ⟨b0, off, rfl, hb0, hcc⟩ := (HS.out.below HP.out.st.below).item encO_len (by omega) p o ho
            have HOX : Hid (∀ y, Below w.heap.size w y → y.cell? ⟨b0, off + p * 4 + 1, none⟩ = some (.int .i64 o.x)) := Lib.hid fun y hy => by
              obtain ⟨b9, off9, hA9, -, hc9⟩ := (HS.out.below hy).item encO_len (by omega) p o ho
              injection hA9 with hA9
              injection hA9 with hA9 hA10
              subst hA9 hA10
              exact hc9 1 _ rfl
            have q1 := hcc 1 _ rfl
            have j1 : (p : Int) < (l.length : Int) := by omega
            have j2 : (p : Int) < 40 := by omega
            have HC := Lib.hid (kend o.x (HGO.out o (List.mem_of_getElem? ho)).x HP.out (by omega))
            have HI2 : Hid (∀ y, (endS s o.x).inn y = true → ∃ (i : Nat) (o : Op13), p + 1 ≤ i ∧ i < 40 ∧ l[i]? = some o ∧ o.x = y) := Lib.hid fun y hy => by
              obtain ⟨e1, e2⟩ := end_gone HP.out.fine y hy
              obtain ⟨i, o', a1, a2, a3, a4⟩ := HI.out y e1
              refine ⟨i, o', ?_, a2, a3, a4⟩
              rcases Nat.eq_or_lt_of_le a1 with e | e
              · subst e
                rw [ho] at a3
                injection a3 with a3
                exact absurd (by rw [← a4, a3]) e2
              · exact e
            have HNO := Lib.hid (fun k => end_none HP.out.fine k (x := o.x))
            clear hcc ho HI HP
            generalize endS s o.x = s' at *
            generalize endA s o.x = R at *
            obtain ⟨o1, o2, o3, o4⟩ := o
            dsimp only at *
            generalize (if o2 < 1 then (130 : Int) else 0) = E at *
            go_wp2_with fail
            refine HC.out.mono ?_
            rintro e w5 ⟨A5, c5, rfl, hp, -, -⟩
            have HP5 := Lib.hid hp
            clear hp HC q1
            go_wp2_with fail
            go_loopw [6] (fun kk wr => ∃ q : Nat, q ≤ l.length ∧ q ≤ 40 ∧ kk = .int .i64 (q : Int) ∧ Pk w wr [] g s' (fun _ => False) 40) (fun kk _ => l.length - (intOf kk).toNat)
            case atStart => exact ⟨0, by omega, by omega, rfl, HP5.out⟩
            case round =>
              obtain ⟨q, hq1, hq2, rfl, hp⟩ := hrel
              have HP5 := Lib.hid hp
              clear hp
              by_cases hlt : q < l.length ∧ q < 40
              · obtain ⟨h3, h4⟩ := hlt
                obtain ⟨oq, ho2⟩ : ∃ oq, l[q]? = some oq := ⟨_, List.getElem?_eq_getElem h3⟩
                have HC5 : Hid (∀ y, Below wr.heap.size wr y → y.cell? ⟨b0, off + q * 4 + 2, none⟩ = some (.int .i64 oq.key)) := Lib.hid fun y hy => by
                  obtain ⟨b9, off9, hA9, -, hc9⟩ := (HS.out.below (HP5.out.st.below.trans (hy.mono HP5.out.st.below.size))).item encO_len (by omega) q oq ho2
                  injection hA9 with hA9
                  injection hA9 with hA9 hA10
                  subst hA9 hA10
                  exact hc9 2 _ rfl
                have hkey := (HGO.out oq (List.mem_of_getElem? ho2)).key
                have HH := Lib.hid (fun y (hy : Below wr.heap.size wr y) => kholds oq.key hkey (HP5.out.call hy) (by omega))
                have HWT := Lib.hid (fun y (hy : Below wr.heap.size wr y) => kwaits oq.key hkey (HP5.out.call hy) (by omega))
                have HID := Lib.hid (idle_len HP5.out.fine (k := oq.key))
                have HN1 := Lib.hid (HNO.out oq.key)
                have hsl : (supp (s'.h oq.key)).length ≤ 40 ∧ (supp (s'.w oq.key)).length ≤ 40 := ⟨Nat.le_trans (mid_fewh HP5.out.fine oq.key) HP5.out.few, Nat.le_trans (mid_feww HP5.out.fine oq.key) HP5.out.few⟩
                generalize fl (s'.h oq.key) = f1 at *
                generalize fl (s'.w oq.key) = f2 at *
                generalize supp (s'.h oq.key) = S1 at *
                generalize supp (s'.w oq.key) = S2 at *
                obtain ⟨hs1, hs2⟩ := hsl
                obtain ⟨k2, x2, key2, bb2⟩ := oq
                dsimp only at *
                clear ho2 hkey
                have q4 : (q : Int) < (l.length : Int) := by omega
                have q5 : (q : Int) < 40 := by omega
                go_wp2_with fail
                refine Iv.region (fun f aa y => ∃ Ah ch Aw cw, aa = ⟨#[.slice (some ⟨b0, off, none⟩) l.length cap, undef, u2, ptr g, .int .i64 40, .int .i64 (p : Int), .int .i64 (q : Int), so (f 14) (.slice Ah S1.length ch) u7, so (f 15) (.slice Aw S2.length cw) u8, u9, u10, undef, ptr g, .bool true, .bool false, .bool false, ptr g, .bool false, .bool false, .int .i64 40, .slice (some ⟨b0, off, none⟩) l.length cap, .int .i64 (l.length : Int), .bool true, .bool true, .int .i64 40, .bool false, .bool false, u27, u28, u29, u30, u31, u32, u33, u34, .int .i64 (p : Int), .slice (some ⟨b0, off, none⟩) l.length cap, .int .i64 (l.length : Int), .bool true, .bool true, .int .i64 (p : Int), .bool true, .bool true, u43, u44, ptr g, .slice (some ⟨b0, off, none⟩) l.length cap, .int .i64 (p : Int), .pointer (some ⟨b0, off + p * 4, none⟩), .pointer (some ⟨b0, off + p * 4 + 1, none⟩), .int .i64 o2, .tuple #[.slice A5 R.length c5, .int .i64 E], .int .i64 (q : Int), .slice (some ⟨b0, off, none⟩) l.length cap, .int .i64 (l.length : Int), .bool true, .bool true, .int .i64 (q : Int), .bool true, .bool true, u60, u61, so (f 0) (ptr g) u62, so (f 1) (.slice (some ⟨b0, off, none⟩) l.length cap) u63, so (f 2) (.int .i64 (q : Int)) u64, so (f 3) (.pointer (some ⟨b0, off + q * 4, none⟩)) u65, so (f 4) (.pointer (some ⟨b0, off + q * 4 + 2, none⟩)) u66, so (f 5) (.int .i64 key2) u67, so (f 6) (.slice Ah S1.length ch) u68, so (f 7) (ptr g) u69, so (f 8) (.slice (some ⟨b0, off, none⟩) l.length cap) u70, so (f 9) (.int .i64 (q : Int)) u71, so (f 10) (.pointer (some ⟨b0, off + q * 4, none⟩)) u72, so (f 11) (.pointer (some ⟨b0, off + q * 4 + 2, none⟩)) u73, so (f 12) (.int .i64 key2) u74, so (f 13) (.slice Aw S2.length cw) u75, u76, u77, u78, u79, u80, u81, u82, u83, u84, u85, u86, u87, u88, u89, u90, u91, u92, u93, u94, u95, u96, u97, u98, u99, u100, u101, u102, u103, u104, u105, u106, u107, u108, u109, u110, u111, u112, u113, u114, u115, u116, u117, undef, undef, undef, undef, undef, undef, undef, undef, undef, undef, undef, undef, undef, undef, undef, undef, undef, undef, undef, undef, undef, undef, undef, undef, undef, undef, undef, undef, undef, undef, undef, undef, undef, undef, undef, undef, undef], []⟩ ∧ Hw wr y S1 S2 f1 f2 Ah Aw (f 6) (f 13) ∧ (f 14 = true → f 6 = true) ∧ (f 15 = true → f 13 = true)) (by kernel_rfl) (by kernel_rfl) ?_ ?_ ?_
                · exact ⟨none, 0, none, 0, rfl, Hw.start wr (drew_below wr 1), (fun h => by cases h), (fun h => by cases h)⟩
                · refine ⟨?_, ?_, ?_, ?_, ?_, ?_, ?_, ?_, ?_, ?_, ?_, ?_, ?_, ?_, ?_, ?_, trivial⟩
                  · rintro f a0 y Q' ⟨Ah, ch, Aw, cw, rfl, hw⟩ hi hd hQ
                    replace hQ := Lib.hid hQ
                    simp [Iv.depsB, Region.binds] at hd
                    try simp only [hi, hd, sl_true, sl_false, so_true, so_false]
                    try simp only [hi, sl_true, sl_false, so_true, so_false]
                    go_wp2_with fail
                    refine hQ.out _ _ ⟨Ah, ch, Aw, cw, ?_, ?_⟩
                    · simp [Iv.upd, hi, hd, sl_true, sl_false, so_true, so_false]
                    · simpa [Iv.upd, hi, hd] using hw
                  · rintro f a0 y Q' ⟨Ah, ch, Aw, cw, rfl, hw⟩ hi hd hQ
                    replace hQ := Lib.hid hQ
                    simp [Iv.depsB, Region.binds] at hd
                    try simp only [hi, hd, sl_true, sl_false, so_true, so_false]
                    try simp only [hi, sl_true, sl_false, so_true, so_false]
                    go_wp2_with fail
                    refine hQ.out _ _ ⟨Ah, ch, Aw, cw, ?_, ?_⟩
                    · simp [Iv.upd, hi, hd, sl_true, sl_false, so_true, so_false]
                    · simpa [Iv.upd, hi, hd] using hw
                  · rintro f a0 y Q' ⟨Ah, ch, Aw, cw, rfl, hw⟩ hi hd hQ
                    replace hQ := Lib.hid hQ
                    simp [Iv.depsB, Region.binds] at hd
                    try simp only [hi, hd, sl_true, sl_false, so_true, so_false]
                    try simp only [hi, sl_true, sl_false, so_true, so_false]
                    go_wp2_with fail
                    refine hQ.out _ _ ⟨Ah, ch, Aw, cw, ?_, ?_⟩
                    · simp [Iv.upd, hi, hd, sl_true, sl_false, so_true, so_false]
                    · simpa [Iv.upd, hi, hd] using hw
                  · rintro f a0 y Q' ⟨Ah, ch, Aw, cw, rfl, hw⟩ hi hd hQ
                    replace hQ := Lib.hid hQ
                    simp [Iv.depsB, Region.binds] at hd
                    try simp only [hi, hd, sl_true, sl_false, so_true, so_false]
                    try simp only [hi, sl_true, sl_false, so_true, so_false]
                    go_wp2_with fail
                    refine hQ.out _ _ ⟨Ah, ch, Aw, cw, ?_, ?_⟩
                    · simp [Iv.upd, hi, hd, sl_true, sl_false, so_true, so_false]
                    · simpa [Iv.upd, hi, hd] using hw
                  · rintro f a0 y Q' ⟨Ah, ch, Aw, cw, rfl, hw⟩ hi hd hQ
                    replace hQ := Lib.hid hQ
                    simp [Iv.depsB, Region.binds] at hd
                    try simp only [hi, hd, sl_true, sl_false, so_true, so_false]
                    try simp only [hi, sl_true, sl_false, so_true, so_false]
                    go_wp2_with fail
                    refine hQ.out _ _ ⟨Ah, ch, Aw, cw, ?_, ?_⟩
                    · simp [Iv.upd, hi, hd, sl_true, sl_false, so_true, so_false]
                    · simpa [Iv.upd, hi, hd] using hw
                  · rintro f a0 y Q' ⟨Ah, ch, Aw, cw, rfl, hw⟩ hi hd hQ
                    replace hQ := Lib.hid hQ
                    simp [Iv.depsB, Region.binds] at hd
                    try simp only [hi, hd, sl_true, sl_false, so_true, so_false]
                    try simp only [hi, sl_true, sl_false, so_true, so_false]
                    have u2 := HC5.out _ hw.1.bel
                    go_wp2_with fail
                    refine hQ.out _ _ ⟨Ah, ch, Aw, cw, ?_, ?_⟩
                    · simp [Iv.upd, hi, hd, sl_true, sl_false, so_true, so_false]
                    · simpa [Iv.upd, hi, hd] using hw
                  · rintro f a0 y Q' ⟨Ah, ch, Aw, cw, rfl, hw⟩ hi hd hQ
                    replace hQ := Lib.hid hQ
                    simp [Iv.depsB, Region.binds] at hd
                    try simp only [hi, hd, sl_true, sl_false, so_true, so_false]
                    try simp only [hi, sl_true, sl_false, so_true, so_false]
                    have e14 : f 14 = false := by
                      cases e : f 14 with
                      | false => rfl
                      | true => have h7 := hw.2.1 e; rw [hi] at h7; cases h7
                    have HQW := Lib.hid hw.1
                    have HQI := Lib.hid hw.2
                    rw [hi] at HQW
                    clear hw
                    try simp only [e14, so_true, so_false]
                    go_wp2_with fail
                    refine (HH.out y HQW.out.bel).mono ?_
                    rintro e y1 ⟨A3, cap3, rfl, hb, ho⟩
                    have HN := Lib.hid (show _ ∧ _ from ⟨HQW.out.row1 hb (Sees.own ho), HQI.out⟩)
                    clear hb ho
                    go_wp2_with fail
                    refine hQ.out _ _ ⟨A3, cap3, Aw, cw, ?_, ?_⟩
                    · simp [Iv.upd, hi, hd, sl_true, sl_false, so_true, so_false, e14]
                    · simpa [Iv.upd, hi, hd, e14] using HN.out
                  · rintro f a0 y Q' ⟨Ah, ch, Aw, cw, rfl, hw⟩ hi hd hQ
                    replace hQ := Lib.hid hQ
                    simp [Iv.depsB, Region.binds] at hd
                    try simp only [hi, hd, sl_true, sl_false, so_true, so_false]
                    try simp only [hi, sl_true, sl_false, so_true, so_false]
                    go_wp2_with fail
                    refine hQ.out _ _ ⟨Ah, ch, Aw, cw, ?_, ?_⟩
                    · simp [Iv.upd, hi, hd, sl_true, sl_false, so_true, so_false]
                    · simpa [Iv.upd, hi, hd] using hw
                  · rintro f a0 y Q' ⟨Ah, ch, Aw, cw, rfl, hw⟩ hi hd hQ
                    replace hQ := Lib.hid hQ
                    simp [Iv.depsB, Region.binds] at hd
                    try simp only [hi, hd, sl_true, sl_false, so_true, so_false]
                    try simp only [hi, sl_true, sl_false, so_true, so_false]
                    go_wp2_with fail
                    refine hQ.out _ _ ⟨Ah, ch, Aw, cw, ?_, ?_⟩
                    · simp [Iv.upd, hi, hd, sl_true, sl_false, so_true, so_false]
                    · simpa [Iv.upd, hi, hd] using hw
                  · rintro f a0 y Q' ⟨Ah, ch, Aw, cw, rfl, hw⟩ hi hd hQ
                    replace hQ := Lib.hid hQ
                    simp [Iv.depsB, Region.binds] at hd
                    try simp only [hi, hd, sl_true, sl_false, so_true, so_false]
                    try simp only [hi, sl_true, sl_false, so_true, so_false]
                    go_wp2_with fail
                    refine hQ.out _ _ ⟨Ah, ch, Aw, cw, ?_, ?_⟩
                    · simp [Iv.upd, hi, hd, sl_true, sl_false, so_true, so_false]
                    · simpa [Iv.upd, hi, hd] using hw
                  · rintro f a0 y Q' ⟨Ah, ch, Aw, cw, rfl, hw⟩ hi hd hQ
                    replace hQ := Lib.hid hQ
                    simp [Iv.depsB, Region.binds] at hd
                    try simp only [hi, hd, sl_true, sl_false, so_true, so_false]
                    try simp only [hi, sl_true, sl_false, so_true, so_false]
                    go_wp2_with fail
                    refine hQ.out _ _ ⟨Ah, ch, Aw, cw, ?_, ?_⟩
                    · simp [Iv.upd, hi, hd, sl_true, sl_false, so_true, so_false]
                    · simpa [Iv.upd, hi, hd] using hw
                  · rintro f a0 y Q' ⟨Ah, ch, Aw, cw, rfl, hw⟩ hi hd hQ
                    replace hQ := Lib.hid hQ
                    simp [Iv.depsB, Region.binds] at hd
                    try simp only [hi, hd, sl_true, sl_false, so_true, so_false]
                    try simp only [hi, sl_true, sl_false, so_true, so_false]
                    go_wp2_with fail
                    refine hQ.out _ _ ⟨Ah, ch, Aw, cw, ?_, ?_⟩
                    · simp [Iv.upd, hi, hd, sl_true, sl_false, so_true, so_false]
                    · simpa [Iv.upd, hi, hd] using hw
                  · rintro f a0 y Q' ⟨Ah, ch, Aw, cw, rfl, hw⟩ hi hd hQ
                    replace hQ := Lib.hid hQ
                    simp [Iv.depsB, Region.binds] at hd
                    try simp only [hi, hd, sl_true, sl_false, so_true, so_false]
                    try simp only [hi, sl_true, sl_false, so_true, so_false]
                    have u2 := HC5.out _ hw.1.bel
                    go_wp2_with fail
                    refine hQ.out _ _ ⟨Ah, ch, Aw, cw, ?_, ?_⟩
                    · simp [Iv.upd, hi, hd, sl_true, sl_false, so_true, so_false]
                    · simpa [Iv.upd, hi, hd] using hw
                  · rintro f a0 y Q' ⟨Ah, ch, Aw, cw, rfl, hw⟩ hi hd hQ
                    replace hQ := Lib.hid hQ
                    simp [Iv.depsB, Region.binds] at hd
                    try simp only [hi, hd, sl_true, sl_false, so_true, so_false]
                    try simp only [hi, sl_true, sl_false, so_true, so_false]
                    have e15 : f 15 = false := by
                      cases e : f 15 with
                      | false => rfl
                      | true => have h7 := hw.2.2 e; rw [hi] at h7; cases h7
                    have HQW := Lib.hid hw.1
                    have HQI := Lib.hid hw.2
                    rw [hi] at HQW
                    clear hw
                    try simp only [e15, so_true, so_false]
                    go_wp2_with fail
                    refine (HWT.out y HQW.out.bel).mono ?_
                    rintro e y1 ⟨A3, cap3, rfl, hb, ho⟩
                    have HN := Lib.hid (show _ ∧ _ from ⟨HQW.out.row2 hb (Sees.own ho), HQI.out⟩)
                    clear hb ho
                    go_wp2_with fail
                    refine hQ.out _ _ ⟨Ah, ch, A3, cap3, ?_, ?_⟩
                    · simp [Iv.upd, hi, hd, sl_true, sl_false, so_true, so_false, e15]
                    · simpa [Iv.upd, hi, hd, e15] using HN.out
                  · rintro f a0 y Q' ⟨Ah, ch, Aw, cw, rfl, hw⟩ hi hd hQ
                    replace hQ := Lib.hid hQ
                    simp [Iv.depsB, Region.binds] at hd
                    try simp only [hi, hd, sl_true, sl_false, so_true, so_false]
                    try simp only [hi, sl_true, sl_false, so_true, so_false]
                    have e6 : f 6 = true := by simp [hd]
                    go_wp2_with fail
                    refine hQ.out _ _ ⟨Ah, ch, Aw, cw, ?_, ?_⟩
                    · simp [Iv.upd, hi, hd, sl_true, sl_false, so_true, so_false, e6]
                    · simpa [Iv.upd, hi, hd, e6] using hw
                  · rintro f a0 y Q' ⟨Ah, ch, Aw, cw, rfl, hw⟩ hi hd hQ
                    replace hQ := Lib.hid hQ
                    simp [Iv.depsB, Region.binds] at hd
                    try simp only [hi, hd, sl_true, sl_false, so_true, so_false]
                    try simp only [hi, sl_true, sl_false, so_true, so_false]
                    have e13 : f 13 = true := by simp [hd]
                    go_wp2_with fail
                    refine hQ.out _ _ ⟨Ah, ch, Aw, cw, ?_, ?_⟩
                    · simp [Iv.upd, hi, hd, sl_true, sl_false, so_true, so_false, e13]
                    · simpa [Iv.upd, hi, hd, e13] using hw
                · rintro f a0 w6 ⟨Ah, ch, Aw, cw, rfl, hw⟩ hall
                  simp only [hall 0 (by decide), hall 1 (by decide), hall 2 (by decide), hall 3 (by decide), hall 4 (by decide), hall 5 (by decide), hall 6 (by decide), hall 7 (by decide), hall 8 (by decide), hall 9 (by decide), hall 10 (by decide), hall 11 (by decide), hall 12 (by decide), hall 13 (by decide), hall 14 (by decide), hall 15 (by decide), sl_true, ↓reduceIte, so_true, so_false] at hw ⊢
                  clear hall
                  have HP6 := Lib.hid (HP5.out.call hw.1.bel)
                  have HVH := Lib.hid (hw.1.h rfl)
                  have HVW := Lib.hid (hw.1.w rfl)
                  clear hw HH HWT HC5 HP5
                  have hid9 := HID.out
                  have hcase : (0 : Int) < (S1.length : Int) ∨ (S1.length = 0 ∧ S2.length = 0) := by omega
                  rcases hcase with hc | ⟨hc1', hc2'⟩
                  · have g1 : ((S1.length : Int) == 0) = false := by simpa using (by omega : ¬ (S1.length : Int) = 0)
                    go_wp2_with fail
                    go_loopw [9] (fun aa wr => ∃ a : Nat, a ≤ S1.length ∧ aa = .int .i64 (a : Int) ∧ Below w6.heap.size w6 wr) (fun aa _ => S1.length - (intOf aa).toNat)
                    case atStart => exact ⟨0, by omega, rfl, .refl _ _⟩
                    case round =>
                      obtain ⟨a, ha, rfl, hb⟩ := hrel
                      have HB7 := Lib.hid hb
                      clear hb
                      by_cases hlt2 : a < S1.length
                      · obtain ⟨x, hx⟩ : ∃ x, S1[a]? = some x := ⟨_, List.getElem?_eq_getElem hlt2⟩
                        have hne := HN1.out.1 x (List.mem_of_getElem? hx)
                        have hne2 : (x == o2) = false := by simpa using hne
                        obtain ⟨b4, f4, rfl, HRW⟩ := row_at HVH.out rfl HB7.out hx
                        have HCL : Hid (∀ z, Below wr.heap.size wr z → z.cell? ⟨b4, f4 + a * 2, none⟩ = some (.int .i64 x) ∧ z.cell? ⟨b0, off + p * 4 + 1, none⟩ = some (.int .i64 o2)) := Lib.hid fun z hz => ⟨(HRW.out z hz a x hx).1, HOX.out z (HP6.out.st.below.trans ((HB7.out.trans (hz.mono HB7.out.size)).mono HP6.out.st.below.size))⟩
                        have i4 : (a : Int) < (S1.length : Int) := by omega
                        clear hx hne HRW
                        obtain ⟨C, hC, HCc, HCf⟩ := below_class wr
                        go_wp2_with fail
                        refine region_in C hC (by kernel_rfl) (by kernel_rfl) ?_
                        iterate 11
                          (refine WQ.step (fun K hK => ?_)
                           go_simp
                           first
                             | (refine hK _ ?_; clear hK K)
                             | (apply Exists.intro
                                refine ⟨fun x1 hx1 => ?_, hK _ ?_⟩
                                · first
                                    | rfl
                                    | (obtain ⟨p1, p2⟩ := HCL.out _ (HCf.out _ hx1); go_simp; rfl)
                                clear hK K))
                        refine WQ.nil ?_
                        intro wn hw
                        have HBN := Lib.hid (HB7.out.trans ((HCf.out _ hw).mono HB7.out.size))
                        clear hw hC HCc HCf C HCL HB7
                        go_wp2_with fail
                        go_roundw
                        case rel => exact ⟨a + 1, by omega, by go_num, HBN.out⟩
                        case measure => simp [intOf]; omega
                      · obtain rfl : a = S1.length := by omega
                        have i4 : ¬ (S1.length : Int) < (S1.length : Int) := by omega
                        have HP6n := Lib.hid (HP6.out.call HB7.out)
                        have HVW7 := Lib.hid ((HVW.out.below HB7.out).more HB7.out.size)
                        clear HB7 HP6 HVW HVH
                        obtain ⟨wq, hwq⟩ : ∃ wq, wq = wr := ⟨_, rfl⟩
                        rw [← hwq] at HP6n HVW7
                        go_wp2_with fail
                        rw [← hwq]
                        clear hwq
                        go_loopw [10] (fun aa wr => ∃ a : Nat, a ≤ S2.length ∧ aa = .int .i64 (a : Int) ∧ Below wq.heap.size wq wr) (fun aa _ => S2.length - (intOf aa).toNat)
                        case atStart => exact ⟨0, by omega, rfl, .refl _ _⟩
                        case round =>
                          obtain ⟨a, ha, rfl, hb⟩ := hrel
                          have HB7 := Lib.hid hb
                          clear hb
                          by_cases hlt2 : a < S2.length
                          · obtain ⟨x, hx⟩ : ∃ x, S2[a]? = some x := ⟨_, List.getElem?_eq_getElem hlt2⟩
                            have hne := HN1.out.2 x (List.mem_of_getElem? hx)
                            have hne2 : (x == o2) = false := by simpa using hne
                            obtain ⟨b4, f4, rfl, HRW⟩ := row_at HVW7.out rfl HB7.out hx
                            have HCL : Hid (∀ z, Below wr.heap.size wr z → z.cell? ⟨b4, f4 + a * 2, none⟩ = some (.int .i64 x) ∧ z.cell? ⟨b0, off + p * 4 + 1, none⟩ = some (.int .i64 o2)) := Lib.hid fun z hz => ⟨(HRW.out z hz a x hx).1, HOX.out z (HP6n.out.st.below.trans ((HB7.out.trans (hz.mono HB7.out.size)).mono HP6n.out.st.below.size))⟩
                            have i4 : (a : Int) < (S2.length : Int) := by omega
                            clear hx hne HRW
                            obtain ⟨C, hC, HCc, HCf⟩ := below_class wr
                            go_wp2_with fail
                            refine region_in C hC (by kernel_rfl) (by kernel_rfl) ?_
                            iterate 11
                              (refine WQ.step (fun K hK => ?_)
                               go_simp
                               first
                                 | (refine hK _ ?_; clear hK K)
                                 | (apply Exists.intro
                                    refine ⟨fun x1 hx1 => ?_, hK _ ?_⟩
                                    · first
                                        | rfl
                                        | (obtain ⟨p1, p2⟩ := HCL.out _ (HCf.out _ hx1); go_simp; rfl)
                                    clear hK K))
                            refine WQ.nil ?_
                            intro wn hw
                            have HBN := Lib.hid (HB7.out.trans ((HCf.out _ hw).mono HB7.out.size))
                            clear hw hC HCc HCf C HCL HB7
                            go_wp2_with fail
                            go_roundw
                            case rel => exact ⟨a + 1, by omega, by go_num, HBN.out⟩
                            case measure => simp [intOf]; omega
                          · obtain rfl : a = S2.length := by omega
                            have i4 : ¬ (S2.length : Int) < (S2.length : Int) := by omega
                            have HP8 := Lib.hid (HP6n.out.call HB7.out)
                            clear HB7 HP6n HVW7
                            go_wp2_with fail
                            go_roundw
                            case rel => exact ⟨q + 1, by omega, by omega, by go_num, HP8.out⟩
                            case measure => simp [intOf]; omega
                  · have g1 : ((S1.length : Int) == 0) = true := by simpa using hc1'
                    have g2 : ((S2.length : Int) > 0) = False := by rw [hc2']; simp
                    go_wp2_with fail
                    go_loopw [9] (fun aa wr => ∃ a : Nat, a ≤ S1.length ∧ aa = .int .i64 (a : Int) ∧ Below w6.heap.size w6 wr) (fun aa _ => S1.length - (intOf aa).toNat)
                    case atStart => exact ⟨0, by omega, rfl, .refl _ _⟩
                    case round =>
                      obtain ⟨a, ha, rfl, hb⟩ := hrel
                      have HB7 := Lib.hid hb
                      clear hb
                      by_cases hlt2 : a < S1.length
                      · exfalso; omega
                      · obtain rfl : a = S1.length := by omega
                        have i4 : ¬ (S1.length : Int) < (S1.length : Int) := by omega
                        have HP6n := Lib.hid (HP6.out.call HB7.out)
                        have HVW7 := Lib.hid ((HVW.out.below HB7.out).more HB7.out.size)
                        clear HB7 HP6 HVW HVH
                        obtain ⟨wq, hwq⟩ : ∃ wq, wq = wr := ⟨_, rfl⟩
                        rw [← hwq] at HP6n HVW7
                        go_wp2_with fail
                        rw [← hwq]
                        clear hwq
                        go_loopw [10] (fun aa wr => ∃ a : Nat, a ≤ S2.length ∧ aa = .int .i64 (a : Int) ∧ Below wq.heap.size wq wr) (fun aa _ => S2.length - (intOf aa).toNat)
                        case atStart => exact ⟨0, by omega, rfl, .refl _ _⟩
                        case round =>
                          obtain ⟨a, ha, rfl, hb⟩ := hrel
                          have HB7 := Lib.hid hb
                          clear hb
                          by_cases hlt2 : a < S2.length
                          · exfalso; omega
                          · obtain rfl : a = S2.length := by omega
                            have i4 : ¬ (S2.length : Int) < (S2.length : Int) := by omega
                            have HP8 := Lib.hid (HP6n.out.call HB7.out)
                            clear HB7 HP6n HVW7
                            go_wp2_with fail
                            go_roundw
                            case rel => exact ⟨q + 1, by omega, by omega, by go_num, HP8.out⟩
                            case measure => simp [intOf]; omega
              · have hend2 : ((q : Int) < (l.length : Int) ∧ q = 40) ∨ (¬ (q : Int) < (l.length : Int)) := by omega
                rcases hend2 with ⟨j3, rfl⟩ | j3
                all_goals try (exfalso; omega)
                all_goals
                  go_wp2_with fail
                  go_roundw
                  case rel => exact ⟨p + 1, s', by omega, by omega, by go_num, HP5.out, HI2⟩
                  case measure => simp [intOf]; omega
          · have hend2 : ((p : Int) < (l.length : Int) ∧ p = 40) ∨ (¬ (p : Int) < (l.length : Int)) := by omega
            have HOUT : Hid (∀ y, s.inn y ≠ true) := Lib.hid fun y hy => by
              obtain ⟨i, o', a1, a2, a3, a4⟩ := HI.out y hy
              have := (List.getElem?_eq_some_iff.1 a3).1
              omega
            clear HI
            rcases hend2 with ⟨j3, rfl⟩ | j3
            all_goals try (exfalso; omega)
            all_goals
              go_wp2_with fail
              go_loopw [11] (fun kk wr => ∃ q : Nat, q ≤ l.length ∧ q ≤ 40 ∧ kk = .int .i64 (q : Int) ∧ Pk w wr [] g s (fun _ => False) 40) (fun kk _ => l.length - (intOf kk).toNat)
              case atStart => exact ⟨0, by omega, by omega, rfl, HP.out⟩
              case round =>
                obtain ⟨q, hq1, hq2, rfl, hp⟩ := hrel
                have HP5 := Lib.hid hp
                clear hp HP
                by_cases hlt : q < l.length ∧ q < 40
                · obtain ⟨h3, h4⟩ := hlt
                  obtain ⟨oq, ho2⟩ : ∃ oq, l[q]? = some oq := ⟨_, List.getElem?_eq_getElem h3⟩
                  obtain ⟨b0, off, rfl, hb0, hcc⟩ := (HS.out.below HP5.out.st.below).item encO_len (by omega) q oq ho2
                  have HC5 : Hid (∀ y, Below wr.heap.size wr y → y.cell? ⟨b0, off + q * 4 + 2, none⟩ = some (.int .i64 oq.key) ∧ y.cell? ⟨b0, off + q * 4 + 1, none⟩ = some (.int .i64 oq.x)) := Lib.hid fun y hy => by
                    obtain ⟨b9, off9, hA9, -, hc9⟩ := (HS.out.below (HP5.out.st.below.trans (hy.mono HP5.out.st.below.size))).item encO_len (by omega) q oq ho2
                    injection hA9 with hA9
                    injection hA9 with hA9 hA10
                    subst hA9 hA10
                    exact ⟨hc9 2 _ rfl, hc9 1 _ rfl⟩
                  have hgo := HGO.out oq (List.mem_of_getElem? ho2)
                  obtain ⟨a1, a2, a3⟩ := all_out HP5.out.fine HOUT.out oq.key oq.x
                  have HH := Lib.hid (fun y (hy : Below wr.heap.size wr y) => kholds oq.key hgo.key (HP5.out.call hy) (by omega))
                  have HWT := Lib.hid (fun y (hy : Below wr.heap.size wr y) => kwaits oq.key hgo.key (HP5.out.call hy) (by omega))
                  have HDD := Lib.hid (fun y (hy : Below wr.heap.size wr y) => kdead oq.x hgo.x (HP5.out.call hy))
                  rw [a1] at HH
                  rw [a2] at HWT
                  rw [a3] at HDD
                  simp only [List.length_nil] at HH HWT
                  obtain ⟨k2, x2, key2, bb2⟩ := oq
                  dsimp only at *
                  clear ho2 hgo a1 a2 a3 hcc
                  have q4 : (q : Int) < (l.length : Int) := by omega
                  have q5 : (q : Int) < 40 := by omega
                  go_wp2_with fail
                  refine Iv.region (fun f aa y => ∃ Ah ch Aw cw, aa = ⟨#[.slice (some ⟨b0, off, none⟩) l.length cap, undef, u2, ptr g, .int .i64 40, .int .i64 ((40 : Nat) : Int), u6, u7, u8, u9, u10, .int .i64 (q : Int), ptr g, .bool true, .bool false, .bool false, ptr g, .bool false, .bool false, .int .i64 40, .slice (some ⟨b0, off, none⟩) l.length cap, .int .i64 (l.length : Int), .bool true, .bool true, .int .i64 40, .bool false, .bool false, u27, u28, u29, u30, u31, u32, u33, u34, .int .i64 ((40 : Nat) : Int), .slice (some ⟨b0, off, none⟩) l.length cap, .int .i64 (l.length : Int), .bool true, .bool true, .int .i64 ((40 : Nat) : Int), .bool false, .bool false, u43, u44, u45, u46, u47, u48, u49, u50, u51, u52, u53, u54, u55, u56, u57, u58, u59, u60, u61, u62, u63, u64, u65, u66, u67, u68, u69, u70, u71, u72, u73, u74, u75, u76, u77, u78, u79, u80, u81, u82, u83, u84, u85, u86, u87, u88, u89, u90, u91, u92, u93, u94, u95, u96, u97, u98, u99, u100, u101, u102, u103, u104, u105, u106, u107, u108, u109, u110, u111, u112, u113, u114, u115, u116, u117, .int .i64 (q : Int), .slice (some ⟨b0, off, none⟩) l.length cap, .int .i64 (l.length : Int), .bool true, .bool true, .int .i64 (q : Int), .bool true, .bool true, u126, u127, so (f 0) (ptr g) u128, so (f 1) (.slice (some ⟨b0, off, none⟩) l.length cap) u129, so (f 2) (.int .i64 (q : Int)) u130, so (f 3) (.pointer (some ⟨b0, off + q * 4, none⟩)) u131, so (f 4) (.pointer (some ⟨b0, off + q * 4 + 2, none⟩)) u132, so (f 5) (.int .i64 key2) u133, so (f 6) (.slice Ah 0 ch) u134, so (f 7) (.int .i64 0) u135, so (f 8) (ptr g) u136, so (f 9) (.slice (some ⟨b0, off, none⟩) l.length cap) u137, so (f 10) (.int .i64 (q : Int)) u138, so (f 11) (.pointer (some ⟨b0, off + q * 4, none⟩)) u139, so (f 12) (.pointer (some ⟨b0, off + q * 4 + 2, none⟩)) u140, so (f 13) (.int .i64 key2) u141, so (f 14) (.slice Aw 0 cw) u142, so (f 15) (.int .i64 0) u143, so (f 16) (.int .i64 0) u144, so (f 17) (.bool false) u145, so (f 18) (.bool false) u146, so (f 19) (ptr g) u147, so (f 20) (.slice (some ⟨b0, off, none⟩) l.length cap) u148, so (f 21) (.int .i64 (q : Int)) u149, so (f 22) (.pointer (some ⟨b0, off + q * 4, none⟩)) u150, so (f 23) (.pointer (some ⟨b0, off + q * 4 + 1, none⟩)) u151, so (f 24) (.int .i64 x2) u152, so (f 25) (.bool false) u153, so (f 26) (.bool false) u154], []⟩ ∧ Below wr.heap.size wr y ∧ (f 7 = true → f 6 = true) ∧ (f 15 = true → f 14 = true)) (by kernel_rfl) (by kernel_rfl) ?_ ?_ ?_
                  · exact ⟨none, 0, none, 0, rfl, (drew_below wr 1), (fun h => by cases h), (fun h => by cases h)⟩
                  · refine ⟨?_, ?_, ?_, ?_, ?_, ?_, ?_, ?_, ?_, ?_, ?_, ?_, ?_, ?_, ?_, ?_, ?_, ?_, ?_, ?_, ?_, ?_, ?_, ?_, ?_, ?_, ?_, trivial⟩
                    · rintro f a0 y Q' ⟨Ah, ch, Aw, cw, rfl, hw⟩ hi hd hQ
                      replace hQ := Lib.hid hQ
                      simp [Iv.depsB, Region.binds] at hd
                      try simp only [hi, hd, sl_true, sl_false, so_true, so_false]
                      try simp only [hi, sl_true, sl_false, so_true, so_false]
                      go_wp2_with fail
                      refine hQ.out _ _ ⟨Ah, ch, Aw, cw, ?_, ?_⟩
                      · simp [Iv.upd, hi, hd, sl_true, sl_false, so_true, so_false]
                      · simpa [Iv.upd, hi, hd] using hw
                    · rintro f a0 y Q' ⟨Ah, ch, Aw, cw, rfl, hw⟩ hi hd hQ
                      replace hQ := Lib.hid hQ
                      simp [Iv.depsB, Region.binds] at hd
                      try simp only [hi, hd, sl_true, sl_false, so_true, so_false]
                      try simp only [hi, sl_true, sl_false, so_true, so_false]
                      go_wp2_with fail
                      refine hQ.out _ _ ⟨Ah, ch, Aw, cw, ?_, ?_⟩
                      · simp [Iv.upd, hi, hd, sl_true, sl_false, so_true, so_false]
                      · simpa [Iv.upd, hi, hd] using hw
                    · rintro f a0 y Q' ⟨Ah, ch, Aw, cw, rfl, hw⟩ hi hd hQ
                      replace hQ := Lib.hid hQ
                      simp [Iv.depsB, Region.binds] at hd
                      try simp only [hi, hd, sl_true, sl_false, so_true, so_false]
                      try simp only [hi, sl_true, sl_false, so_true, so_false]
                      go_wp2_with fail
                      refine hQ.out _ _ ⟨Ah, ch, Aw, cw, ?_, ?_⟩
                      · simp [Iv.upd, hi, hd, sl_true, sl_false, so_true, so_false]
                      · simpa [Iv.upd, hi, hd] using hw
                    · rintro f a0 y Q' ⟨Ah, ch, Aw, cw, rfl, hw⟩ hi hd hQ
                      replace hQ := Lib.hid hQ
                      simp [Iv.depsB, Region.binds] at hd
                      try simp only [hi, hd, sl_true, sl_false, so_true, so_false]
                      try simp only [hi, sl_true, sl_false, so_true, so_false]
                      go_wp2_with fail
                      refine hQ.out _ _ ⟨Ah, ch, Aw, cw, ?_, ?_⟩
                      · simp [Iv.upd, hi, hd, sl_true, sl_false, so_true, so_false]
                      · simpa [Iv.upd, hi, hd] using hw
                    · rintro f a0 y Q' ⟨Ah, ch, Aw, cw, rfl, hw⟩ hi hd hQ
                      replace hQ := Lib.hid hQ
                      simp [Iv.depsB, Region.binds] at hd
                      try simp only [hi, hd, sl_true, sl_false, so_true, so_false]
                      try simp only [hi, sl_true, sl_false, so_true, so_false]
                      go_wp2_with fail
                      refine hQ.out _ _ ⟨Ah, ch, Aw, cw, ?_, ?_⟩
                      · simp [Iv.upd, hi, hd, sl_true, sl_false, so_true, so_false]
                      · simpa [Iv.upd, hi, hd] using hw
                    · rintro f a0 y Q' ⟨Ah, ch, Aw, cw, rfl, hw⟩ hi hd hQ
                      replace hQ := Lib.hid hQ
                      simp [Iv.depsB, Region.binds] at hd
                      try simp only [hi, hd, sl_true, sl_false, so_true, so_false]
                      try simp only [hi, sl_true, sl_false, so_true, so_false]
                      have u2 := (HC5.out _ hw.1).1
                      go_wp2_with fail
                      refine hQ.out _ _ ⟨Ah, ch, Aw, cw, ?_, ?_⟩
                      · simp [Iv.upd, hi, hd, sl_true, sl_false, so_true, so_false]
                      · simpa [Iv.upd, hi, hd] using hw
                    · rintro f a0 y Q' ⟨Ah, ch, Aw, cw, rfl, hw⟩ hi hd hQ
                      replace hQ := Lib.hid hQ
                      simp [Iv.depsB, Region.binds] at hd
                      try simp only [hi, hd, sl_true, sl_false, so_true, so_false]
                      try simp only [hi, sl_true, sl_false, so_true, so_false]
                      have e7 : f 7 = false := by
                        cases e : f 7 with
                        | false => rfl
                        | true => have h7 := hw.2.1 e; rw [hi] at h7; cases h7
                      have HQW := Lib.hid hw.1
                      have HQI := Lib.hid hw.2
                      clear hw
                      try simp only [e7, so_true, so_false]
                      go_wp2_with fail
                      refine (HH.out y HQW.out).mono ?_
                      rintro e y1 ⟨A3, cap3, rfl, hb, ho⟩
                      have HN := Lib.hid (show _ ∧ _ from ⟨HQW.out.trans (hb.mono HQW.out.size), HQI.out⟩)
                      clear hb ho
                      go_wp2_with fail
                      refine hQ.out _ _ ⟨A3, cap3, Aw, cw, ?_, ?_⟩
                      · simp [Iv.upd, hi, hd, sl_true, sl_false, so_true, so_false, e7]
                      · simpa [Iv.upd, hi, hd, e7] using HN.out
                    · rintro f a0 y Q' ⟨Ah, ch, Aw, cw, rfl, hw⟩ hi hd hQ
                      replace hQ := Lib.hid hQ
                      simp [Iv.depsB, Region.binds] at hd
                      try simp only [hi, hd, sl_true, sl_false, so_true, so_false]
                      try simp only [hi, sl_true, sl_false, so_true, so_false]
                      have e6 : f 6 = true := by simp [hd]
                      go_wp2_with fail
                      refine hQ.out _ _ ⟨Ah, ch, Aw, cw, ?_, ?_⟩
                      · simp [Iv.upd, hi, hd, sl_true, sl_false, so_true, so_false, e6]
                      · simpa [Iv.upd, hi, hd, e6] using hw
                    · rintro f a0 y Q' ⟨Ah, ch, Aw, cw, rfl, hw⟩ hi hd hQ
                      replace hQ := Lib.hid hQ
                      simp [Iv.depsB, Region.binds] at hd
                      try simp only [hi, hd, sl_true, sl_false, so_true, so_false]
                      try simp only [hi, sl_true, sl_false, so_true, so_false]
                      go_wp2_with fail
                      refine hQ.out _ _ ⟨Ah, ch, Aw, cw, ?_, ?_⟩
                      · simp [Iv.upd, hi, hd, sl_true, sl_false, so_true, so_false]
                      · simpa [Iv.upd, hi, hd] using hw
                    · rintro f a0 y Q' ⟨Ah, ch, Aw, cw, rfl, hw⟩ hi hd hQ
                      replace hQ := Lib.hid hQ
                      simp [Iv.depsB, Region.binds] at hd
                      try simp only [hi, hd, sl_true, sl_false, so_true, so_false]
                      try simp only [hi, sl_true, sl_false, so_true, so_false]
                      go_wp2_with fail
                      refine hQ.out _ _ ⟨Ah, ch, Aw, cw, ?_, ?_⟩
                      · simp [Iv.upd, hi, hd, sl_true, sl_false, so_true, so_false]
                      · simpa [Iv.upd, hi, hd] using hw
                    · rintro f a0 y Q' ⟨Ah, ch, Aw, cw, rfl, hw⟩ hi hd hQ
                      replace hQ := Lib.hid hQ
                      simp [Iv.depsB, Region.binds] at hd
                      try simp only [hi, hd, sl_true, sl_false, so_true, so_false]
                      try simp only [hi, sl_true, sl_false, so_true, so_false]
                      go_wp2_with fail
                      refine hQ.out _ _ ⟨Ah, ch, Aw, cw, ?_, ?_⟩
                      · simp [Iv.upd, hi, hd, sl_true, sl_false, so_true, so_false]
                      · simpa [Iv.upd, hi, hd] using hw
                    · rintro f a0 y Q' ⟨Ah, ch, Aw, cw, rfl, hw⟩ hi hd hQ
                      replace hQ := Lib.hid hQ
                      simp [Iv.depsB, Region.binds] at hd
                      try simp only [hi, hd, sl_true, sl_false, so_true, so_false]
                      try simp only [hi, sl_true, sl_false, so_true, so_false]
                      go_wp2_with fail
                      refine hQ.out _ _ ⟨Ah, ch, Aw, cw, ?_, ?_⟩
                      · simp [Iv.upd, hi, hd, sl_true, sl_false, so_true, so_false]
                      · simpa [Iv.upd, hi, hd] using hw
                    · rintro f a0 y Q' ⟨Ah, ch, Aw, cw, rfl, hw⟩ hi hd hQ
                      replace hQ := Lib.hid hQ
                      simp [Iv.depsB, Region.binds] at hd
                      try simp only [hi, hd, sl_true, sl_false, so_true, so_false]
                      try simp only [hi, sl_true, sl_false, so_true, so_false]
                      go_wp2_with fail
                      refine hQ.out _ _ ⟨Ah, ch, Aw, cw, ?_, ?_⟩
                      · simp [Iv.upd, hi, hd, sl_true, sl_false, so_true, so_false]
                      · simpa [Iv.upd, hi, hd] using hw
                    · rintro f a0 y Q' ⟨Ah, ch, Aw, cw, rfl, hw⟩ hi hd hQ
                      replace hQ := Lib.hid hQ
                      simp [Iv.depsB, Region.binds] at hd
                      try simp only [hi, hd, sl_true, sl_false, so_true, so_false]
                      try simp only [hi, sl_true, sl_false, so_true, so_false]
                      have u2 := (HC5.out _ hw.1).1
                      go_wp2_with fail
                      refine hQ.out _ _ ⟨Ah, ch, Aw, cw, ?_, ?_⟩
                      · simp [Iv.upd, hi, hd, sl_true, sl_false, so_true, so_false]
                      · simpa [Iv.upd, hi, hd] using hw
                    · rintro f a0 y Q' ⟨Ah, ch, Aw, cw, rfl, hw⟩ hi hd hQ
                      replace hQ := Lib.hid hQ
                      simp [Iv.depsB, Region.binds] at hd
                      try simp only [hi, hd, sl_true, sl_false, so_true, so_false]
                      try simp only [hi, sl_true, sl_false, so_true, so_false]
                      have e15 : f 15 = false := by
                        cases e : f 15 with
                        | false => rfl
                        | true => have h7 := hw.2.2 e; rw [hi] at h7; cases h7
                      have HQW := Lib.hid hw.1
                      have HQI := Lib.hid hw.2
                      clear hw
                      try simp only [e15, so_true, so_false]
                      go_wp2_with fail
                      refine (HWT.out y HQW.out).mono ?_
                      rintro e y1 ⟨A3, cap3, rfl, hb, ho⟩
                      have HN := Lib.hid (show _ ∧ _ from ⟨HQW.out.trans (hb.mono HQW.out.size), HQI.out⟩)
                      clear hb ho
                      go_wp2_with fail
                      refine hQ.out _ _ ⟨Ah, ch, A3, cap3, ?_, ?_⟩
                      · simp [Iv.upd, hi, hd, sl_true, sl_false, so_true, so_false, e15]
                      · simpa [Iv.upd, hi, hd, e15] using HN.out
                    · rintro f a0 y Q' ⟨Ah, ch, Aw, cw, rfl, hw⟩ hi hd hQ
                      replace hQ := Lib.hid hQ
                      simp [Iv.depsB, Region.binds] at hd
                      try simp only [hi, hd, sl_true, sl_false, so_true, so_false]
                      try simp only [hi, sl_true, sl_false, so_true, so_false]
                      have e14 : f 14 = true := by simp [hd]
                      go_wp2_with fail
                      refine hQ.out _ _ ⟨Ah, ch, Aw, cw, ?_, ?_⟩
                      · simp [Iv.upd, hi, hd, sl_true, sl_false, so_true, so_false, e14]
                      · simpa [Iv.upd, hi, hd, e14] using hw
                    · rintro f a0 y Q' ⟨Ah, ch, Aw, cw, rfl, hw⟩ hi hd hQ
                      replace hQ := Lib.hid hQ
                      simp [Iv.depsB, Region.binds] at hd
                      try simp only [hi, hd, sl_true, sl_false, so_true, so_false]
                      try simp only [hi, sl_true, sl_false, so_true, so_false]
                      have e6 : f 6 = true := hw.2.1 (by simp [hd])
                      have e14 : f 14 = true := hw.2.2 (by simp [hd])
                      go_wp2_with fail
                      refine hQ.out _ _ ⟨Ah, ch, Aw, cw, ?_, ?_⟩
                      · simp [Iv.upd, hi, hd, sl_true, sl_false, so_true, so_false, e6, e14]
                      · simpa [Iv.upd, hi, hd, e6, e14] using hw
                    · rintro f a0 y Q' ⟨Ah, ch, Aw, cw, rfl, hw⟩ hi hd hQ
                      replace hQ := Lib.hid hQ
                      simp [Iv.depsB, Region.binds] at hd
                      try simp only [hi, hd, sl_true, sl_false, so_true, so_false]
                      try simp only [hi, sl_true, sl_false, so_true, so_false]
                      go_wp2_with fail
                      refine hQ.out _ _ ⟨Ah, ch, Aw, cw, ?_, ?_⟩
                      · simp [Iv.upd, hi, hd, sl_true, sl_false, so_true, so_false]
                      · simpa [Iv.upd, hi, hd] using hw
                    · rintro f a0 y Q' ⟨Ah, ch, Aw, cw, rfl, hw⟩ hi hd hQ
                      replace hQ := Lib.hid hQ
                      simp [Iv.depsB, Region.binds] at hd
                      try simp only [hi, hd, sl_true, sl_false, so_true, so_false]
                      try simp only [hi, sl_true, sl_false, so_true, so_false]
                      go_wp2_with fail
                      refine hQ.out _ _ ⟨Ah, ch, Aw, cw, ?_, ?_⟩
                      · simp [Iv.upd, hi, hd, sl_true, sl_false, so_true, so_false]
                      · simpa [Iv.upd, hi, hd] using hw
                    · rintro f a0 y Q' ⟨Ah, ch, Aw, cw, rfl, hw⟩ hi hd hQ
                      replace hQ := Lib.hid hQ
                      simp [Iv.depsB, Region.binds] at hd
                      try simp only [hi, hd, sl_true, sl_false, so_true, so_false]
                      try simp only [hi, sl_true, sl_false, so_true, so_false]
                      go_wp2_with fail
                      refine hQ.out _ _ ⟨Ah, ch, Aw, cw, ?_, ?_⟩
                      · simp [Iv.upd, hi, hd, sl_true, sl_false, so_true, so_false]
                      · simpa [Iv.upd, hi, hd] using hw
                    · rintro f a0 y Q' ⟨Ah, ch, Aw, cw, rfl, hw⟩ hi hd hQ
                      replace hQ := Lib.hid hQ
                      simp [Iv.depsB, Region.binds] at hd
                      try simp only [hi, hd, sl_true, sl_false, so_true, so_false]
                      try simp only [hi, sl_true, sl_false, so_true, so_false]
                      go_wp2_with fail
                      refine hQ.out _ _ ⟨Ah, ch, Aw, cw, ?_, ?_⟩
                      · simp [Iv.upd, hi, hd, sl_true, sl_false, so_true, so_false]
                      · simpa [Iv.upd, hi, hd] using hw
                    · rintro f a0 y Q' ⟨Ah, ch, Aw, cw, rfl, hw⟩ hi hd hQ
                      replace hQ := Lib.hid hQ
                      simp [Iv.depsB, Region.binds] at hd
                      try simp only [hi, hd, sl_true, sl_false, so_true, so_false]
                      try simp only [hi, sl_true, sl_false, so_true, so_false]
                      go_wp2_with fail
                      refine hQ.out _ _ ⟨Ah, ch, Aw, cw, ?_, ?_⟩
                      · simp [Iv.upd, hi, hd, sl_true, sl_false, so_true, so_false]
                      · simpa [Iv.upd, hi, hd] using hw
                    · rintro f a0 y Q' ⟨Ah, ch, Aw, cw, rfl, hw⟩ hi hd hQ
                      replace hQ := Lib.hid hQ
                      simp [Iv.depsB, Region.binds] at hd
                      try simp only [hi, hd, sl_true, sl_false, so_true, so_false]
                      try simp only [hi, sl_true, sl_false, so_true, so_false]
                      go_wp2_with fail
                      refine hQ.out _ _ ⟨Ah, ch, Aw, cw, ?_, ?_⟩
                      · simp [Iv.upd, hi, hd, sl_true, sl_false, so_true, so_false]
                      · simpa [Iv.upd, hi, hd] using hw
                    · rintro f a0 y Q' ⟨Ah, ch, Aw, cw, rfl, hw⟩ hi hd hQ
                      replace hQ := Lib.hid hQ
                      simp [Iv.depsB, Region.binds] at hd
                      try simp only [hi, hd, sl_true, sl_false, so_true, so_false]
                      try simp only [hi, sl_true, sl_false, so_true, so_false]
                      go_wp2_with fail
                      refine hQ.out _ _ ⟨Ah, ch, Aw, cw, ?_, ?_⟩
                      · simp [Iv.upd, hi, hd, sl_true, sl_false, so_true, so_false]
                      · simpa [Iv.upd, hi, hd] using hw
                    · rintro f a0 y Q' ⟨Ah, ch, Aw, cw, rfl, hw⟩ hi hd hQ
                      replace hQ := Lib.hid hQ
                      simp [Iv.depsB, Region.binds] at hd
                      try simp only [hi, hd, sl_true, sl_false, so_true, so_false]
                      try simp only [hi, sl_true, sl_false, so_true, so_false]
                      have u2 := (HC5.out _ hw.1).2
                      go_wp2_with fail
                      refine hQ.out _ _ ⟨Ah, ch, Aw, cw, ?_, ?_⟩
                      · simp [Iv.upd, hi, hd, sl_true, sl_false, so_true, so_false]
                      · simpa [Iv.upd, hi, hd] using hw
                    · rintro f a0 y Q' ⟨Ah, ch, Aw, cw, rfl, hw⟩ hi hd hQ
                      replace hQ := Lib.hid hQ
                      simp [Iv.depsB, Region.binds] at hd
                      try simp only [hi, hd, sl_true, sl_false, so_true, so_false]
                      try simp only [hi, sl_true, sl_false, so_true, so_false]
                      have HQW := Lib.hid hw
                      clear hw
                      go_wp2_with fail
                      refine (HDD.out y HQW.out.1).mono ?_
                      rintro e y1 ⟨rfl, e9⟩
                      subst y1
                      go_wp2_with fail
                      refine hQ.out _ _ ⟨Ah, ch, Aw, cw, ?_, ?_⟩
                      · simp [Iv.upd, hi, hd, sl_true, sl_false, so_true, so_false]
                      · simpa [Iv.upd, hi, hd] using HQW.out
                    · rintro f a0 y Q' ⟨Ah, ch, Aw, cw, rfl, hw⟩ hi hd hQ
                      replace hQ := Lib.hid hQ
                      simp [Iv.depsB, Region.binds] at hd
                      try simp only [hi, hd, sl_true, sl_false, so_true, so_false]
                      try simp only [hi, sl_true, sl_false, so_true, so_false]
                      go_wp2_with fail
                      refine hQ.out _ _ ⟨Ah, ch, Aw, cw, ?_, ?_⟩
                      · simp [Iv.upd, hi, hd, sl_true, sl_false, so_true, so_false]
                      · simpa [Iv.upd, hi, hd] using hw
                  · rintro f a0 w6 ⟨Ah, ch, Aw, cw, rfl, hw⟩ hall
                    simp only [hall 0 (by decide), hall 1 (by decide), hall 2 (by decide), hall 3 (by decide), hall 4 (by decide), hall 5 (by decide), hall 6 (by decide), hall 7 (by decide), hall 8 (by decide), hall 9 (by decide), hall 10 (by decide), hall 11 (by decide), hall 12 (by decide), hall 13 (by decide), hall 14 (by decide), hall 15 (by decide), hall 16 (by decide), hall 17 (by decide), hall 18 (by decide), hall 19 (by decide), hall 20 (by decide), hall 21 (by decide), hall 22 (by decide), hall 23 (by decide), hall 24 (by decide), hall 25 (by decide), hall 26 (by decide), sl_true, ↓reduceIte, so_true, so_false] at hw ⊢
                    clear hall
                    have HP6 := Lib.hid (HP5.out.call hw.1)
                    clear hw HH HWT HDD HC5 HP5
                    go_wp2_with fail
                    go_roundw
                    case rel => exact ⟨q + 1, by omega, by omega, by go_num, HP6.out⟩
                    case measure => simp [intOf]; omega
                · have hend3 : ((q : Int) < (l.length : Int) ∧ q = 40) ∨ (¬ (q : Int) < (l.length : Int)) := by omega
                  rcases hend3 with ⟨j4, rfl⟩ | j4
                  all_goals try (exfalso; omega)
                  all_goals
                    go_wp2_with fail
                    go_ret
                    exact ⟨rfl, HP5.out.st.below⟩
      · go_wp2_with fail
        go_loopw [5] (fun i wr => ∃ (p : Nat) (s : Tb), p ≤ l.length ∧ p ≤ 40 ∧ i = .int .i64 (p : Int) ∧ Pk w wr [] g s (fun _ => False) 40 ∧ Hid (∀ y, s.inn y = true → ∃ (i : Nat) (o : Op13), p ≤ i ∧ i < 40 ∧ l[i]? = some o ∧ o.x = y)) (fun i _ => l.length - (intOf i).toNat)
        case atStart => exact ⟨0, s, by omega, by omega, rfl, HP2.out, HI2⟩
        case round =>
          obtain ⟨p, s, hp1, hp2, rfl, hp, HI⟩ := hrel
          have HP := Lib.hid hp
          clear hp HP2 HI2
          by_cases hlt : p < l.length ∧ p < 40
          · obtain ⟨h1, h2⟩ := hlt
            obtain ⟨o, ho⟩ : ∃ o, l[p]? = some o := ⟨_, List.getElem?_eq_getElem h1⟩
            obtain ⟨b0, off, rfl, hb0, hcc⟩ := (HS.out.below HP.out.st.below).item encO_len (by omega) p o ho
            have HOX : Hid (∀ y, Below w.heap.size w y → y.cell? ⟨b0, off + p * 4 + 1, none⟩ = some (.int .i64 o.x)) := Lib.hid fun y hy => by
              obtain ⟨b9, off9, hA9, -, hc9⟩ := (HS.out.below hy).item encO_len (by omega) p o ho
              injection hA9 with hA9
              injection hA9 with hA9 hA10
              subst hA9 hA10
              exact hc9 1 _ rfl
            have q1 := hcc 1 _ rfl
            have j1 : (p : Int) < (l.length : Int) := by omega
            have j2 : (p : Int) < 40 := by omega
            have HC := Lib.hid (kend o.x (HGO.out o (List.mem_of_getElem? ho)).x HP.out (by omega))
            have HI2 : Hid (∀ y, (endS s o.x).inn y = true → ∃ (i : Nat) (o : Op13), p + 1 ≤ i ∧ i < 40 ∧ l[i]? = some o ∧ o.x = y) := Lib.hid fun y hy => by
              obtain ⟨e1, e2⟩ := end_gone HP.out.fine y hy
              obtain ⟨i, o', a1, a2, a3, a4⟩ := HI.out y e1
              refine ⟨i, o', ?_, a2, a3, a4⟩
              rcases Nat.eq_or_lt_of_le a1 with e | e
              · subst e
                rw [ho] at a3
                injection a3 with a3
                exact absurd (by rw [← a4, a3]) e2
              · exact e
            have HNO := Lib.hid (fun k => end_none HP.out.fine k (x := o.x))
            clear hcc ho HI HP
            generalize endS s o.x = s' at *
            generalize endA s o.x = R at *
            obtain ⟨o1, o2, o3, o4⟩ := o
            dsimp only at *
            generalize (if o2 < 1 then (130 : Int) else 0) = E at *
            go_wp2_with fail
            refine HC.out.mono ?_
            rintro e w5 ⟨A5, c5, rfl, hp, -, -⟩
            have HP5 := Lib.hid hp
            clear hp HC q1
            go_wp2_with fail
            go_loopw [6] (fun kk wr => ∃ q : Nat, q ≤ l.length ∧ q ≤ 40 ∧ kk = .int .i64 (q : Int) ∧ Pk w wr [] g s' (fun _ => False) 40) (fun kk _ => l.length - (intOf kk).toNat)
            case atStart => exact ⟨0, by omega, by omega, rfl, HP5.out⟩
            case round =>
              obtain ⟨q, hq1, hq2, rfl, hp⟩ := hrel
              have HP5 := Lib.hid hp
              clear hp
              by_cases hlt : q < l.length ∧ q < 40
              · obtain ⟨h3, h4⟩ := hlt
                obtain ⟨oq, ho2⟩ : ∃ oq, l[q]? = some oq := ⟨_, List.getElem?_eq_getElem h3⟩
                have HC5 : Hid (∀ y, Below wr.heap.size wr y → y.cell? ⟨b0, off + q * 4 + 2, none⟩ = some (.int .i64 oq.key)) := Lib.hid fun y hy => by
                  obtain ⟨b9, off9, hA9, -, hc9⟩ := (HS.out.below (HP5.out.st.below.trans (hy.mono HP5.out.st.below.size))).item encO_len (by omega) q oq ho2
                  injection hA9 with hA9
                  injection hA9 with hA9 hA10
                  subst hA9 hA10
                  exact hc9 2 _ rfl
                have hkey := (HGO.out oq (List.mem_of_getElem? ho2)).key
                have HH := Lib.hid (fun y (hy : Below wr.heap.size wr y) => kholds oq.key hkey (HP5.out.call hy) (by omega))
                have HWT := Lib.hid (fun y (hy : Below wr.heap.size wr y) => kwaits oq.key hkey (HP5.out.call hy) (by omega))
                have HID := Lib.hid (idle_len HP5.out.fine (k := oq.key))
                have HN1 := Lib.hid (HNO.out oq.key)
                have hsl : (supp (s'.h oq.key)).length ≤ 40 ∧ (supp (s'.w oq.key)).length ≤ 40 := ⟨Nat.le_trans (mid_fewh HP5.out.fine oq.key) HP5.out.few, Nat.le_trans (mid_feww HP5.out.fine oq.key) HP5.out.few⟩
                generalize fl (s'.h oq.key) = f1 at *
                generalize fl (s'.w oq.key) = f2 at *
                generalize supp (s'.h oq.key) = S1 at *
                generalize supp (s'.w oq.key) = S2 at *
                obtain ⟨hs1, hs2⟩ := hsl
                obtain ⟨k2, x2, key2, bb2⟩ := oq
                dsimp only at *
                clear ho2 hkey
                have q4 : (q : Int) < (l.length : Int) := by omega
                have q5 : (q : Int) < 40 := by omega
                go_wp2_with fail
                refine Iv.region (fun f aa y => ∃ Ah ch Aw cw, aa = ⟨#[.slice (some ⟨b0, off, none⟩) l.length cap, undef, u2, ptr g, .int .i64 (n : Int), .int .i64 (p : Int), .int .i64 (q : Int), so (f 14) (.slice Ah S1.length ch) u7, so (f 15) (.slice Aw S2.length cw) u8, u9, u10, undef, ptr g, .bool true, .bool false, .bool false, ptr g, .bool false, .bool false, .int .i64 (n : Int), .slice (some ⟨b0, off, none⟩) l.length cap, .int .i64 (l.length : Int), .bool false, .bool false, undef, undef, .bool false, u27, u28, u29, u30, u31, u32, u33, u34, .int .i64 (p : Int), .slice (some ⟨b0, off, none⟩) l.length cap, .int .i64 (l.length : Int), .bool true, .bool true, .int .i64 (p : Int), .bool true, .bool true, u43, u44, ptr g, .slice (some ⟨b0, off, none⟩) l.length cap, .int .i64 (p : Int), .pointer (some ⟨b0, off + p * 4, none⟩), .pointer (some ⟨b0, off + p * 4 + 1, none⟩), .int .i64 o2, .tuple #[.slice A5 R.length c5, .int .i64 E], .int .i64 (q : Int), .slice (some ⟨b0, off, none⟩) l.length cap, .int .i64 (l.length : Int), .bool true, .bool true, .int .i64 (q : Int), .bool true, .bool true, u60, u61, so (f 0) (ptr g) u62, so (f 1) (.slice (some ⟨b0, off, none⟩) l.length cap) u63, so (f 2) (.int .i64 (q : Int)) u64, so (f 3) (.pointer (some ⟨b0, off + q * 4, none⟩)) u65, so (f 4) (.pointer (some ⟨b0, off + q * 4 + 2, none⟩)) u66, so (f 5) (.int .i64 key2) u67, so (f 6) (.slice Ah S1.length ch) u68, so (f 7) (ptr g) u69, so (f 8) (.slice (some ⟨b0, off, none⟩) l.length cap) u70, so (f 9) (.int .i64 (q : Int)) u71, so (f 10) (.pointer (some ⟨b0, off + q * 4, none⟩)) u72, so (f 11) (.pointer (some ⟨b0, off + q * 4 + 2, none⟩)) u73, so (f 12) (.int .i64 key2) u74, so (f 13) (.slice Aw S2.length cw) u75, u76, u77, u78, u79, u80, u81, u82, u83, u84, u85, u86, u87, u88, u89, u90, u91, u92, u93, u94, u95, u96, u97, u98, u99, u100, u101, u102, u103, u104, u105, u106, u107, u108, u109, u110, u111, u112, u113, u114, u115, u116, u117, undef, undef, undef, undef, undef, undef, undef, undef, undef, undef, undef, undef, undef, undef, undef, undef, undef, undef, undef, undef, undef, undef, undef, undef, undef, undef, undef, undef, undef, undef, undef, undef, undef, undef, undef, undef, undef], []⟩ ∧ Hw wr y S1 S2 f1 f2 Ah Aw (f 6) (f 13) ∧ (f 14 = true → f 6 = true) ∧ (f 15 = true → f 13 = true)) (by kernel_rfl) (by kernel_rfl) ?_ ?_ ?_
                · exact ⟨none, 0, none, 0, rfl, Hw.start wr (drew_below wr 1), (fun h => by cases h), (fun h => by cases h)⟩
                · refine ⟨?_, ?_, ?_, ?_, ?_, ?_, ?_, ?_, ?_, ?_, ?_, ?_, ?_, ?_, ?_, ?_, trivial⟩
                  · rintro f a0 y Q' ⟨Ah, ch, Aw, cw, rfl, hw⟩ hi hd hQ
                    replace hQ := Lib.hid hQ
                    simp [Iv.depsB, Region.binds] at hd
                    try simp only [hi, hd, sl_true, sl_false, so_true, so_false]
                    try simp only [hi, sl_true, sl_false, so_true, so_false]
                    go_wp2_with fail
                    refine hQ.out _ _ ⟨Ah, ch, Aw, cw, ?_, ?_⟩
                    · simp [Iv.upd, hi, hd, sl_true, sl_false, so_true, so_false]
                    · simpa [Iv.upd, hi, hd] using hw
                  · rintro f a0 y Q' ⟨Ah, ch, Aw, cw, rfl, hw⟩ hi hd hQ
                    replace hQ := Lib.hid hQ
                    simp [Iv.depsB, Region.binds] at hd
                    try simp only [hi, hd, sl_true, sl_false, so_true, so_false]
                    try simp only [hi, sl_true, sl_false, so_true, so_false]
                    go_wp2_with fail
                    refine hQ.out _ _ ⟨Ah, ch, Aw, cw, ?_, ?_⟩
                    · simp [Iv.upd, hi, hd, sl_true, sl_false, so_true, so_false]
                    · simpa [Iv.upd, hi, hd] using hw
                  · rintro f a0 y Q' ⟨Ah, ch, Aw, cw, rfl, hw⟩ hi hd hQ
                    replace hQ := Lib.hid hQ
                    simp [Iv.depsB, Region.binds] at hd
                    try simp only [hi, hd, sl_true, sl_false, so_true, so_false]
                    try simp only [hi, sl_true, sl_false, so_true, so_false]
                    go_wp2_with fail
                    refine hQ.out _ _ ⟨Ah, ch, Aw, cw, ?_, ?_⟩
                    · simp [Iv.upd, hi, hd, sl_true, sl_false, so_true, so_false]
                    · simpa [Iv.upd, hi, hd] using hw
                  · rintro f a0 y Q' ⟨Ah, ch, Aw, cw, rfl, hw⟩ hi hd hQ
                    replace hQ := Lib.hid hQ
                    simp [Iv.depsB, Region.binds] at hd
                    try simp only [hi, hd, sl_true, sl_false, so_true, so_false]
                    try simp only [hi, sl_true, sl_false, so_true, so_false]
                    go_wp2_with fail
                    refine hQ.out _ _ ⟨Ah, ch, Aw, cw, ?_, ?_⟩
                    · simp [Iv.upd, hi, hd, sl_true, sl_false, so_true, so_false]
                    · simpa [Iv.upd, hi, hd] using hw
                  · rintro f a0 y Q' ⟨Ah, ch, Aw, cw, rfl, hw⟩ hi hd hQ
                    replace hQ := Lib.hid hQ
                    simp [Iv.depsB, Region.binds] at hd
                    try simp only [hi, hd, sl_true, sl_false, so_true, so_false]
                    try simp only [hi, sl_true, sl_false, so_true, so_false]
                    go_wp2_with fail
                    refine hQ.out _ _ ⟨Ah, ch, Aw, cw, ?_, ?_⟩
                    · simp [Iv.upd, hi, hd, sl_true, sl_false, so_true, so_false]
                    · simpa [Iv.upd, hi, hd] using hw
                  · rintro f a0 y Q' ⟨Ah, ch, Aw, cw, rfl, hw⟩ hi hd hQ
                    replace hQ := Lib.hid hQ
                    simp [Iv.depsB, Region.binds] at hd
                    try simp only [hi, hd, sl_true, sl_false, so_true, so_false]
                    try simp only [hi, sl_true, sl_false, so_true, so_false]
                    have u2 := HC5.out _ hw.1.bel
                    go_wp2_with fail
                    refine hQ.out _ _ ⟨Ah, ch, Aw, cw, ?_, ?_⟩
                    · simp [Iv.upd, hi, hd, sl_true, sl_false, so_true, so_false]
                    · simpa [Iv.upd, hi, hd] using hw
                  · rintro f a0 y Q' ⟨Ah, ch, Aw, cw, rfl, hw⟩ hi hd hQ
                    replace hQ := Lib.hid hQ
                    simp [Iv.depsB, Region.binds] at hd
                    try simp only [hi, hd, sl_true, sl_false, so_true, so_false]
                    try simp only [hi, sl_true, sl_false, so_true, so_false]
                    have e14 : f 14 = false := by
                      cases e : f 14 with
                      | false => rfl
                      | true => have h7 := hw.2.1 e; rw [hi] at h7; cases h7
                    have HQW := Lib.hid hw.1
                    have HQI := Lib.hid hw.2
                    rw [hi] at HQW
                    clear hw
                    try simp only [e14, so_true, so_false]
                    go_wp2_with fail
                    refine (HH.out y HQW.out.bel).mono ?_
                    rintro e y1 ⟨A3, cap3, rfl, hb, ho⟩
                    have HN := Lib.hid (show _ ∧ _ from ⟨HQW.out.row1 hb (Sees.own ho), HQI.out⟩)
                    clear hb ho
                    go_wp2_with fail
                    refine hQ.out _ _ ⟨A3, cap3, Aw, cw, ?_, ?_⟩
                    · simp [Iv.upd, hi, hd, sl_true, sl_false, so_true, so_false, e14]
                    · simpa [Iv.upd, hi, hd, e14] using HN.out
                  · rintro f a0 y Q' ⟨Ah, ch, Aw, cw, rfl, hw⟩ hi hd hQ
                    replace hQ := Lib.hid hQ
                    simp [Iv.depsB, Region.binds] at hd
                    try simp only [hi, hd, sl_true, sl_false, so_true, so_false]
                    try simp only [hi, sl_true, sl_false, so_true, so_false]
                    go_wp2_with fail
                    refine hQ.out _ _ ⟨Ah, ch, Aw, cw, ?_, ?_⟩
                    · simp [Iv.upd, hi, hd, sl_true, sl_false, so_true, so_false]
                    · simpa [Iv.upd, hi, hd] using hw
                  · rintro f a0 y Q' ⟨Ah, ch, Aw, cw, rfl, hw⟩ hi hd hQ
                    replace hQ := Lib.hid hQ
                    simp [Iv.depsB, Region.binds] at hd
                    try simp only [hi, hd, sl_true, sl_false, so_true, so_false]
                    try simp only [hi, sl_true, sl_false, so_true, so_false]
                    go_wp2_with fail
                    refine hQ.out _ _ ⟨Ah, ch, Aw, cw, ?_, ?_⟩
                    · simp [Iv.upd, hi, hd, sl_true, sl_false, so_true, so_false]
                    · simpa [Iv.upd, hi, hd] using hw
                  · rintro f a0 y Q' ⟨Ah, ch, Aw, cw, rfl, hw⟩ hi hd hQ
                    replace hQ := Lib.hid hQ
                    simp [Iv.depsB, Region.binds] at hd
                    try simp only [hi, hd, sl_true, sl_false, so_true, so_false]
                    try simp only [hi, sl_true, sl_false, so_true, so_false]
                    go_wp2_with fail
                    refine hQ.out _ _ ⟨Ah, ch, Aw, cw, ?_, ?_⟩
                    · simp [Iv.upd, hi, hd, sl_true, sl_false, so_true, so_false]
                    · simpa [Iv.upd, hi, hd] using hw
                  · rintro f a0 y Q' ⟨Ah, ch, Aw, cw, rfl, hw⟩ hi hd hQ
                    replace hQ := Lib.hid hQ
                    simp [Iv.depsB, Region.binds] at hd
                    try simp only [hi, hd, sl_true, sl_false, so_true, so_false]
                    try simp only [hi, sl_true, sl_false, so_true, so_false]
                    go_wp2_with fail
                    refine hQ.out _ _ ⟨Ah, ch, Aw, cw, ?_, ?_⟩
                    · simp [Iv.upd, hi, hd, sl_true, sl_false, so_true, so_false]
                    · simpa [Iv.upd, hi, hd] using hw
                  · rintro f a0 y Q' ⟨Ah, ch, Aw, cw, rfl, hw⟩ hi hd hQ
                    replace hQ := Lib.hid hQ
                    simp [Iv.depsB, Region.binds] at hd
                    try simp only [hi, hd, sl_true, sl_false, so_true, so_false]
                    try simp only [hi, sl_true, sl_false, so_true, so_false]
                    go_wp2_with fail
                    refine hQ.out _ _ ⟨Ah, ch, Aw, cw, ?_, ?_⟩
                    · simp [Iv.upd, hi, hd, sl_true, sl_false, so_true, so_false]
                    · simpa [Iv.upd, hi, hd] using hw
                  · rintro f a0 y Q' ⟨Ah, ch, Aw, cw, rfl, hw⟩ hi hd hQ
                    replace hQ := Lib.hid hQ
                    simp [Iv.depsB, Region.binds] at hd
                    try simp only [hi, hd, sl_true, sl_false, so_true, so_false]
                    try simp only [hi, sl_true, sl_false, so_true, so_false]
                    have u2 := HC5.out _ hw.1.bel
                    go_wp2_with fail
                    refine hQ.out _ _ ⟨Ah, ch, Aw, cw, ?_, ?_⟩
                    · simp [Iv.upd, hi, hd, sl_true, sl_false, so_true, so_false]
                    · simpa [Iv.upd, hi, hd] using hw
                  · rintro f a0 y Q' ⟨Ah, ch, Aw, cw, rfl, hw⟩ hi hd hQ
                    replace hQ := Lib.hid hQ
                    simp [Iv.depsB, Region.binds] at hd
                    try simp only [hi, hd, sl_true, sl_false, so_true, so_false]
                    try simp only [hi, sl_true, sl_false, so_true, so_false]
                    have e15 : f 15 = false := by
                      cases e : f 15 with
                      | false => rfl
                      | true => have h7 := hw.2.2 e; rw [hi] at h7; cases h7
                    have HQW := Lib.hid hw.1
                    have HQI := Lib.hid hw.2
                    rw [hi] at HQW
                    clear hw
                    try simp only [e15, so_true, so_false]
                    go_wp2_with fail
                    refine (HWT.out y HQW.out.bel).mono ?_
                    rintro e y1 ⟨A3, cap3, rfl, hb, ho⟩
                    have HN := Lib.hid (show _ ∧ _ from ⟨HQW.out.row2 hb (Sees.own ho), HQI.out⟩)
                    clear hb ho
                    go_wp2_with fail
                    refine hQ.out _ _ ⟨Ah, ch, A3, cap3, ?_, ?_⟩
                    · simp [Iv.upd, hi, hd, sl_true, sl_false, so_true, so_false, e15]
                    · simpa [Iv.upd, hi, hd, e15] using HN.out
                  · rintro f a0 y Q' ⟨Ah, ch, Aw, cw, rfl, hw⟩ hi hd hQ
                    replace hQ := Lib.hid hQ
                    simp [Iv.depsB, Region.binds] at hd
                    try simp only [hi, hd, sl_true, sl_false, so_true, so_false]
                    try simp only [hi, sl_true, sl_false, so_true, so_false]
                    have e6 : f 6 = true := by simp [hd]
                    go_wp2_with fail
                    refine hQ.out _ _ ⟨Ah, ch, Aw, cw, ?_, ?_⟩
                    · simp [Iv.upd, hi, hd, sl_true, sl_false, so_true, so_false, e6]
                    · simpa [Iv.upd, hi, hd, e6] using hw
                  · rintro f a0 y Q' ⟨Ah, ch, Aw, cw, rfl, hw⟩ hi hd hQ
                    replace hQ := Lib.hid hQ
                    simp [Iv.depsB, Region.binds] at hd
                    try simp only [hi, hd, sl_true, sl_false, so_true, so_false]
                    try simp only [hi, sl_true, sl_false, so_true, so_false]
                    have e13 : f 13 = true := by simp [hd]
                    go_wp2_with fail
                    refine hQ.out _ _ ⟨Ah, ch, Aw, cw, ?_, ?_⟩
                    · simp [Iv.upd, hi, hd, sl_true, sl_false, so_true, so_false, e13]
                    · simpa [Iv.upd, hi, hd, e13] using hw
                · rintro f a0 w6 ⟨Ah, ch, Aw, cw, rfl, hw⟩ hall
                  simp only [hall 0 (by decide), hall 1 (by decide), hall 2 (by decide), hall 3 (by decide), hall 4 (by decide), hall 5 (by decide), hall 6 (by decide), hall 7 (by decide), hall 8 (by decide), hall 9 (by decide), hall 10 (by decide), hall 11 (by decide), hall 12 (by decide), hall 13 (by decide), hall 14 (by decide), hall 15 (by decide), sl_true, ↓reduceIte, so_true, so_false] at hw ⊢
                  clear hall
                  have HP6 := Lib.hid (HP5.out.call hw.1.bel)
                  have HVH := Lib.hid (hw.1.h rfl)
                  have HVW := Lib.hid (hw.1.w rfl)
                  clear hw HH HWT HC5 HP5
                  have hid9 := HID.out
                  have hcase : (0 : Int) < (S1.length : Int) ∨ (S1.length = 0 ∧ S2.length = 0) := by omega
                  rcases hcase with hc | ⟨hc1', hc2'⟩
                  · have g1 : ((S1.length : Int) == 0) = false := by simpa using (by omega : ¬ (S1.length : Int) = 0)
                    go_wp2_with fail
                    go_loopw [9] (fun aa wr => ∃ a : Nat, a ≤ S1.length ∧ aa = .int .i64 (a : Int) ∧ Below w6.heap.size w6 wr) (fun aa _ => S1.length - (intOf aa).toNat)
                    case atStart => exact ⟨0, by omega, rfl, .refl _ _⟩
                    case round =>
                      obtain ⟨a, ha, rfl, hb⟩ := hrel
                      have HB7 := Lib.hid hb
                      clear hb
                      by_cases hlt2 : a < S1.length
                      · obtain ⟨x, hx⟩ : ∃ x, S1[a]? = some x := ⟨_, List.getElem?_eq_getElem hlt2⟩
                        have hne := HN1.out.1 x (List.mem_of_getElem? hx)
                        have hne2 : (x == o2) = false := by simpa using hne
                        obtain ⟨b4, f4, rfl, HRW⟩ := row_at HVH.out rfl HB7.out hx
                        have HCL : Hid (∀ z, Below wr.heap.size wr z → z.cell? ⟨b4, f4 + a * 2, none⟩ = some (.int .i64 x) ∧ z.cell? ⟨b0, off + p * 4 + 1, none⟩ = some (.int .i64 o2)) := Lib.hid fun z hz => ⟨(HRW.out z hz a x hx).1, HOX.out z (HP6.out.st.below.trans ((HB7.out.trans (hz.mono HB7.out.size)).mono HP6.out.st.below.size))⟩
                        have i4 : (a : Int) < (S1.length : Int) := by omega
                        clear hx hne HRW
                        obtain ⟨C, hC, HCc, HCf⟩ := below_class wr
                        go_wp2_with fail
                        refine region_in C hC (by kernel_rfl) (by kernel_rfl) ?_
                        iterate 11
                          (refine WQ.step (fun K hK => ?_)
                           go_simp
                           first
                             | (refine hK _ ?_; clear hK K)
                             | (apply Exists.intro
                                refine ⟨fun x1 hx1 => ?_, hK _ ?_⟩
                                · first
                                    | rfl
                                    | (obtain ⟨p1, p2⟩ := HCL.out _ (HCf.out _ hx1); go_simp; rfl)
                                clear hK K))
                        refine WQ.nil ?_
                        intro wn hw
                        have HBN := Lib.hid (HB7.out.trans ((HCf.out _ hw).mono HB7.out.size))
                        clear hw hC HCc HCf C HCL HB7
                        go_wp2_with fail
                        go_roundw
                        case rel => exact ⟨a + 1, by omega, by go_num, HBN.out⟩
                        case measure => simp [intOf]; omega
                      · obtain rfl : a = S1.length := by omega
                        have i4 : ¬ (S1.length : Int) < (S1.length : Int) := by omega
                        have HP6n := Lib.hid (HP6.out.call HB7.out)
                        have HVW7 := Lib.hid ((HVW.out.below HB7.out).more HB7.out.size)
                        clear HB7 HP6 HVW HVH
                        obtain ⟨wq, hwq⟩ : ∃ wq, wq = wr := ⟨_, rfl⟩
                        rw [← hwq] at HP6n HVW7
                        go_wp2_with fail
                        rw [← hwq]
                        clear hwq
                        go_loopw [10] (fun aa wr => ∃ a : Nat, a ≤ S2.length ∧ aa = .int .i64 (a : Int) ∧ Below wq.heap.size wq wr) (fun aa _ => S2.length - (intOf aa).toNat)
                        case atStart => exact ⟨0, by omega, rfl, .refl _ _⟩
                        case round =>
                          obtain ⟨a, ha, rfl, hb⟩ := hrel
                          have HB7 := Lib.hid hb
                          clear hb
                          by_cases hlt2 : a < S2.length
                          · obtain ⟨x, hx⟩ : ∃ x, S2[a]? = some x := ⟨_, List.getElem?_eq_getElem hlt2⟩
                            have hne := HN1.out.2 x (List.mem_of_getElem? hx)
                            have hne2 : (x == o2) = false := by simpa using hne
                            obtain ⟨b4, f4, rfl, HRW⟩ := row_at HVW7.out rfl HB7.out hx
                            have HCL : Hid (∀ z, Below wr.heap.size wr z → z.cell? ⟨b4, f4 + a * 2, none⟩ = some (.int .i64 x) ∧ z.cell? ⟨b0, off + p * 4 + 1, none⟩ = some (.int .i64 o2)) := Lib.hid fun z hz => ⟨(HRW.out z hz a x hx).1, HOX.out z (HP6n.out.st.below.trans ((HB7.out.trans (hz.mono HB7.out.size)).mono HP6n.out.st.below.size))⟩
                            have i4 : (a : Int) < (S2.length : Int) := by omega
                            clear hx hne HRW
                            obtain ⟨C, hC, HCc, HCf⟩ := below_class wr
                            go_wp2_with fail
                            refine region_in C hC (by kernel_rfl) (by kernel_rfl) ?_
                            iterate 11
                              (refine WQ.step (fun K hK => ?_)
                               go_simp
                               first
                                 | (refine hK _ ?_; clear hK K)
                                 | (apply Exists.intro
                                    refine ⟨fun x1 hx1 => ?_, hK _ ?_⟩
                                    · first
                                        | rfl
                                        | (obtain ⟨p1, p2⟩ := HCL.out _ (HCf.out _ hx1); go_simp; rfl)
                                    clear hK K))
                            refine WQ.nil ?_
                            intro wn hw
                            have HBN := Lib.hid (HB7.out.trans ((HCf.out _ hw).mono HB7.out.size))
                            clear hw hC HCc HCf C HCL HB7
                            go_wp2_with fail
                            go_roundw
                            case rel => exact ⟨a + 1, by omega, by go_num, HBN.out⟩
                            case measure => simp [intOf]; omega
                          · obtain rfl : a = S2.length := by omega
                            have i4 : ¬ (S2.length : Int) < (S2.length : Int) := by omega
                            have HP8 := Lib.hid (HP6n.out.call HB7.out)
                            clear HB7 HP6n HVW7
                            go_wp2_with fail
                            go_roundw
                            case rel => exact ⟨q + 1, by omega, by omega, by go_num, HP8.out⟩
                            case measure => simp [intOf]; omega
                  · have g1 : ((S1.length : Int) == 0) = true := by simpa using hc1'
                    have g2 : ((S2.length : Int) > 0) = False := by rw [hc2']; simp
                    go_wp2_with fail
                    go_loopw [9] (fun aa wr => ∃ a : Nat, a ≤ S1.length ∧ aa = .int .i64 (a : Int) ∧ Below w6.heap.size w6 wr) (fun aa _ => S1.length - (intOf aa).toNat)
                    case atStart => exact ⟨0, by omega, rfl, .refl _ _⟩
                    case round =>
                      obtain ⟨a, ha, rfl, hb⟩ := hrel
                      have HB7 := Lib.hid hb
                      clear hb
                      by_cases hlt2 : a < S1.length
                      · exfalso; omega
                      · obtain rfl : a = S1.length := by omega
                        have i4 : ¬ (S1.length : Int) < (S1.length : Int) := by omega
                        have HP6n := Lib.hid (HP6.out.call HB7.out)
                        have HVW7 := Lib.hid ((HVW.out.below HB7.out).more HB7.out.size)
                        clear HB7 HP6 HVW HVH
                        obtain ⟨wq, hwq⟩ : ∃ wq, wq = wr := ⟨_, rfl⟩
                        rw [← hwq] at HP6n HVW7
                        go_wp2_with fail
                        rw [← hwq]
                        clear hwq
                        go_loopw [10] (fun aa wr => ∃ a : Nat, a ≤ S2.length ∧ aa = .int .i64 (a : Int) ∧ Below wq.heap.size wq wr) (fun aa _ => S2.length - (intOf aa).toNat)
                        case atStart => exact ⟨0, by omega, rfl, .refl _ _⟩
                        case round =>
                          obtain ⟨a, ha, rfl, hb⟩ := hrel
                          have HB7 := Lib.hid hb
                          clear hb
                          by_cases hlt2 : a < S2.length
                          · exfalso; omega
                          · obtain rfl : a = S2.length := by omega
                            have i4 : ¬ (S2.length : Int) < (S2.length : Int) := by omega
                            have HP8 := Lib.hid (HP6n.out.call HB7.out)
                            clear HB7 HP6n HVW7
                            go_wp2_with fail
                            go_roundw
                            case rel => exact ⟨q + 1, by omega, by omega, by go_num, HP8.out⟩
                            case measure => simp [intOf]; omega
              · have hend2 : ((q : Int) < (l.length : Int) ∧ q = 40) ∨ (¬ (q : Int) < (l.length : Int)) := by omega
                rcases hend2 with ⟨j3, rfl⟩ | j3
                all_goals try (exfalso; omega)
                all_goals
                  go_wp2_with fail
                  go_roundw
                  case rel => exact ⟨p + 1, s', by omega, by omega, by go_num, HP5.out, HI2⟩
                  case measure => simp [intOf]; omega
          · have hend2 : ((p : Int) < (l.length : Int) ∧ p = 40) ∨ (¬ (p : Int) < (l.length : Int)) := by omega
            have HOUT : Hid (∀ y, s.inn y ≠ true) := Lib.hid fun y hy => by
              obtain ⟨i, o', a1, a2, a3, a4⟩ := HI.out y hy
              have := (List.getElem?_eq_some_iff.1 a3).1
              omega
            clear HI
            rcases hend2 with ⟨j3, rfl⟩ | j3
            all_goals try (exfalso; omega)
            all_goals
              go_wp2_with fail
              go_loopw [11] (fun kk wr => ∃ q : Nat, q ≤ l.length ∧ q ≤ 40 ∧ kk = .int .i64 (q : Int) ∧ Pk w wr [] g s (fun _ => False) 40) (fun kk _ => l.length - (intOf kk).toNat)
              case atStart => exact ⟨0, by omega, by omega, rfl, HP.out⟩
              case round =>
                obtain ⟨q, hq1, hq2, rfl, hp⟩ := hrel
                have HP5 := Lib.hid hp
                clear hp HP
                by_cases hlt : q < l.length ∧ q < 40
                · obtain ⟨h3, h4⟩ := hlt
                  obtain ⟨oq, ho2⟩ : ∃ oq, l[q]? = some oq := ⟨_, List.getElem?_eq_getElem h3⟩
                  obtain ⟨b0, off, rfl, hb0, hcc⟩ := (HS.out.below HP5.out.st.below).item encO_len (by omega) q oq ho2
                  have HC5 : Hid (∀ y, Below wr.heap.size wr y → y.cell? ⟨b0, off + q * 4 + 2, none⟩ = some (.int .i64 oq.key) ∧ y.cell? ⟨b0, off + q * 4 + 1, none⟩ = some (.int .i64 oq.x)) := Lib.hid fun y hy => by
                    obtain ⟨b9, off9, hA9, -, hc9⟩ := (HS.out.below (HP5.out.st.below.trans (hy.mono HP5.out.st.below.size))).item encO_len (by omega) q oq ho2
                    injection hA9 with hA9
                    injection hA9 with hA9 hA10
                    subst hA9 hA10
                    exact ⟨hc9 2 _ rfl, hc9 1 _ rfl⟩
                  have hgo := HGO.out oq (List.mem_of_getElem? ho2)
                  obtain ⟨a1, a2, a3⟩ := all_out HP5.out.fine HOUT.out oq.key oq.x
                  have HH := Lib.hid (fun y (hy : Below wr.heap.size wr y) => kholds oq.key hgo.key (HP5.out.call hy) (by omega))
                  have HWT := Lib.hid (fun y (hy : Below wr.heap.size wr y) => kwaits oq.key hgo.key (HP5.out.call hy) (by omega))
                  have HDD := Lib.hid (fun y (hy : Below wr.heap.size wr y) => kdead oq.x hgo.x (HP5.out.call hy))
                  rw [a1] at HH
                  rw [a2] at HWT
                  rw [a3] at HDD
                  simp only [List.length_nil] at HH HWT
                  obtain ⟨k2, x2, key2, bb2⟩ := oq
                  dsimp only at *
                  clear ho2 hgo a1 a2 a3 hcc
                  have q4 : (q : Int) < (l.length : Int) := by omega
                  have q5 : (q : Int) < 40 := by omega
                  go_wp2_with fail
                  refine Iv.region (fun f aa y => ∃ Ah ch Aw cw, aa = ⟨#[.slice (some ⟨b0, off, none⟩) l.length cap, undef, u2, ptr g, .int .i64 (n : Int), .int .i64 (p : Int), u6, u7, u8, u9, u10, .int .i64 (q : Int), ptr g, .bool true, .bool false, .bool false, ptr g, .bool false, .bool false, .int .i64 (n : Int), .slice (some ⟨b0, off, none⟩) l.length cap, .int .i64 (l.length : Int), .bool false, .bool false, undef, undef, .bool false, u27, u28, u29, u30, u31, u32, u33, u34, .int .i64 (p : Int), .slice (some ⟨b0, off, none⟩) l.length cap, .int .i64 (l.length : Int), .bool false, .bool false, undef, undef, .bool false, u43, u44, u45, u46, u47, u48, u49, u50, u51, u52, u53, u54, u55, u56, u57, u58, u59, u60, u61, u62, u63, u64, u65, u66, u67, u68, u69, u70, u71, u72, u73, u74, u75, u76, u77, u78, u79, u80, u81, u82, u83, u84, u85, u86, u87, u88, u89, u90, u91, u92, u93, u94, u95, u96, u97, u98, u99, u100, u101, u102, u103, u104, u105, u106, u107, u108, u109, u110, u111, u112, u113, u114, u115, u116, u117, .int .i64 (q : Int), .slice (some ⟨b0, off, none⟩) l.length cap, .int .i64 (l.length : Int), .bool true, .bool true, .int .i64 (q : Int), .bool true, .bool true, u126, u127, so (f 0) (ptr g) u128, so (f 1) (.slice (some ⟨b0, off, none⟩) l.length cap) u129, so (f 2) (.int .i64 (q : Int)) u130, so (f 3) (.pointer (some ⟨b0, off + q * 4, none⟩)) u131, so (f 4) (.pointer (some ⟨b0, off + q * 4 + 2, none⟩)) u132, so (f 5) (.int .i64 key2) u133, so (f 6) (.slice Ah 0 ch) u134, so (f 7) (.int .i64 0) u135, so (f 8) (ptr g) u136, so (f 9) (.slice (some ⟨b0, off, none⟩) l.length cap) u137, so (f 10) (.int .i64 (q : Int)) u138, so (f 11) (.pointer (some ⟨b0, off + q * 4, none⟩)) u139, so (f 12) (.pointer (some ⟨b0, off + q * 4 + 2, none⟩)) u140, so (f 13) (.int .i64 key2) u141, so (f 14) (.slice Aw 0 cw) u142, so (f 15) (.int .i64 0) u143, so (f 16) (.int .i64 0) u144, so (f 17) (.bool false) u145, so (f 18) (.bool false) u146, so (f 19) (ptr g) u147, so (f 20) (.slice (some ⟨b0, off, none⟩) l.length cap) u148, so (f 21) (.int .i64 (q : Int)) u149, so (f 22) (.pointer (some ⟨b0, off + q * 4, none⟩)) u150, so (f 23) (.pointer (some ⟨b0, off + q * 4 + 1, none⟩)) u151, so (f 24) (.int .i64 x2) u152, so (f 25) (.bool false) u153, so (f 26) (.bool false) u154], []⟩ ∧ Below wr.heap.size wr y ∧ (f 7 = true → f 6 = true) ∧ (f 15 = true → f 14 = true)) (by kernel_rfl) (by kernel_rfl) ?_ ?_ ?_
                  · exact ⟨none, 0, none, 0, rfl, (drew_below wr 1), (fun h => by cases h), (fun h => by cases h)⟩
                  · refine ⟨?_, ?_, ?_, ?_, ?_, ?_, ?_, ?_, ?_, ?_, ?_, ?_, ?_, ?_, ?_, ?_, ?_, ?_, ?_, ?_, ?_, ?_, ?_, ?_, ?_, ?_, ?_, trivial⟩
                    · rintro f a0 y Q' ⟨Ah, ch, Aw, cw, rfl, hw⟩ hi hd hQ
                      replace hQ := Lib.hid hQ
                      simp [Iv.depsB, Region.binds] at hd
                      try simp only [hi, hd, sl_true, sl_false, so_true, so_false]
                      try simp only [hi, sl_true, sl_false, so_true, so_false]
                      go_wp2_with fail
                      refine hQ.out _ _ ⟨Ah, ch, Aw, cw, ?_, ?_⟩
                      · simp [Iv.upd, hi, hd, sl_true, sl_false, so_true, so_false]
                      · simpa [Iv.upd, hi, hd] using hw
                    · rintro f a0 y Q' ⟨Ah, ch, Aw, cw, rfl, hw⟩ hi hd hQ
                      replace hQ := Lib.hid hQ
                      simp [Iv.depsB, Region.binds] at hd
                      try simp only [hi, hd, sl_true, sl_false, so_true, so_false]
                      try simp only [hi, sl_true, sl_false, so_true, so_false]
                      go_wp2_with fail
                      refine hQ.out _ _ ⟨Ah, ch, Aw, cw, ?_, ?_⟩
                      · simp [Iv.upd, hi, hd, sl_true, sl_false, so_true, so_false]
                      · simpa [Iv.upd, hi, hd] using hw
                    · rintro f a0 y Q' ⟨Ah, ch, Aw, cw, rfl, hw⟩ hi hd hQ
                      replace hQ := Lib.hid hQ
                      simp [Iv.depsB, Region.binds] at hd
                      try simp only [hi, hd, sl_true, sl_false, so_true, so_false]
                      try simp only [hi, sl_true, sl_false, so_true, so_false]
                      go_wp2_with fail
                      refine hQ.out _ _ ⟨Ah, ch, Aw, cw, ?_, ?_⟩
                      · simp [Iv.upd, hi, hd, sl_true, sl_false, so_true, so_false]
                      · simpa [Iv.upd, hi, hd] using hw
                    · rintro f a0 y Q' ⟨Ah, ch, Aw, cw, rfl, hw⟩ hi hd hQ
                      replace hQ := Lib.hid hQ
                      simp [Iv.depsB, Region.binds] at hd
                      try simp only [hi, hd, sl_true, sl_false, so_true, so_false]
                      try simp only [hi, sl_true, sl_false, so_true, so_false]
                      go_wp2_with fail
                      refine hQ.out _ _ ⟨Ah, ch, Aw, cw, ?_, ?_⟩
                      · simp [Iv.upd, hi, hd, sl_true, sl_false, so_true, so_false]
                      · simpa [Iv.upd, hi, hd] using hw
                    · rintro f a0 y Q' ⟨Ah, ch, Aw, cw, rfl, hw⟩ hi hd hQ
                      replace hQ := Lib.hid hQ
                      simp [Iv.depsB, Region.binds] at hd
                      try simp only [hi, hd, sl_true, sl_false, so_true, so_false]
                      try simp only [hi, sl_true, sl_false, so_true, so_false]
                      go_wp2_with fail
                      refine hQ.out _ _ ⟨Ah, ch, Aw, cw, ?_, ?_⟩
                      · simp [Iv.upd, hi, hd, sl_true, sl_false, so_true, so_false]
                      · simpa [Iv.upd, hi, hd] using hw
                    · rintro f a0 y Q' ⟨Ah, ch, Aw, cw, rfl, hw⟩ hi hd hQ
                      replace hQ := Lib.hid hQ
                      simp [Iv.depsB, Region.binds] at hd
                      try simp only [hi, hd, sl_true, sl_false, so_true, so_false]
                      try simp only [hi, sl_true, sl_false, so_true, so_false]
                      have u2 := (HC5.out _ hw.1).1
                      go_wp2_with fail
                      refine hQ.out _ _ ⟨Ah, ch, Aw, cw, ?_, ?_⟩
                      · simp [Iv.upd, hi, hd, sl_true, sl_false, so_true, so_false]
                      · simpa [Iv.upd, hi, hd] using hw
                    · rintro f a0 y Q' ⟨Ah, ch, Aw, cw, rfl, hw⟩ hi hd hQ
                      replace hQ := Lib.hid hQ
                      simp [Iv.depsB, Region.binds] at hd
                      try simp only [hi, hd, sl_true, sl_false, so_true, so_false]
                      try simp only [hi, sl_true, sl_false, so_true, so_false]
                      have e7 : f 7 = false := by
                        cases e : f 7 with
                        | false => rfl
                        | true => have h7 := hw.2.1 e; rw [hi] at h7; cases h7
                      have HQW := Lib.hid hw.1
                      have HQI := Lib.hid hw.2
                      clear hw
                      try simp only [e7, so_true, so_false]
                      go_wp2_with fail
                      refine (HH.out y HQW.out).mono ?_
                      rintro e y1 ⟨A3, cap3, rfl, hb, ho⟩
                      have HN := Lib.hid (show _ ∧ _ from ⟨HQW.out.trans (hb.mono HQW.out.size), HQI.out⟩)
                      clear hb ho
                      go_wp2_with fail
                      refine hQ.out _ _ ⟨A3, cap3, Aw, cw, ?_, ?_⟩
                      · simp [Iv.upd, hi, hd, sl_true, sl_false, so_true, so_false, e7]
                      · simpa [Iv.upd, hi, hd, e7] using HN.out
                    · rintro f a0 y Q' ⟨Ah, ch, Aw, cw, rfl, hw⟩ hi hd hQ
                      replace hQ := Lib.hid hQ
                      simp [Iv.depsB, Region.binds] at hd
                      try simp only [hi, hd, sl_true, sl_false, so_true, so_false]
                      try simp only [hi, sl_true, sl_false, so_true, so_false]
                      have e6 : f 6 = true := by simp [hd]
                      go_wp2_with fail
                      refine hQ.out _ _ ⟨Ah, ch, Aw, cw, ?_, ?_⟩
                      · simp [Iv.upd, hi, hd, sl_true, sl_false, so_true, so_false, e6]
                      · simpa [Iv.upd, hi, hd, e6] using hw
                    · rintro f a0 y Q' ⟨Ah, ch, Aw, cw, rfl, hw⟩ hi hd hQ
                      replace hQ := Lib.hid hQ
                      simp [Iv.depsB, Region.binds] at hd
                      try simp only [hi, hd, sl_true, sl_false, so_true, so_false]
                      try simp only [hi, sl_true, sl_false, so_true, so_false]
                      go_wp2_with fail
                      refine hQ.out _ _ ⟨Ah, ch, Aw, cw, ?_, ?_⟩
                      · simp [Iv.upd, hi, hd, sl_true, sl_false, so_true, so_false]
                      · simpa [Iv.upd, hi, hd] using hw
                    · rintro f a0 y Q' ⟨Ah, ch, Aw, cw, rfl, hw⟩ hi hd hQ
                      replace hQ := Lib.hid hQ
                      simp [Iv.depsB, Region.binds] at hd
                      try simp only [hi, hd, sl_true, sl_false, so_true, so_false]
                      try simp only [hi, sl_true, sl_false, so_true, so_false]
                      go_wp2_with fail
                      refine hQ.out _ _ ⟨Ah, ch, Aw, cw, ?_, ?_⟩
                      · simp [Iv.upd, hi, hd, sl_true, sl_false, so_true, so_false]
                      · simpa [Iv.upd, hi, hd] using hw
                    · rintro f a0 y Q' ⟨Ah, ch, Aw, cw, rfl, hw⟩ hi hd hQ
                      replace hQ := Lib.hid hQ
                      simp [Iv.depsB, Region.binds] at hd
                      try simp only [hi, hd, sl_true, sl_false, so_true, so_false]
                      try simp only [hi, sl_true, sl_false, so_true, so_false]
                      go_wp2_with fail
                      refine hQ.out _ _ ⟨Ah, ch, Aw, cw, ?_, ?_⟩
                      · simp [Iv.upd, hi, hd, sl_true, sl_false, so_true, so_false]
                      · simpa [Iv.upd, hi, hd] using hw
                    · rintro f a0 y Q' ⟨Ah, ch, Aw, cw, rfl, hw⟩ hi hd hQ
                      replace hQ := Lib.hid hQ
                      simp [Iv.depsB, Region.binds] at hd
                      try simp only [hi, hd, sl_true, sl_false, so_true, so_false]
                      try simp only [hi, sl_true, sl_false, so_true, so_false]
                      go_wp2_with fail
                      refine hQ.out _ _ ⟨Ah, ch, Aw, cw, ?_, ?_⟩
                      · simp [Iv.upd, hi, hd, sl_true, sl_false, so_true, so_false]
                      · simpa [Iv.upd, hi, hd] using hw
                    · rintro f a0 y Q' ⟨Ah, ch, Aw, cw, rfl, hw⟩ hi hd hQ
                      replace hQ := Lib.hid hQ
                      simp [Iv.depsB, Region.binds] at hd
                      try simp only [hi, hd, sl_true, sl_false, so_true, so_false]
                      try simp only [hi, sl_true, sl_false, so_true, so_false]
                      go_wp2_with fail
                      refine hQ.out _ _ ⟨Ah, ch, Aw, cw, ?_, ?_⟩
                      · simp [Iv.upd, hi, hd, sl_true, sl_false, so_true, so_false]
                      · simpa [Iv.upd, hi, hd] using hw
                    · rintro f a0 y Q' ⟨Ah, ch, Aw, cw, rfl, hw⟩ hi hd hQ
                      replace hQ := Lib.hid hQ
                      simp [Iv.depsB, Region.binds] at hd
                      try simp only [hi, hd, sl_true, sl_false, so_true, so_false]
                      try simp only [hi, sl_true, sl_false, so_true, so_false]
                      have u2 := (HC5.out _ hw.1).1
                      go_wp2_with fail
                      refine hQ.out _ _ ⟨Ah, ch, Aw, cw, ?_, ?_⟩
                      · simp [Iv.upd, hi, hd, sl_true, sl_false, so_true, so_false]
                      · simpa [Iv.upd, hi, hd] using hw
                    · rintro f a0 y Q' ⟨Ah, ch, Aw, cw, rfl, hw⟩ hi hd hQ
                      replace hQ := Lib.hid hQ
                      simp [Iv.depsB, Region.binds] at hd
                      try simp only [hi, hd, sl_true, sl_false, so_true, so_false]
                      try simp only [hi, sl_true, sl_false, so_true, so_false]
                      have e15 : f 15 = false := by
                        cases e : f 15 with
                        | false => rfl
                        | true => have h7 := hw.2.2 e; rw [hi] at h7; cases h7
                      have HQW := Lib.hid hw.1
                      have HQI := Lib.hid hw.2
                      clear hw
                      try simp only [e15, so_true, so_false]
                      go_wp2_with fail
                      refine (HWT.out y HQW.out).mono ?_
                      rintro e y1 ⟨A3, cap3, rfl, hb, ho⟩
                      have HN := Lib.hid (show _ ∧ _ from ⟨HQW.out.trans (hb.mono HQW.out.size), HQI.out⟩)
                      clear hb ho
                      go_wp2_with fail
                      refine hQ.out _ _ ⟨Ah, ch, A3, cap3, ?_, ?_⟩
                      · simp [Iv.upd, hi, hd, sl_true, sl_false, so_true, so_false, e15]
                      · simpa [Iv.upd, hi, hd, e15] using HN.out
                    · rintro f a0 y Q' ⟨Ah, ch, Aw, cw, rfl, hw⟩ hi hd hQ
                      replace hQ := Lib.hid hQ
                      simp [Iv.depsB, Region.binds] at hd
                      try simp only [hi, hd, sl_true, sl_false, so_true, so_false]
                      try simp only [hi, sl_true, sl_false, so_true, so_false]
                      have e14 : f 14 = true := by simp [hd]
                      go_wp2_with fail
                      refine hQ.out _ _ ⟨Ah, ch, Aw, cw, ?_, ?_⟩
                      · simp [Iv.upd, hi, hd, sl_true, sl_false, so_true, so_false, e14]
                      · simpa [Iv.upd, hi, hd, e14] using hw
                    · rintro f a0 y Q' ⟨Ah, ch, Aw, cw, rfl, hw⟩ hi hd hQ
                      replace hQ := Lib.hid hQ
                      simp [Iv.depsB, Region.binds] at hd
                      try simp only [hi, hd, sl_true, sl_false, so_true, so_false]
                      try simp only [hi, sl_true, sl_false, so_true, so_false]
                      have e6 : f 6 = true := hw.2.1 (by simp [hd])
                      have e14 : f 14 = true := hw.2.2 (by simp [hd])
                      go_wp2_with fail
                      refine hQ.out _ _ ⟨Ah, ch, Aw, cw, ?_, ?_⟩
                      · simp [Iv.upd, hi, hd, sl_true, sl_false, so_true, so_false, e6, e14]
                      · simpa [Iv.upd, hi, hd, e6, e14] using hw
                    · rintro f a0 y Q' ⟨Ah, ch, Aw, cw, rfl, hw⟩ hi hd hQ
                      replace hQ := Lib.hid hQ
                      simp [Iv.depsB, Region.binds] at hd
                      try simp only [hi, hd, sl_true, sl_false, so_true, so_false]
                      try simp only [hi, sl_true, sl_false, so_true, so_false]
                      go_wp2_with fail
                      refine hQ.out _ _ ⟨Ah, ch, Aw, cw, ?_, ?_⟩
                      · simp [Iv.upd, hi, hd, sl_true, sl_false, so_true, so_false]
                      · simpa [Iv.upd, hi, hd] using hw
                    · rintro f a0 y Q' ⟨Ah, ch, Aw, cw, rfl, hw⟩ hi hd hQ
                      replace hQ := Lib.hid hQ
                      simp [Iv.depsB, Region.binds] at hd
                      try simp only [hi, hd, sl_true, sl_false, so_true, so_false]
                      try simp only [hi, sl_true, sl_false, so_true, so_false]
                      go_wp2_with fail
                      refine hQ.out _ _ ⟨Ah, ch, Aw, cw, ?_, ?_⟩
                      · simp [Iv.upd, hi, hd, sl_true, sl_false, so_true, so_false]
                      · simpa [Iv.upd, hi, hd] using hw
                    · rintro f a0 y Q' ⟨Ah, ch, Aw, cw, rfl, hw⟩ hi hd hQ
                      replace hQ := Lib.hid hQ
                      simp [Iv.depsB, Region.binds] at hd
                      try simp only [hi, hd, sl_true, sl_false, so_true, so_false]
                      try simp only [hi, sl_true, sl_false, so_true, so_false]
                      go_wp2_with fail
                      refine hQ.out _ _ ⟨Ah, ch, Aw, cw, ?_, ?_⟩
                      · simp [Iv.upd, hi, hd, sl_true, sl_false, so_true, so_false]
                      · simpa [Iv.upd, hi, hd] using hw
                    · rintro f a0 y Q' ⟨Ah, ch, Aw, cw, rfl, hw⟩ hi hd hQ
                      replace hQ := Lib.hid hQ
                      simp [Iv.depsB, Region.binds] at hd
                      try simp only [hi, hd, sl_true, sl_false, so_true, so_false]
                      try simp only [hi, sl_true, sl_false, so_true, so_false]
                      go_wp2_with fail
                      refine hQ.out _ _ ⟨Ah, ch, Aw, cw, ?_, ?_⟩
                      · simp [Iv.upd, hi, hd, sl_true, sl_false, so_true, so_false]
                      · simpa [Iv.upd, hi, hd] using hw
                    · rintro f a0 y Q' ⟨Ah, ch, Aw, cw, rfl, hw⟩ hi hd hQ
                      replace hQ := Lib.hid hQ
                      simp [Iv.depsB, Region.binds] at hd
                      try simp only [hi, hd, sl_true, sl_false, so_true, so_false]
                      try simp only [hi, sl_true, sl_false, so_true, so_false]
                      go_wp2_with fail
                      refine hQ.out _ _ ⟨Ah, ch, Aw, cw, ?_, ?_⟩
                      · simp [Iv.upd, hi, hd, sl_true, sl_false, so_true, so_false]
                      · simpa [Iv.upd, hi, hd] using hw
                    · rintro f a0 y Q' ⟨Ah, ch, Aw, cw, rfl, hw⟩ hi hd hQ
                      replace hQ := Lib.hid hQ
                      simp [Iv.depsB, Region.binds] at hd
                      try simp only [hi, hd, sl_true, sl_false, so_true, so_false]
                      try simp only [hi, sl_true, sl_false, so_true, so_false]
                      go_wp2_with fail
                      refine hQ.out _ _ ⟨Ah, ch, Aw, cw, ?_, ?_⟩
                      · simp [Iv.upd, hi, hd, sl_true, sl_false, so_true, so_false]
                      · simpa [Iv.upd, hi, hd] using hw
                    · rintro f a0 y Q' ⟨Ah, ch, Aw, cw, rfl, hw⟩ hi hd hQ
                      replace hQ := Lib.hid hQ
                      simp [Iv.depsB, Region.binds] at hd
                      try simp only [hi, hd, sl_true, sl_false, so_true, so_false]
                      try simp only [hi, sl_true, sl_false, so_true, so_false]
                      go_wp2_with fail
                      refine hQ.out _ _ ⟨Ah, ch, Aw, cw, ?_, ?_⟩
                      · simp [Iv.upd, hi, hd, sl_true, sl_false, so_true, so_false]
                      · simpa [Iv.upd, hi, hd] using hw
                    · rintro f a0 y Q' ⟨Ah, ch, Aw, cw, rfl, hw⟩ hi hd hQ
                      replace hQ := Lib.hid hQ
                      simp [Iv.depsB, Region.binds] at hd
                      try simp only [hi, hd, sl_true, sl_false, so_true, so_false]
                      try simp only [hi, sl_true, sl_false, so_true, so_false]
                      have u2 := (HC5.out _ hw.1).2
                      go_wp2_with fail
                      refine hQ.out _ _ ⟨Ah, ch, Aw, cw, ?_, ?_⟩
                      · simp [Iv.upd, hi, hd, sl_true, sl_false, so_true, so_false]
                      · simpa [Iv.upd, hi, hd] using hw
                    · rintro f a0 y Q' ⟨Ah, ch, Aw, cw, rfl, hw⟩ hi hd hQ
                      replace hQ := Lib.hid hQ
                      simp [Iv.depsB, Region.binds] at hd
                      try simp only [hi, hd, sl_true, sl_false, so_true, so_false]
                      try simp only [hi, sl_true, sl_false, so_true, so_false]
                      have HQW := Lib.hid hw
                      clear hw
                      go_wp2_with fail
                      refine (HDD.out y HQW.out.1).mono ?_
                      rintro e y1 ⟨rfl, e9⟩
                      subst y1
                      go_wp2_with fail
                      refine hQ.out _ _ ⟨Ah, ch, Aw, cw, ?_, ?_⟩
                      · simp [Iv.upd, hi, hd, sl_true, sl_false, so_true, so_false]
                      · simpa [Iv.upd, hi, hd] using HQW.out
                    · rintro f a0 y Q' ⟨Ah, ch, Aw, cw, rfl, hw⟩ hi hd hQ
                      replace hQ := Lib.hid hQ
                      simp [Iv.depsB, Region.binds] at hd
                      try simp only [hi, hd, sl_true, sl_false, so_true, so_false]
                      try simp only [hi, sl_true, sl_false, so_true, so_false]
                      go_wp2_with fail
                      refine hQ.out _ _ ⟨Ah, ch, Aw, cw, ?_, ?_⟩
                      · simp [Iv.upd, hi, hd, sl_true, sl_false, so_true, so_false]
                      · simpa [Iv.upd, hi, hd] using hw
                  · rintro f a0 w6 ⟨Ah, ch, Aw, cw, rfl, hw⟩ hall
                    simp only [hall 0 (by decide), hall 1 (by decide), hall 2 (by decide), hall 3 (by decide), hall 4 (by decide), hall 5 (by decide), hall 6 (by decide), hall 7 (by decide), hall 8 (by decide), hall 9 (by decide), hall 10 (by decide), hall 11 (by decide), hall 12 (by decide), hall 13 (by decide), hall 14 (by decide), hall 15 (by decide), hall 16 (by decide), hall 17 (by decide), hall 18 (by decide), hall 19 (by decide), hall 20 (by decide), hall 21 (by decide), hall 22 (by decide), hall 23 (by decide), hall 24 (by decide), hall 25 (by decide), hall 26 (by decide), sl_true, ↓reduceIte, so_true, so_false] at hw ⊢
                    clear hall
                    have HP6 := Lib.hid (HP5.out.call hw.1)
                    clear hw HH HWT HDD HC5 HP5
                    go_wp2_with fail
                    go_roundw
                    case rel => exact ⟨q + 1, by omega, by omega, by go_num, HP6.out⟩
                    case measure => simp [intOf]; omega
                · have hend3 : ((q : Int) < (l.length : Int) ∧ q = 40) ∨ (¬ (q : Int) < (l.length : Int)) := by omega
                  rcases hend3 with ⟨j4, rfl⟩ | j4
                  all_goals try (exfalso; omega)
                  all_goals
                    go_wp2_with fail
                    go_ret
                    exact ⟨rfl, HP5.out.st.below⟩

set_option maxRecDepth 100000 in
theorem lifted (os : Os) (started : os.Started) (H : Type) (enc : TypeId × Value → H) :
    ReturnsInHanded {} Try.checked os 5 .any (Rows.locksEndsSpec.pre6 enc Try.prog Try.f5 Rows.locksEndsRow.domain false) (Rows.locksEndsSpec.post enc Try.prog Try.f5 false true false false) := by
  refine returnsInHanded_of_change (C := Try.checked) own started (by kernel_rfl) Try.func5
    (ChangeSpec.witness6 (enc := enc) (C := Try.checked) false ⟨#[], #[.slice none 0 0], []⟩ 8 (by kernel_rfl) (by kernel_rfl) (by kernel_rfl) (by kernel_rfl)) ?_
  intro W base args ds gs before hval0 hW hcnd _
  have hval : ∀ (j : Nat) t v, Try.f5.params[j]? = some t → args[j]? = some v → Value.okWide Try.prog W .any base t v := hval0
  have hW' := hW
  obtain ⟨p, q, hA0, hV, rfl, hfz, hnd⟩ := hW
  have hA : DataW.TrodAll enc Try.prog W 0 (fun _ => true) true Try.f5.params.toList args.toList ds p := hA0
  rw [Try.params5] at hA hval
  obtain ⟨v0, vs0, d0, ds0, p0, q0, hargs, rfl, rfl, h0, r0⟩ := trodAll_cons hA
  obtain ⟨rfl, rfl, rfl⟩ := trodAll_nil r0
  obtain rfl : args = #[v0] := by cases args; simp_all
  obtain ⟨rfl, rfl⟩ := trodVars_none hV
  obtain ⟨A0, len0, cap0, rfl⟩ := okWide_slice Try.underlying22 (hval 0 22 v0 rfl rfl)
  obtain ⟨l0, w0⟩ := open_ops h0
  have lt0 : ∀ x ∈ p0, x.block < W.heap.size := by obtain ⟨m, hm⟩ := h0; exact DataW.trod_lt m _ _ _ hm
  clear hA0 hval0
  simp only [List.append_nil] at hW'
  refine (walk A0 len0 cap0 l0 W w0).mono fun e W' ⟨he, bel⟩ => ?_
  subst he
  exact ⟨_, rfl, _, _, _, [], _, [], hW', trodAll_mk1 (shut_bool Try.underlying4 _), (trodAll_cons_mk (Below.trod laidOut (by kernel_rfl) (of_decide_eq_true (by kernel_rfl)) h0 bel lt0) trodAll_mk0), rfl, bel.frame _, fun h => by cases h⟩

theorem proved : Rows.LocksEndsSaid :=
  OpenClaim.holds_of_wide 5 Try.f5 rfl rfl rfl rfl rfl rfl rfl ⟨rfl, rfl, rfl, rfl, rfl⟩ rfl rfl rfl rfl rfl (by kernel_rfl) Try.func5 (by kernel_rfl)
    (of_decide_eq_true (by kernel_rfl)) (by unfold Func.isWrapper; first | (rw [if_pos (by decide +kernel)]; kernel_rfl) | (rw [if_neg (by decide +kernel)]; exact ⟨rfl, rfl⟩))
    (fun os started H enc _ => lifted os started H enc)
#print axioms proved
end Go.Proofs.Ytilognaadkcncaa.locksEnds
