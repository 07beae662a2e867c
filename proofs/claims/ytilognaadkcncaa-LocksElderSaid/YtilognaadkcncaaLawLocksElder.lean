/- Whoever waits does so for elder ones, and for no younger one that holds the key; for every input, without conditions (of more calls the first 40 are made). -/
import Derived.Test.YtilognaadkcncaaLokL
namespace Go.Proofs.Ytilognaadkcncaa.locksElder
open Go.ChangeShapes Go.WideShapes Go.ChangeAt Go.RowKit Go.Lk
set_option linter.unusedVariables false
set_option linter.unusedSimpArgs false

set_option maxHeartbeats 16000000 in
set_option maxRecDepth 100000 in
theorem walk (A : Option Addr) (len cap : Nat) (l : List Op13) (w : World) (hL : IsR w A len cap 4 encO GO l) :
    Calls Try.prog 4 #[.slice A len cap] w fun r w' => r = .returned (.bool true) ∧ Below w.heap.size w w' := by
  obtain ⟨hlen, hs, hc1, hc2, hnil, hg⟩ := hL
  subst hlen
  have HS := Lib.hid hs
  have HGO := Lib.hid hg
  clear hs hg hnil
  go_enter Try.func4, Try.ntmps4
  go_wp2_with fail
  refine (knew _).mono ?_
  rintro e w1 ⟨rfl, -, k1⟩
  have H := Lib.hid k1
  clear k1
  generalize w.heap.size + 1 + 1 = g at *
  go_wp2_with fail
  refine (awake_any _).mono ?_
  rintro r w2 ⟨rfl, hb1⟩
  replace H := Lib.hid (H.out.call hb1)
  clear hb1
  go_wp2_with fail
  go_loopw [4] (fun i wr => ∃ (n : Nat) (s : Tb), n ≤ l.length ∧ n ≤ 40 ∧ i = .int .i64 (n : Int) ∧ Pk w wr [] g s (fun _ => False) n) (fun i _ => l.length - (intOf i).toNat)
  case atStart => exact ⟨0, newT, by omega, by omega, rfl, H.out⟩
  case round =>
    obtain ⟨n, s, hn1, hn2, rfl, hp⟩ := hrel
    have HP := Lib.hid hp
    clear hp H
    by_cases hlt : n < l.length ∧ n < 40
    · obtain ⟨h1, h2⟩ := hlt
      obtain ⟨o, ho⟩ : ∃ o, l[n]? = some o := ⟨_, List.getElem?_eq_getElem h1⟩
      obtain ⟨b0, off, rfl, hb, hcc⟩ := (HS.out.below HP.out.st.below).item encO_len (by omega) n o ho
      have q0 := hcc 0 _ rfl
      have q1 := hcc 1 _ rfl
      have q2 := hcc 2 _ rfl
      have q3 := hcc 3 _ rfl
      rw [Nat.add_zero] at q0
      have i1 : (n : Int) < (l.length : Int) := by omega
      have i2 : (n : Int) < 40 := by omega
      have HDO := Lib.hid (does_any o (HGO.out o (List.mem_of_getElem? ho)) HP.out (by omega))
      clear hcc ho HP
      generalize runA s o = R at *
      generalize runE s o = E at *
      generalize run1 s o = s' at *
      obtain ⟨r1, r2, r3⟩ := R
      dsimp only at *
      go_wp2_with fail
      refine HDO.out.mono ?_
      rintro e w4 ⟨A4, c4, B4, e4, rfl, hp, -, -, -⟩
      have HP4 := Lib.hid hp
      clear hp HDO
      go_wp2_with fail
      go_loopw [5] (fun kk wr => ∃ q : Nat, q ≤ n + 1 ∧ kk = .int .i64 (q : Int) ∧ Pk w wr [] g s' (fun _ => False) (n + 1)) (fun kk _ => n + 1 - (intOf kk).toNat)
      case atStart => exact ⟨0, by omega, rfl, HP4.out⟩
      case round =>
        obtain ⟨q, hq, rfl, hp⟩ := hrel
        have HP5 := Lib.hid hp
        clear hp HP4
        by_cases hlt : q ≤ n
        · obtain ⟨o2, ho2⟩ : ∃ o2, l[q]? = some o2 := ⟨_, List.getElem?_eq_getElem (by omega)⟩
          obtain ⟨b1, off1, hA1, hb1, hcc⟩ := (HS.out.below HP5.out.st.below).item encO_len (by omega) q o2 ho2
          injection hA1 with hA1
          injection hA1 with hA1 hA2
          subst hA1 hA2
          have u2 := hcc 2 _ rfl
          have i3 : (q : Int) ≤ (n : Int) := by omega
          have hkey := (HGO.out o2 (List.mem_of_getElem? ho2)).key
          have HH := Lib.hid (fun y (hy : Below wr.heap.size wr y) => kholds o2.key hkey (HP5.out.call hy) (by omega))
          have HWT := Lib.hid (fun y (hy : Below wr.heap.size wr y) => kwaits o2.key hkey (HP5.out.call hy) (by omega))
          have HE5 := Lib.hid (fun a x => wait_elder HP5.out.fine (k := o2.key) (a := a) (x := x))
          have HYG := Lib.hid (fun x y => wait_young HP5.out.fine (k := o2.key) (x := x) (y := y))
          have HAL : Hid (∀ x, x ∈ supp (s'.w o2.key) → s'.dead x = false ∧ W64 x) := Lib.hid fun x hx => ⟨wait_alive HP5.out.fine hx, wait64 HP5.out.fine hx⟩
          have HC5 : Hid (∀ y, Below wr.heap.size wr y → y.cell? ⟨b0, off + q * 4 + 2, none⟩ = some (.int .i64 o2.key)) := Lib.hid fun y hy => by
            obtain ⟨b9, off9, hA9, -, hc9⟩ := (HS.out.below (HP5.out.st.below.trans (hy.mono HP5.out.st.below.size))).item encO_len (by omega) q o2 ho2
            injection hA9 with hA9
            injection hA9 with hA9 hA10
            subst hA9 hA10
            exact hc9 2 _ rfl
          have hsl : (supp (s'.h o2.key)).length ≤ n + 1 ∧ (supp (s'.w o2.key)).length ≤ n + 1 := ⟨Nat.le_trans (mid_fewh HP5.out.fine o2.key) HP5.out.few, Nat.le_trans (mid_feww HP5.out.fine o2.key) HP5.out.few⟩
          generalize fl (s'.h o2.key) = f1 at *
          generalize fl (s'.w o2.key) = f2 at *
          generalize supp (s'.h o2.key) = S1 at *
          generalize supp (s'.w o2.key) = S2 at *
          obtain ⟨hs1, hs2⟩ := hsl
          obtain ⟨k2, x2, key2, bb2⟩ := o2
          dsimp only at *
          clear hcc ho2 hkey u2
          have q4 : (q : Int) < (l.length : Int) := by omega
          go_wp2_with fail
          refine Iv.region (fun f aa y => ∃ Ah ch Aw cw, aa = ⟨#[Value.slice (some { block := b0, off := off }) l.length cap, undef, u2, ptr g, Value.int IntKind.i64 ↑n, Value.int IntKind.i64 ↑q, so (f 14) (.slice Ah S1.length ch) u6, so (f 15) (.slice Aw S2.length cw) u7, u8, u9, u10, u11, ptr g, Value.bool true, Value.bool false, Value.bool false, ptr g, Value.bool false, Value.bool false, Value.int IntKind.i64 ↑n, Value.slice (some { block := b0, off := off }) l.length cap, Value.int IntKind.i64 ↑l.length, Value.bool true, Value.bool true, Value.int IntKind.i64 ↑n, Value.bool true, Value.bool true, u27, u28, ptr g, Value.slice (some { block := b0, off := off }) l.length cap, Value.int IntKind.i64 ↑n, Value.pointer (some { block := b0, off := off + n * 4 }), Value.agg #[Value.int IntKind.i64 o.k, Value.int IntKind.i64 o.x, Value.int IntKind.i64 o.key, Value.bool o.b], Value.tuple #[Value.agg #[Value.bool r1, Value.slice A4 r2.length c4, Value.slice B4 r3.length e4], Value.int IntKind.i64 E], Value.int IntKind.i64 ↑q, Value.int IntKind.i64 ↑n, Value.bool true, u38, u39, so (f 0) (ptr g) u40, so (f 1) (.slice (some ⟨b0, off, none⟩) l.length cap) u41, so (f 2) (.int .i64 (q : Int)) u42, so (f 3) (.pointer (some ⟨b0, off + q * 4, none⟩)) u43, so (f 4) (.pointer (some ⟨b0, off + q * 4 + 2, none⟩)) u44, so (f 5) (.int .i64 key2) u45, so (f 6) (.slice Ah S1.length ch) u46, so (f 7) (ptr g) u47, so (f 8) (.slice (some ⟨b0, off, none⟩) l.length cap) u48, so (f 9) (.int .i64 (q : Int)) u49, so (f 10) (.pointer (some ⟨b0, off + q * 4, none⟩)) u50, so (f 11) (.pointer (some ⟨b0, off + q * 4 + 2, none⟩)) u51, so (f 12) (.int .i64 key2) u52, so (f 13) (.slice Aw S2.length cw) u53, u54, u55, u56, u57, u58, u59, u60, u61, u62, u63, u64, u65, u66, u67, u68, u69, u70, u71, u72, u73, u74, u75, u76, u77, u78, u79, u80, u81, u82, u83, u84, u85, u86, u87, u88, u89, u90, u91, u92, u93, u94, u95, u96, u97, u98, u99, u100, u101, u102, u103, u104, u105, u106, u107, u108, u109, u110, u111, u112, u113, u114, u115, u116, u117, u118, u119, u120, u121, u122, u123, u124, u125, u126, u127, u128, u129, u130, u131, u132, u133, u134, u135, u136, u137, u138, u139, u140, u141, u142, u143, u144, u145, u146, u147, u148, u149], []⟩ ∧ Hw wr y S1 S2 f1 f2 Ah Aw (f 6) (f 13) ∧ (f 14 = true → f 6 = true) ∧ (f 15 = true → f 13 = true)) (by kernel_rfl) (by kernel_rfl) ?_ ?_ ?_
          · exact ⟨none, 0, none, 0, rfl, Hw.start wr (drew_below wr 1), (fun h => by cases h), (fun h => by cases h)⟩
          · refine ⟨?_, ?_, ?_, ?_, ?_, ?_, ?_, ?_, ?_, ?_, ?_, ?_, ?_, ?_, ?_, ?_, trivial⟩
            · rintro f a0 y Q' ⟨Ah, ch, Aw, cw, rfl, hw⟩ hi hd hQ
              replace hQ := Lib.hid hQ
              simp [Iv.depsB, Region.binds] at hd
              try simp only [hi, hd, sl_true, sl_false, so_true, so_false]
              try simp only [hi, sl_true, sl_false, so_true, so_false]
              go_wp2_with fail
              refine hQ.out _ _ ⟨Ah, ch, Aw, cw, ?_, ?_⟩
              · simp [Iv.upd, hi, hd, sl_true, sl_false, so_true, so_false]
              · simpa [Iv.upd, hi, hd] using hw
            · rintro f a0 y Q' ⟨Ah, ch, Aw, cw, rfl, hw⟩ hi hd hQ
              replace hQ := Lib.hid hQ
              simp [Iv.depsB, Region.binds] at hd
              try simp only [hi, hd, sl_true, sl_false, so_true, so_false]
              try simp only [hi, sl_true, sl_false, so_true, so_false]
              go_wp2_with fail
              refine hQ.out _ _ ⟨Ah, ch, Aw, cw, ?_, ?_⟩
              · simp [Iv.upd, hi, hd, sl_true, sl_false, so_true, so_false]
              · simpa [Iv.upd, hi, hd] using hw
            · rintro f a0 y Q' ⟨Ah, ch, Aw, cw, rfl, hw⟩ hi hd hQ
              replace hQ := Lib.hid hQ
              simp [Iv.depsB, Region.binds] at hd
              try simp only [hi, hd, sl_true, sl_false, so_true, so_false]
              try simp only [hi, sl_true, sl_false, so_true, so_false]
              go_wp2_with fail
              refine hQ.out _ _ ⟨Ah, ch, Aw, cw, ?_, ?_⟩
              · simp [Iv.upd, hi, hd, sl_true, sl_false, so_true, so_false]
              · simpa [Iv.upd, hi, hd] using hw
            · rintro f a0 y Q' ⟨Ah, ch, Aw, cw, rfl, hw⟩ hi hd hQ
              replace hQ := Lib.hid hQ
              simp [Iv.depsB, Region.binds] at hd
              try simp only [hi, hd, sl_true, sl_false, so_true, so_false]
              try simp only [hi, sl_true, sl_false, so_true, so_false]
              go_wp2_with fail
              refine hQ.out _ _ ⟨Ah, ch, Aw, cw, ?_, ?_⟩
              · simp [Iv.upd, hi, hd, sl_true, sl_false, so_true, so_false]
              · simpa [Iv.upd, hi, hd] using hw
            · rintro f a0 y Q' ⟨Ah, ch, Aw, cw, rfl, hw⟩ hi hd hQ
              replace hQ := Lib.hid hQ
              simp [Iv.depsB, Region.binds] at hd
              try simp only [hi, hd, sl_true, sl_false, so_true, so_false]
              try simp only [hi, sl_true, sl_false, so_true, so_false]
              go_wp2_with fail
              refine hQ.out _ _ ⟨Ah, ch, Aw, cw, ?_, ?_⟩
              · simp [Iv.upd, hi, hd, sl_true, sl_false, so_true, so_false]
              · simpa [Iv.upd, hi, hd] using hw
            · rintro f a0 y Q' ⟨Ah, ch, Aw, cw, rfl, hw⟩ hi hd hQ
              replace hQ := Lib.hid hQ
              simp [Iv.depsB, Region.binds] at hd
              try simp only [hi, hd, sl_true, sl_false, so_true, so_false]
              try simp only [hi, sl_true, sl_false, so_true, so_false]
              have u2 := HC5.out _ hw.1.bel
              go_wp2_with fail
              refine hQ.out _ _ ⟨Ah, ch, Aw, cw, ?_, ?_⟩
              · simp [Iv.upd, hi, hd, sl_true, sl_false, so_true, so_false]
              · simpa [Iv.upd, hi, hd] using hw
            · rintro f a0 y Q' ⟨Ah, ch, Aw, cw, rfl, hw⟩ hi hd hQ
              replace hQ := Lib.hid hQ
              simp [Iv.depsB, Region.binds] at hd
              try simp only [hi, hd, sl_true, sl_false, so_true, so_false]
              try simp only [hi, sl_true, sl_false, so_true, so_false]
              have e14 : f 14 = false := by
                cases e : f 14 with
                | false => rfl
                | true => have h7 := hw.2.1 e; rw [hi] at h7; cases h7
              have HQW := Lib.hid hw.1
              have HQI := Lib.hid hw.2
              rw [hi] at HQW
              clear hw
              try simp only [e14, so_true, so_false]
              go_wp2_with fail
              refine (HH.out y HQW.out.bel).mono ?_
              rintro e y1 ⟨A3, cap3, rfl, hb, ho⟩
              have HN := Lib.hid (show _ ∧ _ from ⟨HQW.out.row1 hb (Sees.own ho), HQI.out⟩)
              clear hb ho
              go_wp2_with fail
              refine hQ.out _ _ ⟨A3, cap3, Aw, cw, ?_, ?_⟩
              · simp [Iv.upd, hi, hd, sl_true, sl_false, so_true, so_false, e14]
              · simpa [Iv.upd, hi, hd, e14] using HN.out
            · rintro f a0 y Q' ⟨Ah, ch, Aw, cw, rfl, hw⟩ hi hd hQ
              replace hQ := Lib.hid hQ
              simp [Iv.depsB, Region.binds] at hd
              try simp only [hi, hd, sl_true, sl_false, so_true, so_false]
              try simp only [hi, sl_true, sl_false, so_true, so_false]
              go_wp2_with fail
              refine hQ.out _ _ ⟨Ah, ch, Aw, cw, ?_, ?_⟩
              · simp [Iv.upd, hi, hd, sl_true, sl_false, so_true, so_false]
              · simpa [Iv.upd, hi, hd] using hw
            · rintro f a0 y Q' ⟨Ah, ch, Aw, cw, rfl, hw⟩ hi hd hQ
              replace hQ := Lib.hid hQ
              simp [Iv.depsB, Region.binds] at hd
              try simp only [hi, hd, sl_true, sl_false, so_true, so_false]
              try simp only [hi, sl_true, sl_false, so_true, so_false]
              go_wp2_with fail
              refine hQ.out _ _ ⟨Ah, ch, Aw, cw, ?_, ?_⟩
              · simp [Iv.upd, hi, hd, sl_true, sl_false, so_true, so_false]
              · simpa [Iv.upd, hi, hd] using hw
            · rintro f a0 y Q' ⟨Ah, ch, Aw, cw, rfl, hw⟩ hi hd hQ
              replace hQ := Lib.hid hQ
              simp [Iv.depsB, Region.binds] at hd
              try simp only [hi, hd, sl_true, sl_false, so_true, so_false]
              try simp only [hi, sl_true, sl_false, so_true, so_false]
              go_wp2_with fail
              refine hQ.out _ _ ⟨Ah, ch, Aw, cw, ?_, ?_⟩
              · simp [Iv.upd, hi, hd, sl_true, sl_false, so_true, so_false]
              · simpa [Iv.upd, hi, hd] using hw
            · rintro f a0 y Q' ⟨Ah, ch, Aw, cw, rfl, hw⟩ hi hd hQ
              replace hQ := Lib.hid hQ
              simp [Iv.depsB, Region.binds] at hd
              try simp only [hi, hd, sl_true, sl_false, so_true, so_false]
              try simp only [hi, sl_true, sl_false, so_true, so_false]
              go_wp2_with fail
              refine hQ.out _ _ ⟨Ah, ch, Aw, cw, ?_, ?_⟩
              · simp [Iv.upd, hi, hd, sl_true, sl_false, so_true, so_false]
              · simpa [Iv.upd, hi, hd] using hw
            · rintro f a0 y Q' ⟨Ah, ch, Aw, cw, rfl, hw⟩ hi hd hQ
              replace hQ := Lib.hid hQ
              simp [Iv.depsB, Region.binds] at hd
              try simp only [hi, hd, sl_true, sl_false, so_true, so_false]
              try simp only [hi, sl_true, sl_false, so_true, so_false]
              go_wp2_with fail
              refine hQ.out _ _ ⟨Ah, ch, Aw, cw, ?_, ?_⟩
              · simp [Iv.upd, hi, hd, sl_true, sl_false, so_true, so_false]
              · simpa [Iv.upd, hi, hd] using hw
            · rintro f a0 y Q' ⟨Ah, ch, Aw, cw, rfl, hw⟩ hi hd hQ
              replace hQ := Lib.hid hQ
              simp [Iv.depsB, Region.binds] at hd
              try simp only [hi, hd, sl_true, sl_false, so_true, so_false]
              try simp only [hi, sl_true, sl_false, so_true, so_false]
              have u2 := HC5.out _ hw.1.bel
              go_wp2_with fail
              refine hQ.out _ _ ⟨Ah, ch, Aw, cw, ?_, ?_⟩
              · simp [Iv.upd, hi, hd, sl_true, sl_false, so_true, so_false]
              · simpa [Iv.upd, hi, hd] using hw
            · rintro f a0 y Q' ⟨Ah, ch, Aw, cw, rfl, hw⟩ hi hd hQ
              replace hQ := Lib.hid hQ
              simp [Iv.depsB, Region.binds] at hd
              try simp only [hi, hd, sl_true, sl_false, so_true, so_false]
              try simp only [hi, sl_true, sl_false, so_true, so_false]
              have e15 : f 15 = false := by
                cases e : f 15 with
                | false => rfl
                | true => have h7 := hw.2.2 e; rw [hi] at h7; cases h7
              have HQW := Lib.hid hw.1
              have HQI := Lib.hid hw.2
              rw [hi] at HQW
              clear hw
              try simp only [e15, so_true, so_false]
              go_wp2_with fail
              refine (HWT.out y HQW.out.bel).mono ?_
              rintro e y1 ⟨A3, cap3, rfl, hb, ho⟩
              have HN := Lib.hid (show _ ∧ _ from ⟨HQW.out.row2 hb (Sees.own ho), HQI.out⟩)
              clear hb ho
              go_wp2_with fail
              refine hQ.out _ _ ⟨Ah, ch, A3, cap3, ?_, ?_⟩
              · simp [Iv.upd, hi, hd, sl_true, sl_false, so_true, so_false, e15]
              · simpa [Iv.upd, hi, hd, e15] using HN.out
            · rintro f a0 y Q' ⟨Ah, ch, Aw, cw, rfl, hw⟩ hi hd hQ
              replace hQ := Lib.hid hQ
              simp [Iv.depsB, Region.binds] at hd
              try simp only [hi, hd, sl_true, sl_false, so_true, so_false]
              try simp only [hi, sl_true, sl_false, so_true, so_false]
              have e6 : f 6 = true := by simp [hd]
              go_wp2_with fail
              refine hQ.out _ _ ⟨Ah, ch, Aw, cw, ?_, ?_⟩
              · simp [Iv.upd, hi, hd, sl_true, sl_false, so_true, so_false, e6]
              · simpa [Iv.upd, hi, hd, e6] using hw
            · rintro f a0 y Q' ⟨Ah, ch, Aw, cw, rfl, hw⟩ hi hd hQ
              replace hQ := Lib.hid hQ
              simp [Iv.depsB, Region.binds] at hd
              try simp only [hi, hd, sl_true, sl_false, so_true, so_false]
              try simp only [hi, sl_true, sl_false, so_true, so_false]
              have e13 : f 13 = true := by simp [hd]
              go_wp2_with fail
              refine hQ.out _ _ ⟨Ah, ch, Aw, cw, ?_, ?_⟩
              · simp [Iv.upd, hi, hd, sl_true, sl_false, so_true, so_false, e13]
              · simpa [Iv.upd, hi, hd, e13] using hw
          · rintro f a0 w6 ⟨Ah, ch, Aw, cw, rfl, hw⟩ hall
            simp only [hall 0 (by decide), hall 1 (by decide), hall 2 (by decide), hall 3 (by decide), hall 4 (by decide), hall 5 (by decide), hall 6 (by decide), hall 7 (by decide), hall 8 (by decide), hall 9 (by decide), hall 10 (by decide), hall 11 (by decide), hall 12 (by decide), hall 13 (by decide), hall 14 (by decide), hall 15 (by decide), sl_true, ↓reduceIte, so_true, so_false] at hw ⊢
            clear hall
            have HP6 := Lib.hid (HP5.out.call hw.1.bel)
            have HVH := Lib.hid (hw.1.h rfl)
            have HVW := Lib.hid (hw.1.w rfl)
            clear hw HH HWT HC5 HP5
            go_wp2_with fail
            go_loopw [8] (fun aa wr => ∃ a : Nat, a ≤ S2.length ∧ aa = .int .i64 (a : Int) ∧ Below w6.heap.size w6 wr) (fun aa _ => S2.length - (intOf aa).toNat)
            case atStart => exact ⟨0, by omega, rfl, .refl _ _⟩
            case round =>
              obtain ⟨a, ha, rfl, hb⟩ := hrel
              have HP7 := Lib.hid (HP6.out.call hb)
              have HB7 := Lib.hid hb
              clear hb
              by_cases hlt2 : a < S2.length
              · obtain ⟨x, hx⟩ : ∃ x, S2[a]? = some x := ⟨_, List.getElem?_eq_getElem hlt2⟩
                have hxm := List.mem_of_getElem? hx
                obtain ⟨b4, f4, rfl, HRW⟩ := row_at HVW.out rfl HB7.out hx
                have HDD := Lib.hid (fun y (hy : Below wr.heap.size wr y) => kdead x (HAL.out x hxm).2 (HP7.out.call hy))
                rw [(HAL.out x hxm).1] at HDD
                have i4 : (a : Int) < (S2.length : Int) := by omega
                have HEL := Lib.hid (HE5.out a x hx)
                have HX := Lib.hid hx
                have HY := Lib.hid (fun y hy => HYG.out x y hxm hy)
                have HBX : Hid (∃ bx, bx = f2 x) := Lib.hid ⟨_, rfl⟩
                clear hx hxm
                obtain ⟨w8, hw8⟩ : ∃ w8, w8 = wr := ⟨_, rfl⟩
                rw [← hw8] at HP7 HB7 HRW HDD
                go_wp2_with fail
                rw [← hw8]
                clear hw8
                go_loopw [9, 10] (fun ev bv wb => ∃ (j : Nat) (e : Bool), j ≤ S1.length ∧ bv = .int .i64 (j : Int) ∧ ev = .bool e ∧ Hid (∀ (i : Nat) (y : Int), i < j → S1[i]? = some y → y < x → (f1 y = true ∨ f2 x = true) → e = true) ∧ Below w8.heap.size w8 wb) (fun _ bv _ => S1.length - (intOf bv).toNat)
                case atStart => exact ⟨0, false, by omega, rfl, rfl, Lib.hid (fun i y h => by omega), .refl _ _⟩
                case round =>
                  obtain ⟨j, e, hj, rfl, rfl, HI, hb⟩ := hrel
                  have HB8 := Lib.hid hb
                  clear hb
                  by_cases hlt3 : j < S1.length
                  · obtain ⟨y, hy⟩ : ∃ y, S1[j]? = some y := ⟨_, List.getElem?_eq_getElem hlt3⟩
                    have hym := List.mem_of_getElem? hy
                    obtain ⟨b5, f5, rfl, HRH⟩ := row_at HVH.out rfl (HB7.out.trans (HB8.out.mono HB7.out.size)) hy
                    have HCL : Hid (∀ z, Below wr.heap.size wr z → z.cell? ⟨b5, f5 + j * 2, none⟩ = some (.int .i64 y) ∧ z.cell? ⟨b5, f5 + j * 2 + 1, none⟩ = some (.bool (f1 y)) ∧ z.cell? ⟨b4, f4 + a * 2, none⟩ = some (.int .i64 x) ∧ z.cell? ⟨b4, f4 + a * 2 + 1, none⟩ = some (.bool (f2 x))) := Lib.hid fun z hz =>
                      ⟨(HRH.out z hz j y hy).1, (HRH.out z hz j y hy).2, (HRW.out z (HB8.out.trans (hz.mono HB8.out.size)) a x HX.out).1, (HRW.out z (HB8.out.trans (hz.mono HB8.out.size)) a x HX.out).2⟩
                    have HYY := Lib.hid (HY.out y hym)
                    have HJ : Hid (∀ e' : Bool, (e = true → e' = true) → (y < x → (f1 y = true ∨ f2 x = true) → e' = true) → ∀ (i : Nat) (y : Int), i < j + 1 → S1[i]? = some y → y < x → (f1 y = true ∨ f2 x = true) → e' = true) := Lib.hid fun e' h1 h2 i z hi hz hzx hf => by
                      rcases Nat.lt_or_ge i j with h | h
                      · exact h1 (HI.out i z h hz hzx hf)
                      · obtain rfl : i = j := by omega
                        rw [hy] at hz
                        injection hz with hz
                        subst hz
                        exact h2 hzx hf
                    have i5 : (j : Int) < (S1.length : Int) := by omega
                    clear hy hym HRH HI
                    generalize f1 y = c1 at *
                    generalize f2 x = c2 at *
                    obtain ⟨C, hC, HCc, HCf⟩ := below_class wr
                    have hcase : (e = true ∧ x < y ∧ c1 = false ∧ c2 = false) ∨ (e = true ∧ y ≤ x) ∨ (e = false ∧ x < y ∧ c1 = false ∧ c2 = false) ∨ (e = false ∧ y < x ∧ c1 = true) ∨ (e = false ∧ y < x ∧ c1 = false) ∨ (e = false ∧ y = x) := by
                      have hyy := HYY.out
                      rcases Int.lt_trichotomy y x with h | h | h
                      · cases e
                        · cases c1
                          · exact .inr (.inr (.inr (.inr (.inl ⟨rfl, h, rfl⟩))))
                          · exact .inr (.inr (.inr (.inl ⟨rfl, h, rfl⟩)))
                        · exact .inr (.inl ⟨rfl, by omega⟩)
                      · cases e
                        · exact .inr (.inr (.inr (.inr (.inr ⟨rfl, h⟩))))
                        · exact .inr (.inl ⟨rfl, by omega⟩)
                      · obtain ⟨h1, h2⟩ := hyy h
                        cases e
                        · exact .inr (.inr (.inl ⟨rfl, h, h2, h1⟩))
                        · exact .inl ⟨rfl, h, h2, h1⟩
                    clear HYY
                    rcases hcase with ⟨rfl, hxy, rfl, rfl⟩ | ⟨rfl, hxy⟩ | ⟨rfl, hxy, rfl, rfl⟩ | ⟨rfl, hxy, rfl⟩ | ⟨rfl, hxy, rfl⟩ | ⟨rfl, hxy⟩
                    · have i6 : (y < x) = False := eq_false (by omega)
                      go_wp2_with fail
                      refine region_in C hC (by kernel_rfl) (by kernel_rfl) ?_
                      iterate 29
                        (refine WQ.step (fun K hK => ?_)
                         go_simp
                         first
                           | (refine hK _ ?_; clear hK K)
                           | (apply Exists.intro
                              refine ⟨fun x1 hx1 => ?_, hK _ ?_⟩
                              · first
                                  | rfl
                                  | (obtain ⟨p1, p2, p3, p4⟩ := HCL.out _ (HCf.out _ hx1); go_simp; rfl)
                              clear hK K))
                      refine WQ.nil ?_
                      intro wn hw
                      have HBN := Lib.hid (HCf.out _ hw)
                      clear hw hC HCc HCf C
                      obtain ⟨C, hC, HCc, HCf⟩ := below_class wn
                      go_wp2_with fail
                      refine region_in C hC (by kernel_rfl) (by kernel_rfl) ?_
                      iterate 25
                        (refine WQ.step (fun K hK => ?_)
                         go_simp
                         first
                           | (refine hK _ ?_; clear hK K)
                           | (apply Exists.intro
                              refine ⟨fun x1 hx1 => ?_, hK _ ?_⟩
                              · first
                                  | rfl
                                  | (obtain ⟨p1, p2, p3, p4⟩ := HCL.out _ (HBN.out.trans ((HCf.out _ hx1).mono HBN.out.size)); go_simp; rfl)
                              clear hK K))
                      refine WQ.nil ?_
                      intro wm hw
                      have HBM := Lib.hid (HB8.out.trans ((HBN.out.trans ((HCf.out _ hw).mono HBN.out.size)).mono HB8.out.size))
                      clear hw hC HCc HCf C HBN HCL
                      go_wp2_with fail
                      go_roundw
                      case rel => exact ⟨j + 1, true, by omega, by go_num, rfl, Lib.hid (HJ.out true (fun _ => rfl) (fun _ _ => rfl)), HBM.out⟩
                      case measure => simp [intOf]; omega
                    · have i6 : (x < y) = False := eq_false (by omega)
                      go_wp2_with fail
                      refine region_in C hC (by kernel_rfl) (by kernel_rfl) ?_
                      iterate 29
                        (refine WQ.step (fun K hK => ?_)
                         go_simp
                         first
                           | (refine hK _ ?_; clear hK K)
                           | (apply Exists.intro
                              refine ⟨fun x1 hx1 => ?_, hK _ ?_⟩
                              · first
                                  | rfl
                                  | (obtain ⟨p1, p2, p3, p4⟩ := HCL.out _ (HCf.out _ hx1); go_simp; rfl)
                              clear hK K))
                      refine WQ.nil ?_
                      intro wn hw
                      have HBN := Lib.hid (HCf.out _ hw)
                      clear hw hC HCc HCf C
                      obtain ⟨C, hC, HCc, HCf⟩ := below_class wn
                      go_wp2_with fail
                      refine region_in C hC (by kernel_rfl) (by kernel_rfl) ?_
                      iterate 25
                        (refine WQ.step (fun K hK => ?_)
                         go_simp
                         first
                           | (refine hK _ ?_; clear hK K)
                           | (apply Exists.intro
                              refine ⟨fun x1 hx1 => ?_, hK _ ?_⟩
                              · first
                                  | rfl
                                  | (obtain ⟨p1, p2, p3, p4⟩ := HCL.out _ (HBN.out.trans ((HCf.out _ hx1).mono HBN.out.size)); go_simp; rfl)
                              clear hK K))
                      refine WQ.nil ?_
                      intro wm hw
                      have HBM := Lib.hid (HB8.out.trans ((HBN.out.trans ((HCf.out _ hw).mono HBN.out.size)).mono HB8.out.size))
                      clear hw hC HCc HCf C HBN HCL
                      go_wp2_with fail
                      go_roundw
                      case rel => exact ⟨j + 1, true, by omega, by go_num, rfl, Lib.hid (HJ.out true (fun _ => rfl) (fun _ _ => rfl)), HBM.out⟩
                      case measure => simp [intOf]; omega
                    · have i6 : (y < x) = False := eq_false (by omega)
                      go_wp2_with fail
                      refine region_in C hC (by kernel_rfl) (by kernel_rfl) ?_
                      iterate 29
                        (refine WQ.step (fun K hK => ?_)
                         go_simp
                         first
                           | (refine hK _ ?_; clear hK K)
                           | (apply Exists.intro
                              refine ⟨fun x1 hx1 => ?_, hK _ ?_⟩
                              · first
                                  | rfl
                                  | (obtain ⟨p1, p2, p3, p4⟩ := HCL.out _ (HCf.out _ hx1); go_simp; rfl)
                              clear hK K))
                      refine WQ.nil ?_
                      intro wn hw
                      have HBN := Lib.hid (HCf.out _ hw)
                      clear hw hC HCc HCf C
                      obtain ⟨C, hC, HCc, HCf⟩ := below_class wn
                      go_wp2_with fail
                      refine region_in C hC (by kernel_rfl) (by kernel_rfl) ?_
                      iterate 25
                        (refine WQ.step (fun K hK => ?_)
                         go_simp
                         first
                           | (refine hK _ ?_; clear hK K)
                           | (apply Exists.intro
                              refine ⟨fun x1 hx1 => ?_, hK _ ?_⟩
                              · first
                                  | rfl
                                  | (obtain ⟨p1, p2, p3, p4⟩ := HCL.out _ (HBN.out.trans ((HCf.out _ hx1).mono HBN.out.size)); go_simp; rfl)
                              clear hK K))
                      refine WQ.nil ?_
                      intro wm hw
                      have HBM := Lib.hid (HB8.out.trans ((HBN.out.trans ((HCf.out _ hw).mono HBN.out.size)).mono HB8.out.size))
                      clear hw hC HCc HCf C HBN HCL
                      go_wp2_with fail
                      go_roundw
                      case rel => exact ⟨j + 1, false, by omega, by go_num, rfl, Lib.hid (HJ.out false (by intro h; first | exact h | exact rfl | cases h) (fun h => absurd h (by omega))), HBM.out⟩
                      case measure => simp [intOf]; omega
                    · have i6 : (x < y) = False := eq_false (by omega)
                      go_wp2_with fail
                      refine region_in C hC (by kernel_rfl) (by kernel_rfl) ?_
                      iterate 29
                        (refine WQ.step (fun K hK => ?_)
                         go_simp
                         first
                           | (refine hK _ ?_; clear hK K)
                           | (apply Exists.intro
                              refine ⟨fun x1 hx1 => ?_, hK _ ?_⟩
                              · first
                                  | rfl
                                  | (obtain ⟨p1, p2, p3, p4⟩ := HCL.out _ (HCf.out _ hx1); go_simp; rfl)
                              clear hK K))
                      refine WQ.nil ?_
                      intro wn hw
                      have HBN := Lib.hid (HCf.out _ hw)
                      clear hw hC HCc HCf C
                      obtain ⟨C, hC, HCc, HCf⟩ := below_class wn
                      go_wp2_with fail
                      refine region_in C hC (by kernel_rfl) (by kernel_rfl) ?_
                      iterate 25
                        (refine WQ.step (fun K hK => ?_)
                         go_simp
                         first
                           | (refine hK _ ?_; clear hK K)
                           | (apply Exists.intro
                              refine ⟨fun x1 hx1 => ?_, hK _ ?_⟩
                              · first
                                  | rfl
                                  | (obtain ⟨p1, p2, p3, p4⟩ := HCL.out _ (HBN.out.trans ((HCf.out _ hx1).mono HBN.out.size)); go_simp; rfl)
                              clear hK K))
                      refine WQ.nil ?_
                      intro wm hw
                      have HBM := Lib.hid (HB8.out.trans ((HBN.out.trans ((HCf.out _ hw).mono HBN.out.size)).mono HB8.out.size))
                      clear hw hC HCc HCf C HBN HCL
                      go_wp2_with fail
                      go_roundw
                      case rel => exact ⟨j + 1, true, by omega, by go_num, rfl, Lib.hid (HJ.out true (fun _ => rfl) (fun _ _ => rfl)), HBM.out⟩
                      case measure => simp [intOf]; omega
                    · have i6 : (x < y) = False := eq_false (by omega)
                      go_wp2_with fail
                      refine region_in C hC (by kernel_rfl) (by kernel_rfl) ?_
                      iterate 29
                        (refine WQ.step (fun K hK => ?_)
                         go_simp
                         first
                           | (refine hK _ ?_; clear hK K)
                           | (apply Exists.intro
                              refine ⟨fun x1 hx1 => ?_, hK _ ?_⟩
                              · first
                                  | rfl
                                  | (obtain ⟨p1, p2, p3, p4⟩ := HCL.out _ (HCf.out _ hx1); go_simp; rfl)
                              clear hK K))
                      refine WQ.nil ?_
                      intro wn hw
                      have HBN := Lib.hid (HCf.out _ hw)
                      clear hw hC HCc HCf C
                      obtain ⟨C, hC, HCc, HCf⟩ := below_class wn
                      go_wp2_with fail
                      refine region_in C hC (by kernel_rfl) (by kernel_rfl) ?_
                      iterate 25
                        (refine WQ.step (fun K hK => ?_)
                         go_simp
                         first
                           | (refine hK _ ?_; clear hK K)
                           | (apply Exists.intro
                              refine ⟨fun x1 hx1 => ?_, hK _ ?_⟩
                              · first
                                  | rfl
                                  | (obtain ⟨p1, p2, p3, p4⟩ := HCL.out _ (HBN.out.trans ((HCf.out _ hx1).mono HBN.out.size)); go_simp; rfl)
                              clear hK K))
                      refine WQ.nil ?_
                      intro wm hw
                      have HBM := Lib.hid (HB8.out.trans ((HBN.out.trans ((HCf.out _ hw).mono HBN.out.size)).mono HB8.out.size))
                      clear hw hC HCc HCf C HBN HCL
                      go_wp2_with fail
                      go_roundw
                      case rel => exact ⟨j + 1, c2, by omega, by go_num, rfl, Lib.hid (HJ.out c2 (by intro h; cases h) (fun _ h => by simpa using h)), HBM.out⟩
                      case measure => simp [intOf]; omega
                    · have i6 : (x < y) = False := eq_false (by omega)
                      have i7 : (y < x) = False := eq_false (by omega)
                      have HEQ : Hid (∃ d : Int, d = 0 ∧ y = x + d) := Lib.hid ⟨0, rfl, by omega⟩
                      clear hxy
                      go_wp2_with fail
                      refine region_in C hC (by kernel_rfl) (by kernel_rfl) ?_
                      iterate 29
                        (refine WQ.step (fun K hK => ?_)
                         go_simp
                         first
                           | (refine hK _ ?_; clear hK K)
                           | (apply Exists.intro
                              refine ⟨fun x1 hx1 => ?_, hK _ ?_⟩
                              · first
                                  | rfl
                                  | (obtain ⟨p1, p2, p3, p4⟩ := HCL.out _ (HCf.out _ hx1); go_simp; rfl)
                              clear hK K))
                      refine WQ.nil ?_
                      intro wn hw
                      have HBN := Lib.hid (HCf.out _ hw)
                      clear hw hC HCc HCf C
                      obtain ⟨C, hC, HCc, HCf⟩ := below_class wn
                      go_wp2_with fail
                      refine region_in C hC (by kernel_rfl) (by kernel_rfl) ?_
                      iterate 25
                        (refine WQ.step (fun K hK => ?_)
                         go_simp
                         first
                           | (refine hK _ ?_; clear hK K)
                           | (apply Exists.intro
                              refine ⟨fun x1 hx1 => ?_, hK _ ?_⟩
                              · first
                                  | rfl
                                  | (obtain ⟨p1, p2, p3, p4⟩ := HCL.out _ (HBN.out.trans ((HCf.out _ hx1).mono HBN.out.size)); go_simp; rfl)
                              clear hK K))
                      refine WQ.nil ?_
                      intro wm hw
                      have HBM := Lib.hid (HB8.out.trans ((HBN.out.trans ((HCf.out _ hw).mono HBN.out.size)).mono HB8.out.size))
                      clear hw hC HCc HCf C HBN HCL
                      go_wp2_with fail
                      go_roundw
                      case rel => exact ⟨j + 1, false, by omega, by go_num, rfl, Lib.hid (HJ.out false (by intro h; first | exact h | exact rfl | cases h) (by intro h; exfalso; obtain ⟨d, h1, h2⟩ := HEQ.out; omega)), HBM.out⟩
                      case measure => simp [intOf]; omega
                  · obtain rfl : j = S1.length := by omega
                    have i5 : ¬ (S1.length : Int) < (S1.length : Int) := by omega
                    have HE0 : Hid ((∃ (i : Nat) (y : Int), S1[i]? = some y ∧ y < x ∧ (f1 y = true ∨ f2 x = true)) → e = true) := Lib.hid fun ⟨i, y, h1, h2, h3⟩ => HI.out i y (List.getElem?_eq_some_iff.1 h1).1 h1 h2 h3
                    clear HI HY
                    go_wp2_with fail
                    go_loopw [9, 11] (fun ev bv wb => ∃ (j : Nat) (e2 : Bool), j ≤ a ∧ bv = .int .i64 (j : Int) ∧ ev = .bool e2 ∧ Hid ((e = true → e2 = true) ∧ ∀ (i : Nat) (z : Int), i < j → S2[i]? = some z → (f2 z = true ∨ f2 x = true) → e2 = true) ∧ Below w8.heap.size w8 wb) (fun _ bv _ => a - (intOf bv).toNat)
                    case atStart => exact ⟨0, e, by omega, rfl, rfl, Lib.hid ⟨fun h => h, fun i z h => by omega⟩, HB8.out⟩
                    case round =>
                      obtain ⟨j, e2, hj2, rfl, rfl, HI2, hb⟩ := hrel
                      have HB9 := Lib.hid hb
                      clear hb
                      obtain ⟨y0, y1⟩ := HRW.out wr HB9.out a x HX.out
                      by_cases hlt4 : j < a
                      · obtain ⟨z, hz⟩ : ∃ z, S2[j]? = some z := ⟨_, List.getElem?_eq_getElem (by omega)⟩
                        obtain ⟨z0, z1⟩ := HRW.out wr HB9.out j z hz
                        have HJ2 : Hid (∀ e' : Bool, (e2 = true → e' = true) → ((f2 z = true ∨ f2 x = true) → e' = true) → (e = true → e' = true) ∧ ∀ (i : Nat) (z : Int), i < j + 1 → S2[i]? = some z → (f2 z = true ∨ f2 x = true) → e' = true) := Lib.hid fun e' h1 h2 => ⟨fun h => h1 (HI2.out.1 h), fun i y hi hy hf => by
                          rcases Nat.lt_or_ge i j with h | h
                          · exact h1 (HI2.out.2 i y h hy hf)
                          · obtain rfl : i = j := by omega
                            rw [hz] at hy
                            injection hy with hy
                            subst hy
                            exact h2 hf⟩
                        have i6 : (j : Int) < (a : Int) := by omega
                        have i7 : (j : Int) < (S2.length : Int) := by omega
                        clear hz HI2
                        generalize f2 z = c3 at *
                        generalize f2 x = c2 at *
                        cases e2
                        · cases c3
                          · go_wp2_with fail
                            go_roundw
                            case rel => exact ⟨j + 1, c2, by omega, by go_num, rfl, Lib.hid (HJ2.out c2 (by intro h; cases h) (fun h => by simpa using h)), HB9.out⟩
                            case measure => simp [intOf]; omega
                          · go_wp2_with fail
                            go_roundw
                            case rel => exact ⟨j + 1, true, by omega, by go_num, rfl, Lib.hid (HJ2.out true (fun _ => rfl) (fun _ => rfl)), HB9.out⟩
                            case measure => simp [intOf]; omega
                        · go_wp2_with fail
                          go_roundw
                          case rel => exact ⟨j + 1, true, by omega, by go_num, rfl, Lib.hid (HJ2.out true (fun _ => rfl) (fun _ => rfl)), HB9.out⟩
                          case measure => simp [intOf]; omega
                      · obtain rfl : j = a := by omega
                        have i6 : ¬ (j : Int) < (j : Int) := by omega
                        obtain rfl : e2 = true := by
                          rcases HEL.out with h | ⟨i, z, h1, h2, h3⟩
                          · exact HI2.out.1 (HE0.out h)
                          · exact HI2.out.2 i z h1 h2 h3
                        have HD1 := Lib.hid (HDD.out wr HB9.out)
                        clear HI2 HDD HEL HE0
                        go_wp2_with fail
                        refine HD1.out.mono ?_
                        rintro e w9 ⟨rfl, rfl⟩
                        go_wp2_with fail
                        go_roundw
                        case rel => exact ⟨j + 1, by omega, by go_num, HB7.out.trans (HB9.out.mono HB7.out.size)⟩
                        case measure => simp [intOf]; omega
              · obtain rfl : a = S2.length := by omega
                have i4 : ¬ (S2.length : Int) < (S2.length : Int) := by omega
                go_wp2_with fail
                go_roundw
                case rel => exact ⟨q + 1, by omega, by go_num, HP7.out⟩
                case measure => simp [intOf]; omega
        · obtain rfl : q = n + 1 := by omega
          have i3 : ¬ ((n + 1 : Nat) : Int) ≤ (n : Int) := by omega
          go_wp2_with fail
          go_roundw
          case rel => exact ⟨n + 1, s', by omega, by omega, by go_num, HP5.out⟩
          case measure => simp [intOf]; omega
    · have hend : ((n : Int) < (l.length : Int) ∧ n = 40) ∨ (¬ (n : Int) < (l.length : Int)) := by omega
      rcases hend with ⟨i1, rfl⟩ | i1
      all_goals
        go_wp2_with fail
        go_ret
        exact ⟨rfl, HP.out.st.below⟩

set_option maxRecDepth 100000 in
theorem lifted (os : Os) (started : os.Started) (H : Type) (enc : TypeId × Value → H) :
    ReturnsInHanded {} Try.checked os 4 .any (Rows.locksElderSpec.pre6 enc Try.prog Try.f4 Rows.locksElderRow.domain false) (Rows.locksElderSpec.post enc Try.prog Try.f4 false true false false) := by
  refine returnsInHanded_of_change (C := Try.checked) own started (by kernel_rfl) Try.func4
    (ChangeSpec.witness6 (enc := enc) (C := Try.checked) false ⟨#[], #[.slice none 0 0], []⟩ 8 (by kernel_rfl) (by kernel_rfl) (by kernel_rfl) (by kernel_rfl)) ?_
  intro W base args ds gs before hval0 hW hcnd _
  have hval : ∀ (j : Nat) t v, Try.f4.params[j]? = some t → args[j]? = some v → Value.okWide Try.prog W .any base t v := hval0
  have hW' := hW
  obtain ⟨p, q, hA0, hV, rfl, hfz, hnd⟩ := hW
  have hA : DataW.TrodAll enc Try.prog W 0 (fun _ => true) true Try.f4.params.toList args.toList ds p := hA0
  rw [Try.params4] at hA hval
  obtain ⟨v0, vs0, d0, ds0, p0, q0, hargs, rfl, rfl, h0, r0⟩ := trodAll_cons hA
  obtain ⟨rfl, rfl, rfl⟩ := trodAll_nil r0
  obtain rfl : args = #[v0] := by cases args; simp_all
  obtain ⟨rfl, rfl⟩ := trodVars_none hV
  obtain ⟨A0, len0, cap0, rfl⟩ := okWide_slice Try.underlying22 (hval 0 22 v0 rfl rfl)
  obtain ⟨l0, w0⟩ := open_ops h0
  have lt0 : ∀ x ∈ p0, x.block < W.heap.size := by obtain ⟨m, hm⟩ := h0; exact DataW.trod_lt m _ _ _ hm
  clear hA0 hval0
  simp only [List.append_nil] at hW'
  refine (walk A0 len0 cap0 l0 W w0).mono fun e W' ⟨he, bel⟩ => ?_
  subst he
  exact ⟨_, rfl, _, _, _, [], _, [], hW', trodAll_mk1 (shut_bool Try.underlying4 _), (trodAll_cons_mk (Below.trod laidOut (by kernel_rfl) (of_decide_eq_true (by kernel_rfl)) h0 bel lt0) trodAll_mk0), rfl, bel.frame _, fun h => by cases h⟩

theorem proved : Rows.LocksElderSaid :=
  OpenClaim.holds_of_wide 4 Try.f4 rfl rfl rfl rfl rfl rfl rfl ⟨rfl, rfl, rfl, rfl, rfl⟩ rfl rfl rfl rfl rfl (by kernel_rfl) Try.func4 (by kernel_rfl)
    (of_decide_eq_true (by kernel_rfl)) (by unfold Func.isWrapper; first | (rw [if_pos (by decide +kernel)]; kernel_rfl) | (rw [if_neg (by decide +kernel)]; exact ⟨rfl, rfl⟩))
    (fun os started H enc _ => lifted os started H enc)
#print axioms proved
end Go.Proofs.Ytilognaadkcncaa.locksElder
