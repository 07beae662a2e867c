/- What is told of holders, waiting ones and answers is its owner's; for every input, without conditions (of more calls the first 30 are made). -/
import Derived.Test.YtilognaadkcncaaLokSm
namespace Go.Proofs.Ytilognaadkcncaa.locksOwn
open Go.ChangeShapes Go.WideShapes Go.ChangeAt Go.RowKit Go.Lk
set_option linter.unusedVariables false
set_option linter.unusedSimpArgs false

set_option maxHeartbeats 16000000 in
set_option maxRecDepth 100000 in
theorem walk (A : Option Addr) (len cap : Nat) (l : List Op13) (w : World) (hL : IsR w A len cap 4 encO GO l) :
    Calls Try.prog 6 #[.slice A len cap] w fun r w' => r = .returned (.bool true) ∧ Below w.heap.size w w' := by
  obtain ⟨hlen, hs, hc1, hc2, hnil, hg⟩ := hL
  subst hlen
  have HS := Lib.hid hs
  have HGO := Lib.hid hg
  clear hs hg hnil
  go_enter Try.func6, Try.ntmps6
  go_wp2_with fail
  refine (knew _).mono ?_
  rintro e w1 ⟨rfl, -, k1⟩
  have H1 := Lib.hid k1
  clear k1
  generalize w.heap.size + 1 + 1 = g at *
  go_wp2_with fail
  refine (knew _).mono ?_
  rintro e w2 ⟨rfl, -, k2⟩
  have H := Lib.hid (Pk2.made H1.out k2)
  clear k2 H1
  generalize w1.heap.size + 1 + 1 = g2 at *
  go_wp2_with fail
  refine (awake_any _).mono ?_
  rintro r w3 ⟨rfl, hb1⟩
  replace H := Lib.hid (H.out.call hb1)
  clear hb1
  go_wp2_with fail
  go_loopw [5] (fun i wr => ∃ (n : Nat) (s : Tb), n ≤ l.length ∧ n ≤ 30 ∧ i = .int .i64 (n : Int) ∧ Pk2 w wr [] g s g2 s (2 * n)) (fun i _ => l.length - (intOf i).toNat)
  case atStart => exact ⟨0, newT, by omega, by omega, rfl, H.out⟩
  case round =>
    obtain ⟨n, s, hn1, hn2, rfl, hp⟩ := hrel
    have HP := Lib.hid hp
    clear hp H
    by_cases hlt : n < l.length ∧ n < 30
    · obtain ⟨h1, h2⟩ := hlt
      obtain ⟨o, ho⟩ : ∃ o, l[n]? = some o := ⟨_, List.getElem?_eq_getElem h1⟩
      obtain ⟨b0, off, rfl, hb, hcc⟩ := (HS.out.below HP.out.st.below).item encO_len (by omega) n o ho
      have HCE : Hid (∀ y, Below w.heap.size w y → y.cell? ⟨b0, off + n * 4, none⟩ = some (.int .i64 o.k) ∧ y.cell? ⟨b0, off + n * 4 + 1, none⟩ = some (.int .i64 o.x) ∧ y.cell? ⟨b0, off + n * 4 + 2, none⟩ = some (.int .i64 o.key) ∧ y.cell? ⟨b0, off + n * 4 + 3, none⟩ = some (.bool o.b)) := Lib.hid fun y hy => by
        obtain ⟨b9, off9, hA9, -, hc9⟩ := (HS.out.below hy).item encO_len (by omega) n o ho
        injection hA9 with hA9
        injection hA9 with hA9 hA10
        subst hA9 hA10
        exact ⟨hc9 0 _ rfl, hc9 1 _ rfl, hc9 2 _ rfl, hc9 3 _ rfl⟩
      obtain ⟨q0, q1, q2, q3⟩ := HCE.out _ HP.out.st.below
      have i1 : (n : Int) < (l.length : Int) := by omega
      have i2 : (n : Int) < 30 := by omega
      have hgo := HGO.out o (List.mem_of_getElem? ho)
      have HDO := Lib.hid (does2_any o hgo HP.out (by omega))
      have HDO2 := Lib.hid (fun (y : World) (L : List Row) (h : Pk2 w y L g2 s g (run1 s o) (2 * n + 1)) => does2_any o hgo h (by omega))
      have hkey := hgo.key
      have hwz := HP.out.st.below.size
      have HWZ := Lib.hid hwz
      clear hcc ho HP hgo hb
      generalize runA s o = R at *
      generalize runE s o = E at *
      generalize run1 s o = s' at *
      obtain ⟨r1, r2, r3⟩ := R
      obtain ⟨o1, o2, o3, o4⟩ := o
      dsimp only at *
      go_wp2_with fail
      refine HDO.out.mono ?_
      rintro e w4 ⟨A4, c4, B4, e4, rfl, hp, hz, ho1, ho2⟩
      obtain ⟨L1, hp1, HS1⟩ := hp.tell ho1 (by decide) HWZ.out
      obtain ⟨L2, hp2, HS2⟩ := hp1.tell ho2 (by decide) HWZ.out
      have HR1 := Lib.hid (own_room ho1)
      have HR2 := Lib.hid (own_room ho2)
      have hm1 : r2.length ≤ 9223372036854775807 := by obtain ⟨_, _, e, h1, h2, _⟩ := own_slice0 ho1; omega
      have hm2 : r3.length ≤ 9223372036854775807 := by obtain ⟨_, _, e, h1, h2, _⟩ := own_slice0 ho2; omega
      have HPX := Lib.hid (hp2.alloc w4.heap.size rfl 34 #[.bool r1, .slice A4 r2.length c4, .slice B4 r3.length e4] (by decide))
      have HWX : Hid (w.heap.size ≤ (w4.alloc (.cells #[.bool r1, .slice A4 r2.length c4, .slice B4 r3.length e4] 34)).heap.size) := Lib.hid HPX.out.st.below.size
      clear hp hp1 hp2 hz ho1 ho2 HDO q0 q1 q2 q3 hwz
      obtain ⟨q0, q1, q2, q3⟩ := HCE.out _ HPX.out.st.below
      go_wp2_with fail
      have HD2 := Lib.hid (HDO2.out _ _ HPX.out.swap)
      generalize hbx : w4.heap.size = bx at *
      generalize w4.alloc (.cells #[.bool r1, .slice A4 r2.length c4, .slice B4 r3.length e4] 34) = w4x at *
      clear hbx q0 q1 q2 q3
      refine HD2.out.mono ?_
      rintro e w5 ⟨A5, c5, B5, e5, rfl, hp, hz, ho1, ho2⟩
      have HR3 := Lib.hid (own_room ho1)
      have HR4 := Lib.hid (own_room ho2)
      have hal := (Below.refl w5.heap.size w5).alloc (Nat.le_refl _) (.cells #[.bool r1, .slice A5 r2.length c5, .slice B5 r3.length e5] 34)
      have HY1 := Lib.hid (((Sees.own ho1).below hal).more hal.size)
      have HY2 := Lib.hid (((Sees.own ho2).below hal).more hal.size)
      have HPY := Lib.hid (hp.alloc w5.heap.size rfl 34 #[.bool r1, .slice A5 r2.length c5, .slice B5 r3.length e5] (by decide))
      clear hp hz ho1 ho2 hal HD2 HDO2 HPX
      generalize hby : w5.heap.size = yb at *
      generalize hw5 : w5.alloc (.cells #[.bool r1, .slice A5 r2.length c5, .slice B5 r3.length e5] 34) = w6 at *
      have hx1 := HS1.out w6 fun r hr => HPY.out.st.knows r (by simp [hr])
      have hx2 := HS2.out w6 fun r hr => HPY.out.st.knows r (by simp [hr])
      have HK1 := Lib.hid hx1.2
      have HK2 := Lib.hid hx2.2
      have HI := Lib.hid (rints_any A4 c4 A5 c5 r2 w6 (by rw [flat_encN]; exact hx1.1) (by rw [flat_encN]; exact HY1.out) HR1.out HR3.out hm1)
      have HG := Lib.hid (fun y (hy : Below w6.heap.size w6 y) => rgrants_any B4 e4 B5 e5 r3 y ((hx2.1.below hy).more hy.size) ((HY2.out.below hy).more hy.size) HR2.out HR4.out hm2)
      have HPB := Lib.hid (HPY.out.keep (L' := [(yb, 34, #[.bool r1, .slice A5 r2.length c5, .slice B5 r3.length e5]), (bx, 34, #[.bool r1, .slice A4 r2.length c4, .slice B4 r3.length e4])]) fun r hr => by
        simp only [List.mem_cons, List.not_mem_nil, or_false] at hr ⊢
        rcases hr with hr | hr <;> simp [hr])
      have ky := HPB.out.st.knows.at 0 rfl
      have kx := HPB.out.st.knows.at 1 rfl
      have y0 := ky.cell 0
      have y1 := ky.cell 1
      have y2 := ky.cell 2
      have yz := ky.lt
      have x0 := kx.cell 0
      have x1 := kx.cell 1
      have x2 := kx.cell 2
      have xz := kx.lt
      simp only [List.getElem?_toArray, List.getElem?_cons_zero, List.getElem?_cons_succ] at y0 y1 y2 x0 x1 x2
      clear ky kx hx1 hx2 HS1 HS2 HY1 HY2 HPY HR1 HR2 HR3 HR4
      subst hw5
      subst hby
      go_wp2_with fail
      refine HI.out.mono ?_
      rintro e w7 ⟨rfl, hb7⟩
      have HG2 := Lib.hid (HG.out w7 hb7)
      have HP7 := Lib.hid (HPB.out.call hb7)
      have HK17 := Lib.hid (HK1.out.call hb7)
      have HK27 := Lib.hid (HK2.out.call hb7)
      clear hb7 HI HG HPB HK1 HK2 y0 y1 y2 yz x0 x1 x2 xz
      generalize w5.heap.size = yb at *
      have ky := HP7.out.st.knows.at 0 rfl
      have kx := HP7.out.st.knows.at 1 rfl
      have y2 := ky.cell 2
      have yz := ky.lt
      have x2 := kx.cell 2
      have xz := kx.lt
      simp only [List.getElem?_toArray, List.getElem?_cons_zero, List.getElem?_cons_succ] at y2 x2
      clear ky kx
      go_wp2_with fail
      refine HG2.out.mono ?_
      rintro e w8 ⟨rfl, hb8⟩
      have HP8 := Lib.hid (HP7.out.call hb8)
      have HK1 := Lib.hid (HK17.out.call hb8)
      have HK2 := Lib.hid (HK27.out.call hb8)
      clear hb8 HG2 HP7 HK17 HK27 y2 yz x2 xz
      obtain ⟨LB, hLB⟩ : ∃ LB : List Row, LB = [(yb, 34, #[.bool r1, .slice A5 r2.length c5, .slice B5 r3.length e5]), (bx, 34, #[.bool r1, .slice A4 r2.length c4, .slice B4 r3.length e4])] := ⟨_, rfl⟩
      have HLT : Hid (∀ t, 34 ≠ t → ∀ r ∈ LB, r.2.1 ≠ t) := Lib.hid (by rw [hLB]; exact fun t ht => twoT ht)
      have HXC : Hid (∀ y m, Pk2 w y LB g2 s' g s' m → y.cell? ⟨bx, 1, none⟩ = some (.slice A4 r2.length c4) ∧ y.cell? ⟨bx, 2, none⟩ = some (.slice B4 r3.length e4) ∧ bx < y.heap.size) := Lib.hid (by
        rw [hLB]
        intro y m h
        have kx := h.st.knows.at 1 rfl
        exact ⟨kx.cell 1, kx.cell 2, kx.lt⟩)
      rw [← hLB] at HP8
      clear hLB
      obtain ⟨x1, x2, xz⟩ := HXC.out _ _ HP8.out
      go_wp2_with fail
      go_loopw [10] (fun kk wr => ∃ k : Nat, k ≤ r2.length ∧ kk = .int .i64 (k : Int) ∧ Pk2 w wr LB g2 s' g s' (2 * n + 1 + 1) ∧ KN w wr 3 1 A4 r2.length ∧ KN w wr 56 2 B4 r3.length) (fun kk _ => r2.length - (intOf kk).toNat)
      case atStart => exact ⟨0, by omega, rfl, HP8.out, HK1.out, HK2.out⟩
      case round =>
        obtain ⟨k, hk, rfl, hp, hk1, hk2⟩ := hrel
        have HP9 := Lib.hid hp
        have HK3 := Lib.hid hk1
        have HK4 := Lib.hid hk2
        clear hp hk1 hk2 HP8 HK1 HK2 x1 x2 xz
        obtain ⟨x1, x2, xz⟩ := HXC.out _ _ HP9.out
        by_cases hlt : k < r2.length
        · obtain ⟨q, cs, rfl, hq, hwh, hsz⟩ := HK3.out.at (by omega)
          obtain ⟨⟨u0, k0⟩, f0, z0⟩ := whole_at hwh (i := k) (by omega)
          have i3 : (k : Int) < (r2.length : Int) := by omega
          go_wp2_with fail
          go_roundw
          case rel => exact ⟨k + 1, by omega, by go_num, HP9.out.setK hwh (by decide) (HLT.out _ (by decide)) hq _ _, HK3.out.set _ _ _, HK4.out.set _ _ _⟩
          case measure => simp [intOf]; omega
        · obtain rfl : k = r2.length := by omega
          have i3 : ¬ (r2.length : Int) < (r2.length : Int) := by omega
          clear HK3
          go_wp2_with fail
          go_loopw [11] (fun kk wr => ∃ k : Nat, k ≤ r3.length ∧ kk = .int .i64 (k : Int) ∧ Pk2 w wr LB g2 s' g s' (2 * n + 1 + 1) ∧ KN w wr 56 2 B4 r3.length) (fun kk _ => r3.length - (intOf kk).toNat)
          case atStart => exact ⟨0, by omega, rfl, HP9.out, HK4.out⟩
          case round =>
            obtain ⟨k, hk, rfl, hp, hk1⟩ := hrel
            have HPa := Lib.hid hp
            have HK5 := Lib.hid hk1
            clear hp hk1 HP9 HK4 x1 x2 xz
            obtain ⟨x1, x2, xz⟩ := HXC.out _ _ HPa.out
            by_cases hlt : k < r3.length
            · obtain ⟨q, cs, rfl, hq, hwh, hsz⟩ := HK5.out.at (by omega)
              obtain ⟨⟨u0, k0⟩, f0, z0⟩ := whole_at hwh (i := k * 2) (by omega)
              obtain ⟨⟨u1, k1⟩, f1, -⟩ := whole_at hwh (i := k * 2 + 1) (by omega)
              have i3 : (k : Int) < (r3.length : Int) := by omega
              go_wp2_with fail
              go_roundw
              case rel => exact ⟨k + 1, by omega, by go_num, (HPa.out.setK hwh (by decide) (HLT.out _ (by decide)) hq _ _).setK (hwh.set _ _) (by decide) (HLT.out _ (by decide)) hq _ _, (HK5.out.set _ _ _).set _ _ _⟩
              case measure => simp [intOf]; omega
            · obtain rfl : k = r3.length := by omega
              have i4 : ¬ (r3.length : Int) < (r3.length : Int) := by omega
              have HPb := Lib.hid (HPa.out.keep (L' := []) (fun r hr => by cases hr)).swap
              have HC5 : Hid (∀ y, Below wr.heap.size wr y → y.cell? ⟨b0, off + n * 4 + 2, none⟩ = some (.int .i64 o3)) := Lib.hid fun y hy => (HCE.out y (HPb.out.st.below.trans (hy.mono HPb.out.st.below.size))).2.2.1
              have HH := Lib.hid (fun (y : World) (h : Pk2 w y [] g s' g2 s' (2 * n + 1 + 1)) => k2holds o3 hkey h (by omega))
              have HWT := Lib.hid (fun (y : World) (h : Pk2 w y [] g s' g2 s' (2 * n + 1 + 1)) => k2waits o3 hkey h (by omega))
              have HHu := Lib.hid (fun (y : World) (h : Pk2 w y [] g s' g2 s' (2 * n + 1 + 1)) => k2holds o3 hkey h.swap (by omega))
              have HWu := Lib.hid (fun (y : World) (h : Pk2 w y [] g s' g2 s' (2 * n + 1 + 1)) => k2waits o3 hkey h.swap (by omega))
              have hsl : (supp (s'.h o3)).length ≤ 100 ∧ (supp (s'.w o3)).length ≤ 100 := ⟨Nat.le_trans (mid_fewh HPb.out.fine.1 o3) (Nat.le_trans HPb.out.few.1 (by omega)), Nat.le_trans (mid_feww HPb.out.fine.1 o3) (Nat.le_trans HPb.out.few.1 (by omega))⟩
              generalize fl (s'.h o3) = f1 at *
              generalize fl (s'.w o3) = f2 at *
              generalize supp (s'.h o3) = S1 at *
              generalize supp (s'.w o3) = S2 at *
              obtain ⟨hs1, hs2⟩ := hsl
              have HWR := Lib.hid HPb.out.st.below.size
              clear HK5 HPa
              go_wp2_with fail
              refine Iv.region (fun f aa y => ∃ Ah ch Aw cw, aa = ⟨#[.slice (some ⟨b0, off, none⟩) l.length cap, undef, u2, ptr g, ptr g2, .int .i64 (n : Int), .pointer (some ⟨bx, 0, none⟩), .int .i64 E, .pointer (some ⟨yb, 0, none⟩), .int .i64 E, .int .i64 (r2.length : Int), .int .i64 (r3.length : Int), so (f 14) (.slice Ah S1.length ch) u12, so (f 15) (.slice Aw S2.length cw) u13, u14, u15, ptr g, ptr g2, .bool true, .bool false, .bool false, ptr g, .bool false, .bool false, .bool false, ptr g2, .bool false, .bool false, .int .i64 (n : Int), .slice (some ⟨b0, off, none⟩) l.length cap, .int .i64 (l.length : Int), .bool true, .bool true, .int .i64 (n : Int), .bool true, .bool true, u36, u37, .tuple #[.agg #[.bool r1, .slice A4 r2.length c4, .slice B4 r3.length e4], .int .i64 E], ptr g, .slice (some ⟨b0, off, none⟩) l.length cap, .int .i64 (n : Int), .pointer (some ⟨b0, off + n * 4, none⟩), .agg #[.int .i64 o1, .int .i64 o2, .int .i64 o3, .bool o4], .tuple #[.agg #[.bool r1, .slice A4 r2.length c4, .slice B4 r3.length e4], .int .i64 E], .agg #[.bool r1, .slice A4 r2.length c4, .slice B4 r3.length e4], .int .i64 E, .tuple #[.agg #[.bool r1, .slice A5 r2.length c5, .slice B5 r3.length e5], .int .i64 E], ptr g2, .slice (some ⟨b0, off, none⟩) l.length cap, .int .i64 (n : Int), .pointer (some ⟨b0, off + n * 4, none⟩), .agg #[.int .i64 o1, .int .i64 o2, .int .i64 o3, .bool o4], .tuple #[.agg #[.bool r1, .slice A5 r2.length c5, .slice B5 r3.length e5], .int .i64 E], .agg #[.bool r1, .slice A5 r2.length c5, .slice B5 r3.length e5], .int .i64 E, .int .i64 E, .int .i64 E, .bool false, .bool false, .pointer (some ⟨bx, 0, none⟩), .bool r1, .pointer (some ⟨yb, 0, none⟩), .bool r1, .bool false, .bool false, .bool false, .pointer (some ⟨bx, 1, none⟩), .slice A4 r2.length c4, .pointer (some ⟨yb, 1, none⟩), .slice A5 r2.length c5, .bool true, .bool false, .bool false, .bool false, .pointer (some ⟨bx, 2, none⟩), .slice B4 r3.length e4, .pointer (some ⟨yb, 2, none⟩), .slice B5 r3.length e5, .bool true, .bool false, .bool false, .int .i64 (r2.length : Int), .pointer (some ⟨bx, 1, none⟩), .slice A4 r2.length c4, .int .i64 (r2.length : Int), .bool false, u87, u88, u89, u90, u91, u92, .int .i64 (r3.length : Int), .pointer (some ⟨bx, 2, none⟩), .slice B4 r3.length e4, .int .i64 (r3.length : Int), .bool false, u98, u99, u100, u101, u102, u103, u104, so (f 0) (ptr g) u105, so (f 1) (.slice (some ⟨b0, off, none⟩) l.length cap) u106, so (f 2) (.int .i64 (n : Int)) u107, so (f 3) (.pointer (some ⟨b0, off + n * 4, none⟩)) u108, so (f 4) (.pointer (some ⟨b0, off + n * 4 + 2, none⟩)) u109, so (f 5) (.int .i64 o3) u110, so (f 6) (.slice Ah S1.length ch) u111, so (f 7) (ptr g) u112, so (f 8) (.slice (some ⟨b0, off, none⟩) l.length cap) u113, so (f 9) (.int .i64 (n : Int)) u114, so (f 10) (.pointer (some ⟨b0, off + n * 4, none⟩)) u115, so (f 11) (.pointer (some ⟨b0, off + n * 4 + 2, none⟩)) u116, so (f 12) (.int .i64 o3) u117, so (f 13) (.slice Aw S2.length cw) u118, u119, u120, u121, u122, u123, u124, u125, u126, u127, u128, u129, u130, u131, u132, u133, u134, u135, u136, u137, u138, u139, u140, u141, u142, u143, u144, u145, u146, u147, u148, u149, u150, u151, u152, u153, u154, u155, u156, u157, u158, u159, u160, u161, u162, u163, u164, u165, u166, u167, u168, u169, u170, u171, u172], []⟩ ∧ Below wr.heap.size wr y ∧ (f 6 = true → KN w y 54 2 Ah S1.length) ∧ (f 13 = true → KN w y 54 2 Aw S2.length) ∧ (f 14 = true → f 6 = true) ∧ (f 15 = true → f 13 = true)) (by kernel_rfl) (by kernel_rfl) ?_ ?_ ?_
              · exact ⟨none, 0, none, 0, rfl, (drew_below wr 1), (fun h => by cases h), (fun h => by cases h), (fun h => by cases h), (fun h => by cases h)⟩
              · refine ⟨?_, ?_, ?_, ?_, ?_, ?_, ?_, ?_, ?_, ?_, ?_, ?_, ?_, ?_, ?_, ?_, trivial⟩
                · rintro f a0 y Q' ⟨Ah, ch, Aw, cw, rfl, hw⟩ hi hd hQ
                  replace hQ := Lib.hid hQ
                  simp [Iv.depsB, Region.binds] at hd
                  try simp only [hi, hd, sl_true, sl_false, so_true, so_false]
                  try simp only [hi, sl_true, sl_false, so_true, so_false]
                  go_wp2_with fail
                  refine hQ.out _ _ ⟨Ah, ch, Aw, cw, ?_, ?_⟩
                  · simp [Iv.upd, hi, hd, sl_true, sl_false, so_true, so_false]
                  · simpa [Iv.upd, hi, hd] using hw
                · rintro f a0 y Q' ⟨Ah, ch, Aw, cw, rfl, hw⟩ hi hd hQ
                  replace hQ := Lib.hid hQ
                  simp [Iv.depsB, Region.binds] at hd
                  try simp only [hi, hd, sl_true, sl_false, so_true, so_false]
                  try simp only [hi, sl_true, sl_false, so_true, so_false]
                  go_wp2_with fail
                  refine hQ.out _ _ ⟨Ah, ch, Aw, cw, ?_, ?_⟩
                  · simp [Iv.upd, hi, hd, sl_true, sl_false, so_true, so_false]
                  · simpa [Iv.upd, hi, hd] using hw
                · rintro f a0 y Q' ⟨Ah, ch, Aw, cw, rfl, hw⟩ hi hd hQ
                  replace hQ := Lib.hid hQ
                  simp [Iv.depsB, Region.binds] at hd
                  try simp only [hi, hd, sl_true, sl_false, so_true, so_false]
                  try simp only [hi, sl_true, sl_false, so_true, so_false]
                  go_wp2_with fail
                  refine hQ.out _ _ ⟨Ah, ch, Aw, cw, ?_, ?_⟩
                  · simp [Iv.upd, hi, hd, sl_true, sl_false, so_true, so_false]
                  · simpa [Iv.upd, hi, hd] using hw
                · rintro f a0 y Q' ⟨Ah, ch, Aw, cw, rfl, hw⟩ hi hd hQ
                  replace hQ := Lib.hid hQ
                  simp [Iv.depsB, Region.binds] at hd
                  try simp only [hi, hd, sl_true, sl_false, so_true, so_false]
                  try simp only [hi, sl_true, sl_false, so_true, so_false]
                  go_wp2_with fail
                  refine hQ.out _ _ ⟨Ah, ch, Aw, cw, ?_, ?_⟩
                  · simp [Iv.upd, hi, hd, sl_true, sl_false, so_true, so_false]
                  · simpa [Iv.upd, hi, hd] using hw
                · rintro f a0 y Q' ⟨Ah, ch, Aw, cw, rfl, hw⟩ hi hd hQ
                  replace hQ := Lib.hid hQ
                  simp [Iv.depsB, Region.binds] at hd
                  try simp only [hi, hd, sl_true, sl_false, so_true, so_false]
                  try simp only [hi, sl_true, sl_false, so_true, so_false]
                  go_wp2_with fail
                  refine hQ.out _ _ ⟨Ah, ch, Aw, cw, ?_, ?_⟩
                  · simp [Iv.upd, hi, hd, sl_true, sl_false, so_true, so_false]
                  · simpa [Iv.upd, hi, hd] using hw
                · rintro f a0 y Q' ⟨Ah, ch, Aw, cw, rfl, hw⟩ hi hd hQ
                  replace hQ := Lib.hid hQ
                  simp [Iv.depsB, Region.binds] at hd
                  try simp only [hi, hd, sl_true, sl_false, so_true, so_false]
                  try simp only [hi, sl_true, sl_false, so_true, so_false]
                  have u2 := HC5.out _ hw.1
                  go_wp2_with fail
                  refine hQ.out _ _ ⟨Ah, ch, Aw, cw, ?_, ?_⟩
                  · simp [Iv.upd, hi, hd, sl_true, sl_false, so_true, so_false]
                  · simpa [Iv.upd, hi, hd] using hw
                · rintro f a0 y Q' ⟨Ah, ch, Aw, cw, rfl, hw⟩ hi hd hQ
                  replace hQ := Lib.hid hQ
                  simp [Iv.depsB, Region.binds] at hd
                  try simp only [hi, hd, sl_true, sl_false, so_true, so_false]
                  try simp only [hi, sl_true, sl_false, so_true, so_false]
                  have e14 : f 14 = false := by
                    cases e : f 14 with
                    | false => rfl
                    | true => have h7 := hw.2.2.2.1 e; rw [hi] at h7; cases h7
                  have HQW := Lib.hid hw
                  clear hw
                  try simp only [e14, so_true, so_false]
                  go_wp2_with fail
                  refine (HH.out y (HPb.out.call HQW.out.1)).mono ?_
                  rintro e y1 ⟨A3, cap3, rfl, hb, ho⟩
                  have HN := Lib.hid (show _ ∧ _ ∧ _ ∧ _ ∧ _ from ⟨HQW.out.1.trans (hb.mono HQW.out.1.size), KN.own (W := w) ho (Nat.le_trans HWR.out HQW.out.1.size), fun e => (HQW.out.2.2.1 e).call hb, HQW.out.2.2.2.1, HQW.out.2.2.2.2⟩)
                  clear hb ho
                  go_wp2_with fail
                  refine hQ.out _ _ ⟨A3, cap3, Aw, cw, ?_, ?_⟩
                  · simp [Iv.upd, hi, hd, sl_true, sl_false, so_true, so_false, e14]
                  · simpa [Iv.upd, hi, hd, e14] using HN.out
                · rintro f a0 y Q' ⟨Ah, ch, Aw, cw, rfl, hw⟩ hi hd hQ
                  replace hQ := Lib.hid hQ
                  simp [Iv.depsB, Region.binds] at hd
                  try simp only [hi, hd, sl_true, sl_false, so_true, so_false]
                  try simp only [hi, sl_true, sl_false, so_true, so_false]
                  go_wp2_with fail
                  refine hQ.out _ _ ⟨Ah, ch, Aw, cw, ?_, ?_⟩
                  · simp [Iv.upd, hi, hd, sl_true, sl_false, so_true, so_false]
                  · simpa [Iv.upd, hi, hd] using hw
                · rintro f a0 y Q' ⟨Ah, ch, Aw, cw, rfl, hw⟩ hi hd hQ
                  replace hQ := Lib.hid hQ
                  simp [Iv.depsB, Region.binds] at hd
                  try simp only [hi, hd, sl_true, sl_false, so_true, so_false]
                  try simp only [hi, sl_true, sl_false, so_true, so_false]
                  go_wp2_with fail
                  refine hQ.out _ _ ⟨Ah, ch, Aw, cw, ?_, ?_⟩
                  · simp [Iv.upd, hi, hd, sl_true, sl_false, so_true, so_false]
                  · simpa [Iv.upd, hi, hd] using hw
                · rintro f a0 y Q' ⟨Ah, ch, Aw, cw, rfl, hw⟩ hi hd hQ
                  replace hQ := Lib.hid hQ
                  simp [Iv.depsB, Region.binds] at hd
                  try simp only [hi, hd, sl_true, sl_false, so_true, so_false]
                  try simp only [hi, sl_true, sl_false, so_true, so_false]
                  go_wp2_with fail
                  refine hQ.out _ _ ⟨Ah, ch, Aw, cw, ?_, ?_⟩
                  · simp [Iv.upd, hi, hd, sl_true, sl_false, so_true, so_false]
                  · simpa [Iv.upd, hi, hd] using hw
                · rintro f a0 y Q' ⟨Ah, ch, Aw, cw, rfl, hw⟩ hi hd hQ
                  replace hQ := Lib.hid hQ
                  simp [Iv.depsB, Region.binds] at hd
                  try simp only [hi, hd, sl_true, sl_false, so_true, so_false]
                  try simp only [hi, sl_true, sl_false, so_true, so_false]
                  go_wp2_with fail
                  refine hQ.out _ _ ⟨Ah, ch, Aw, cw, ?_, ?_⟩
                  · simp [Iv.upd, hi, hd, sl_true, sl_false, so_true, so_false]
                  · simpa [Iv.upd, hi, hd] using hw
                · rintro f a0 y Q' ⟨Ah, ch, Aw, cw, rfl, hw⟩ hi hd hQ
                  replace hQ := Lib.hid hQ
                  simp [Iv.depsB, Region.binds] at hd
                  try simp only [hi, hd, sl_true, sl_false, so_true, so_false]
                  try simp only [hi, sl_true, sl_false, so_true, so_false]
                  go_wp2_with fail
                  refine hQ.out _ _ ⟨Ah, ch, Aw, cw, ?_, ?_⟩
                  · simp [Iv.upd, hi, hd, sl_true, sl_false, so_true, so_false]
                  · simpa [Iv.upd, hi, hd] using hw
                · rintro f a0 y Q' ⟨Ah, ch, Aw, cw, rfl, hw⟩ hi hd hQ
                  replace hQ := Lib.hid hQ
                  simp [Iv.depsB, Region.binds] at hd
                  try simp only [hi, hd, sl_true, sl_false, so_true, so_false]
                  try simp only [hi, sl_true, sl_false, so_true, so_false]
                  have u2 := HC5.out _ hw.1
                  go_wp2_with fail
                  refine hQ.out _ _ ⟨Ah, ch, Aw, cw, ?_, ?_⟩
                  · simp [Iv.upd, hi, hd, sl_true, sl_false, so_true, so_false]
                  · simpa [Iv.upd, hi, hd] using hw
                · rintro f a0 y Q' ⟨Ah, ch, Aw, cw, rfl, hw⟩ hi hd hQ
                  replace hQ := Lib.hid hQ
                  simp [Iv.depsB, Region.binds] at hd
                  try simp only [hi, hd, sl_true, sl_false, so_true, so_false]
                  try simp only [hi, sl_true, sl_false, so_true, so_false]
                  have e15 : f 15 = false := by
                    cases e : f 15 with
                    | false => rfl
                    | true => have h7 := hw.2.2.2.2 e; rw [hi] at h7; cases h7
                  have HQW := Lib.hid hw
                  clear hw
                  try simp only [e15, so_true, so_false]
                  go_wp2_with fail
                  refine (HWT.out y (HPb.out.call HQW.out.1)).mono ?_
                  rintro e y1 ⟨A3, cap3, rfl, hb, ho⟩
                  have HN := Lib.hid (show _ ∧ _ ∧ _ ∧ _ ∧ _ from ⟨HQW.out.1.trans (hb.mono HQW.out.1.size), fun e => (HQW.out.2.1 e).call hb, KN.own (W := w) ho (Nat.le_trans HWR.out HQW.out.1.size), HQW.out.2.2.2.1, HQW.out.2.2.2.2⟩)
                  clear hb ho
                  go_wp2_with fail
                  refine hQ.out _ _ ⟨Ah, ch, A3, cap3, ?_, ?_⟩
                  · simp [Iv.upd, hi, hd, sl_true, sl_false, so_true, so_false, e15]
                  · simpa [Iv.upd, hi, hd, e15] using HN.out
                · rintro f a0 y Q' ⟨Ah, ch, Aw, cw, rfl, hw⟩ hi hd hQ
                  replace hQ := Lib.hid hQ
                  simp [Iv.depsB, Region.binds] at hd
                  try simp only [hi, hd, sl_true, sl_false, so_true, so_false]
                  try simp only [hi, sl_true, sl_false, so_true, so_false]
                  have e6 : f 6 = true := by simp [hd]
                  go_wp2_with fail
                  refine hQ.out _ _ ⟨Ah, ch, Aw, cw, ?_, ?_⟩
                  · simp [Iv.upd, hi, hd, sl_true, sl_false, so_true, so_false, e6]
                  · simpa [Iv.upd, hi, hd, e6] using hw
                · rintro f a0 y Q' ⟨Ah, ch, Aw, cw, rfl, hw⟩ hi hd hQ
                  replace hQ := Lib.hid hQ
                  simp [Iv.depsB, Region.binds] at hd
                  try simp only [hi, hd, sl_true, sl_false, so_true, so_false]
                  try simp only [hi, sl_true, sl_false, so_true, so_false]
                  have e13 : f 13 = true := by simp [hd]
                  go_wp2_with fail
                  refine hQ.out _ _ ⟨Ah, ch, Aw, cw, ?_, ?_⟩
                  · simp [Iv.upd, hi, hd, sl_true, sl_false, so_true, so_false, e13]
                  · simpa [Iv.upd, hi, hd, e13] using hw
              · rintro f a0 w9 ⟨Ah, ch, Aw, cw, rfl, hw⟩ hall
                simp only [hall 0 (by decide), hall 1 (by decide), hall 2 (by decide), hall 3 (by decide), hall 4 (by decide), hall 5 (by decide), hall 6 (by decide), hall 7 (by decide), hall 8 (by decide), hall 9 (by decide), hall 10 (by decide), hall 11 (by decide), hall 12 (by decide), hall 13 (by decide), hall 14 (by decide), hall 15 (by decide), sl_true, ↓reduceIte, so_true, so_false] at hw ⊢
                clear hall
                have HP9 := Lib.hid (HPb.out.call hw.1)
                have HK1 := Lib.hid (hw.2.1 trivial)
                have HK2 := Lib.hid (hw.2.2.1 trivial)
                clear hw HPb HC5 HWR
                go_wp2_with fail
                go_loopw [14] (fun kk wr => ∃ k : Nat, k ≤ S1.length ∧ kk = .int .i64 (k : Int) ∧ Pk2 w wr [] g s' g2 s' (2 * n + 1 + 1) ∧ KN w wr 54 2 Ah S1.length ∧ KN w wr 54 2 Aw S2.length) (fun kk _ => S1.length - (intOf kk).toNat)
                case atStart => exact ⟨0, by omega, rfl, HP9.out, HK1.out, HK2.out⟩
                case round =>
                  obtain ⟨k, hk, rfl, hp, hk1, hk2⟩ := hrel
                  have HP9n := Lib.hid hp
                  have HKa := Lib.hid hk1
                  have HKb := Lib.hid hk2
                  clear hp hk1 hk2 HP9 HK1 HK2
                  by_cases hlt : k < S1.length
                  · obtain ⟨q, cs, rfl, hq, hwh, hsz⟩ := HKa.out.at (by omega)
                    obtain ⟨⟨u0, k0⟩, f0, z0⟩ := whole_at hwh (i := k * 2) (by omega)
                    obtain ⟨⟨u1, k1⟩, f1', -⟩ := whole_at hwh (i := k * 2 + 1) (by omega)
                    have i3 : (k : Int) < (S1.length : Int) := by omega
                    go_wp2_with fail
                    go_roundw
                    case rel => exact ⟨k + 1, by omega, by go_num, (HP9n.out.setK hwh (by decide) (fun r hr => by cases hr) hq _ _).setK (hwh.set _ _) (by decide) (fun r hr => by cases hr) hq _ _, (HKa.out.set _ _ _).set _ _ _, (HKb.out.set _ _ _).set _ _ _⟩
                    case measure => simp [intOf]; omega
                  · obtain rfl : k = S1.length := by omega
                    have i5 : ¬ (S1.length : Int) < (S1.length : Int) := by omega
                    have HP9 := Lib.hid HP9n.out
                    have HK1 := Lib.hid HKb.out
                    clear HKa HP9n HKb
                    go_wp2_with fail
                    go_loopw [15] (fun kk wr => ∃ k : Nat, k ≤ S2.length ∧ kk = .int .i64 (k : Int) ∧ Pk2 w wr [] g s' g2 s' (2 * n + 1 + 1) ∧ KN w wr 54 2 Aw S2.length) (fun kk _ => S2.length - (intOf kk).toNat)
                    case atStart => exact ⟨0, by omega, rfl, HP9.out, HK1.out⟩
                    case round =>
                      obtain ⟨k, hk, rfl, hp, hk1⟩ := hrel
                      have HP9n := Lib.hid hp
                      have HKa := Lib.hid hk1
                      clear hp hk1 HP9 HK1
                      by_cases hlt : k < S2.length
                      · obtain ⟨q, cs, rfl, hq, hwh, hsz⟩ := HKa.out.at (by omega)
                        obtain ⟨⟨u0, k0⟩, f0, z0⟩ := whole_at hwh (i := k * 2) (by omega)
                        obtain ⟨⟨u1, k1⟩, f1', -⟩ := whole_at hwh (i := k * 2 + 1) (by omega)
                        have i3 : (k : Int) < (S2.length : Int) := by omega
                        go_wp2_with fail
                        go_roundw
                        case rel => exact ⟨k + 1, by omega, by go_num, (HP9n.out.setK hwh (by decide) (fun r hr => by cases hr) hq _ _).setK (hwh.set _ _) (by decide) (fun r hr => by cases hr) hq _ _, (HKa.out.set _ _ _).set _ _ _⟩
                        case measure => simp [intOf]; omega
                      · obtain rfl : k = S2.length := by omega
                        have i6 : ¬ (S2.length : Int) < (S2.length : Int) := by omega
                        have HP9 := Lib.hid HP9n.out
                        clear HKa HP9n
                        have HC5 : Hid (∀ y, Below wr.heap.size wr y → y.cell? ⟨b0, off + n * 4 + 2, none⟩ = some (.int .i64 o3)) := Lib.hid fun y hy => (HCE.out y (HP9.out.st.below.trans (hy.mono HP9.out.st.below.size))).2.2.1
                        go_wp2_with fail
                        refine Iv.region (fun f aa y => ∃ Aa ca Ab cb Ac cc Ad cd, aa = ⟨#[.slice (some ⟨b0, off, none⟩) l.length cap, undef, u2, ptr g, ptr g2, .int .i64 (n : Int), .pointer (some ⟨bx, 0, none⟩), .int .i64 E, .pointer (some ⟨yb, 0, none⟩), .int .i64 E, .int .i64 (r2.length : Int), .int .i64 (r3.length : Int), .slice Ah S1.length ch, .slice Aw S2.length cw, .int .i64 (S1.length : Int), .int .i64 (S2.length : Int), ptr g, ptr g2, .bool true, .bool false, .bool false, ptr g, .bool false, .bool false, .bool false, ptr g2, .bool false, .bool false, .int .i64 (n : Int), .slice (some ⟨b0, off, none⟩) l.length cap, .int .i64 (l.length : Int), .bool true, .bool true, .int .i64 (n : Int), .bool true, .bool true, u36, u37, .tuple #[.agg #[.bool r1, .slice A4 r2.length c4, .slice B4 r3.length e4], .int .i64 E], ptr g, .slice (some ⟨b0, off, none⟩) l.length cap, .int .i64 (n : Int), .pointer (some ⟨b0, off + n * 4, none⟩), .agg #[.int .i64 o1, .int .i64 o2, .int .i64 o3, .bool o4], .tuple #[.agg #[.bool r1, .slice A4 r2.length c4, .slice B4 r3.length e4], .int .i64 E], .agg #[.bool r1, .slice A4 r2.length c4, .slice B4 r3.length e4], .int .i64 E, .tuple #[.agg #[.bool r1, .slice A5 r2.length c5, .slice B5 r3.length e5], .int .i64 E], ptr g2, .slice (some ⟨b0, off, none⟩) l.length cap, .int .i64 (n : Int), .pointer (some ⟨b0, off + n * 4, none⟩), .agg #[.int .i64 o1, .int .i64 o2, .int .i64 o3, .bool o4], .tuple #[.agg #[.bool r1, .slice A5 r2.length c5, .slice B5 r3.length e5], .int .i64 E], .agg #[.bool r1, .slice A5 r2.length c5, .slice B5 r3.length e5], .int .i64 E, .int .i64 E, .int .i64 E, .bool false, .bool false, .pointer (some ⟨bx, 0, none⟩), .bool r1, .pointer (some ⟨yb, 0, none⟩), .bool r1, .bool false, .bool false, .bool false, .pointer (some ⟨bx, 1, none⟩), .slice A4 r2.length c4, .pointer (some ⟨yb, 1, none⟩), .slice A5 r2.length c5, .bool true, .bool false, .bool false, .bool false, .pointer (some ⟨bx, 2, none⟩), .slice B4 r3.length e4, .pointer (some ⟨yb, 2, none⟩), .slice B5 r3.length e5, .bool true, .bool false, .bool false, .int .i64 (r2.length : Int), .pointer (some ⟨bx, 1, none⟩), .slice A4 r2.length c4, .int .i64 (r2.length : Int), .bool false, u87, u88, u89, u90, u91, u92, .int .i64 (r3.length : Int), .pointer (some ⟨bx, 2, none⟩), .slice B4 r3.length e4, .int .i64 (r3.length : Int), .bool false, u98, u99, u100, u101, u102, u103, u104, ptr g, .slice (some ⟨b0, off, none⟩) l.length cap, .int .i64 (n : Int), .pointer (some ⟨b0, off + n * 4, none⟩), .pointer (some ⟨b0, off + n * 4 + 2, none⟩), .int .i64 o3, .slice Ah S1.length ch, ptr g, .slice (some ⟨b0, off, none⟩) l.length cap, .int .i64 (n : Int), .pointer (some ⟨b0, off + n * 4, none⟩), .pointer (some ⟨b0, off + n * 4 + 2, none⟩), .int .i64 o3, .slice Aw S2.length cw, .int .i64 (S1.length : Int), .slice Ah S1.length ch, .int .i64 (S1.length : Int), .bool false, u123, u124, u125, u126, u127, u128, .int .i64 (S2.length : Int), .slice Aw S2.length cw, .int .i64 (S2.length : Int), .bool false, u133, u134, u135, u136, u137, u138, so (f 0) (ptr g) u139, so (f 1) (.slice (some ⟨b0, off, none⟩) l.length cap) u140, so (f 2) (.int .i64 (n : Int)) u141, so (f 3) (.pointer (some ⟨b0, off + n * 4, none⟩)) u142, so (f 4) (.pointer (some ⟨b0, off + n * 4 + 2, none⟩)) u143, so (f 5) (.int .i64 o3) u144, so (f 6) (.slice Aa S1.length ca) u145, so (f 7) (ptr g2) u146, so (f 8) (.slice (some ⟨b0, off, none⟩) l.length cap) u147, so (f 9) (.int .i64 (n : Int)) u148, so (f 10) (.pointer (some ⟨b0, off + n * 4, none⟩)) u149, so (f 11) (.pointer (some ⟨b0, off + n * 4 + 2, none⟩)) u150, so (f 12) (.int .i64 o3) u151, so (f 13) (.slice Ab S1.length cb) u152, so (f 14) (.bool true) u153, so (f 15) (.bool false) u154, so (f 16) (.bool false) u155, so (f 17) (ptr g) u156, so (f 18) (.slice (some ⟨b0, off, none⟩) l.length cap) u157, so (f 19) (.int .i64 (n : Int)) u158, so (f 20) (.pointer (some ⟨b0, off + n * 4, none⟩)) u159, so (f 21) (.pointer (some ⟨b0, off + n * 4 + 2, none⟩)) u160, so (f 22) (.int .i64 o3) u161, so (f 23) (.slice Ac S2.length cc) u162, so (f 24) (ptr g2) u163, so (f 25) (.slice (some ⟨b0, off, none⟩) l.length cap) u164, so (f 26) (.int .i64 (n : Int)) u165, so (f 27) (.pointer (some ⟨b0, off + n * 4, none⟩)) u166, so (f 28) (.pointer (some ⟨b0, off + n * 4 + 2, none⟩)) u167, so (f 29) (.int .i64 o3) u168, so (f 30) (.slice Ad S2.length cd) u169, so (f 31) (.bool true) u170, so (f 32) (.bool false) u171, so (f 33) (.bool false) u172], []⟩ ∧ H4 wr y S1 S2 f1 f2 Aa ca Ab cb Ac cc Ad cd (f 6) (f 13) (f 23) (f 30)) (by kernel_rfl) (by kernel_rfl) ?_ ?_ ?_
                        · exact ⟨none, 0, none, 0, none, 0, none, 0, rfl, H4.start wr (drew_below wr 1)⟩
                        · refine ⟨?_, ?_, ?_, ?_, ?_, ?_, ?_, ?_, ?_, ?_, ?_, ?_, ?_, ?_, ?_, ?_, ?_, ?_, ?_, ?_, ?_, ?_, ?_, ?_, ?_, ?_, ?_, ?_, ?_, ?_, ?_, ?_, ?_, ?_, trivial⟩
                          · rintro f a0 y Q' ⟨Aa, ca, Ab, cb, Ac, cc, Ad, cd, rfl, hw⟩ hi hd hQ
                            replace hQ := Lib.hid hQ
                            simp [Iv.depsB, Region.binds] at hd
                            try simp only [hi, hd, sl_true, sl_false, so_true, so_false]
                            try simp only [hi, sl_true, sl_false, so_true, so_false]
                            go_wp2_with fail
                            refine hQ.out _ _ ⟨Aa, ca, Ab, cb, Ac, cc, Ad, cd, ?_, ?_⟩
                            · simp [Iv.upd, hi, hd, sl_true, sl_false, so_true, so_false]
                            · simpa [Iv.upd, hi, hd] using hw
                          · rintro f a0 y Q' ⟨Aa, ca, Ab, cb, Ac, cc, Ad, cd, rfl, hw⟩ hi hd hQ
                            replace hQ := Lib.hid hQ
                            simp [Iv.depsB, Region.binds] at hd
                            try simp only [hi, hd, sl_true, sl_false, so_true, so_false]
                            try simp only [hi, sl_true, sl_false, so_true, so_false]
                            go_wp2_with fail
                            refine hQ.out _ _ ⟨Aa, ca, Ab, cb, Ac, cc, Ad, cd, ?_, ?_⟩
                            · simp [Iv.upd, hi, hd, sl_true, sl_false, so_true, so_false]
                            · simpa [Iv.upd, hi, hd] using hw
                          · rintro f a0 y Q' ⟨Aa, ca, Ab, cb, Ac, cc, Ad, cd, rfl, hw⟩ hi hd hQ
                            replace hQ := Lib.hid hQ
                            simp [Iv.depsB, Region.binds] at hd
                            try simp only [hi, hd, sl_true, sl_false, so_true, so_false]
                            try simp only [hi, sl_true, sl_false, so_true, so_false]
                            go_wp2_with fail
                            refine hQ.out _ _ ⟨Aa, ca, Ab, cb, Ac, cc, Ad, cd, ?_, ?_⟩
                            · simp [Iv.upd, hi, hd, sl_true, sl_false, so_true, so_false]
                            · simpa [Iv.upd, hi, hd] using hw
                          · rintro f a0 y Q' ⟨Aa, ca, Ab, cb, Ac, cc, Ad, cd, rfl, hw⟩ hi hd hQ
                            replace hQ := Lib.hid hQ
                            simp [Iv.depsB, Region.binds] at hd
                            try simp only [hi, hd, sl_true, sl_false, so_true, so_false]
                            try simp only [hi, sl_true, sl_false, so_true, so_false]
                            go_wp2_with fail
                            refine hQ.out _ _ ⟨Aa, ca, Ab, cb, Ac, cc, Ad, cd, ?_, ?_⟩
                            · simp [Iv.upd, hi, hd, sl_true, sl_false, so_true, so_false]
                            · simpa [Iv.upd, hi, hd] using hw
                          · rintro f a0 y Q' ⟨Aa, ca, Ab, cb, Ac, cc, Ad, cd, rfl, hw⟩ hi hd hQ
                            replace hQ := Lib.hid hQ
                            simp [Iv.depsB, Region.binds] at hd
                            try simp only [hi, hd, sl_true, sl_false, so_true, so_false]
                            try simp only [hi, sl_true, sl_false, so_true, so_false]
                            go_wp2_with fail
                            refine hQ.out _ _ ⟨Aa, ca, Ab, cb, Ac, cc, Ad, cd, ?_, ?_⟩
                            · simp [Iv.upd, hi, hd, sl_true, sl_false, so_true, so_false]
                            · simpa [Iv.upd, hi, hd] using hw
                          · rintro f a0 y Q' ⟨Aa, ca, Ab, cb, Ac, cc, Ad, cd, rfl, hw⟩ hi hd hQ
                            replace hQ := Lib.hid hQ
                            simp [Iv.depsB, Region.binds] at hd
                            try simp only [hi, hd, sl_true, sl_false, so_true, so_false]
                            try simp only [hi, sl_true, sl_false, so_true, so_false]
                            have u2 := HC5.out _ hw.bel
                            go_wp2_with fail
                            refine hQ.out _ _ ⟨Aa, ca, Ab, cb, Ac, cc, Ad, cd, ?_, ?_⟩
                            · simp [Iv.upd, hi, hd, sl_true, sl_false, so_true, so_false]
                            · simpa [Iv.upd, hi, hd] using hw
                          · rintro f a0 y Q' ⟨Aa, ca, Ab, cb, Ac, cc, Ad, cd, rfl, hw⟩ hi hd hQ
                            replace hQ := Lib.hid hQ
                            simp [Iv.depsB, Region.binds] at hd
                            try simp only [hi, hd, sl_true, sl_false, so_true, so_false]
                            try simp only [hi, sl_true, sl_false, so_true, so_false]
                            have HQW := Lib.hid hw
                            rw [hi] at HQW
                            clear hw
                            go_wp2_with fail
                            refine (HH.out y (HP9.out.call HQW.out.bel)).mono ?_
                            rintro e y1 ⟨A3, cap3, rfl, hb, ho⟩
                            have HN := Lib.hid (HQW.out.row1 hb (Sees.own ho) (own_room ho))
                            clear hb ho
                            go_wp2_with fail
                            refine hQ.out _ _ ⟨A3, cap3, Ab, cb, Ac, cc, Ad, cd, ?_, ?_⟩
                            · simp [Iv.upd, hi, hd, sl_true, sl_false, so_true, so_false]
                            · simpa [Iv.upd, hi, hd] using HN.out
                          · rintro f a0 y Q' ⟨Aa, ca, Ab, cb, Ac, cc, Ad, cd, rfl, hw⟩ hi hd hQ
                            replace hQ := Lib.hid hQ
                            simp [Iv.depsB, Region.binds] at hd
                            try simp only [hi, hd, sl_true, sl_false, so_true, so_false]
                            try simp only [hi, sl_true, sl_false, so_true, so_false]
                            go_wp2_with fail
                            refine hQ.out _ _ ⟨Aa, ca, Ab, cb, Ac, cc, Ad, cd, ?_, ?_⟩
                            · simp [Iv.upd, hi, hd, sl_true, sl_false, so_true, so_false]
                            · simpa [Iv.upd, hi, hd] using hw
                          · rintro f a0 y Q' ⟨Aa, ca, Ab, cb, Ac, cc, Ad, cd, rfl, hw⟩ hi hd hQ
                            replace hQ := Lib.hid hQ
                            simp [Iv.depsB, Region.binds] at hd
                            try simp only [hi, hd, sl_true, sl_false, so_true, so_false]
                            try simp only [hi, sl_true, sl_false, so_true, so_false]
                            go_wp2_with fail
                            refine hQ.out _ _ ⟨Aa, ca, Ab, cb, Ac, cc, Ad, cd, ?_, ?_⟩
                            · simp [Iv.upd, hi, hd, sl_true, sl_false, so_true, so_false]
                            · simpa [Iv.upd, hi, hd] using hw
                          · rintro f a0 y Q' ⟨Aa, ca, Ab, cb, Ac, cc, Ad, cd, rfl, hw⟩ hi hd hQ
                            replace hQ := Lib.hid hQ
                            simp [Iv.depsB, Region.binds] at hd
                            try simp only [hi, hd, sl_true, sl_false, so_true, so_false]
                            try simp only [hi, sl_true, sl_false, so_true, so_false]
                            go_wp2_with fail
                            refine hQ.out _ _ ⟨Aa, ca, Ab, cb, Ac, cc, Ad, cd, ?_, ?_⟩
                            · simp [Iv.upd, hi, hd, sl_true, sl_false, so_true, so_false]
                            · simpa [Iv.upd, hi, hd] using hw
                          · rintro f a0 y Q' ⟨Aa, ca, Ab, cb, Ac, cc, Ad, cd, rfl, hw⟩ hi hd hQ
                            replace hQ := Lib.hid hQ
                            simp [Iv.depsB, Region.binds] at hd
                            try simp only [hi, hd, sl_true, sl_false, so_true, so_false]
                            try simp only [hi, sl_true, sl_false, so_true, so_false]
                            go_wp2_with fail
                            refine hQ.out _ _ ⟨Aa, ca, Ab, cb, Ac, cc, Ad, cd, ?_, ?_⟩
                            · simp [Iv.upd, hi, hd, sl_true, sl_false, so_true, so_false]
                            · simpa [Iv.upd, hi, hd] using hw
                          · rintro f a0 y Q' ⟨Aa, ca, Ab, cb, Ac, cc, Ad, cd, rfl, hw⟩ hi hd hQ
                            replace hQ := Lib.hid hQ
                            simp [Iv.depsB, Region.binds] at hd
                            try simp only [hi, hd, sl_true, sl_false, so_true, so_false]
                            try simp only [hi, sl_true, sl_false, so_true, so_false]
                            go_wp2_with fail
                            refine hQ.out _ _ ⟨Aa, ca, Ab, cb, Ac, cc, Ad, cd, ?_, ?_⟩
                            · simp [Iv.upd, hi, hd, sl_true, sl_false, so_true, so_false]
                            · simpa [Iv.upd, hi, hd] using hw
                          · rintro f a0 y Q' ⟨Aa, ca, Ab, cb, Ac, cc, Ad, cd, rfl, hw⟩ hi hd hQ
                            replace hQ := Lib.hid hQ
                            simp [Iv.depsB, Region.binds] at hd
                            try simp only [hi, hd, sl_true, sl_false, so_true, so_false]
                            try simp only [hi, sl_true, sl_false, so_true, so_false]
                            have u2 := HC5.out _ hw.bel
                            go_wp2_with fail
                            refine hQ.out _ _ ⟨Aa, ca, Ab, cb, Ac, cc, Ad, cd, ?_, ?_⟩
                            · simp [Iv.upd, hi, hd, sl_true, sl_false, so_true, so_false]
                            · simpa [Iv.upd, hi, hd] using hw
                          · rintro f a0 y Q' ⟨Aa, ca, Ab, cb, Ac, cc, Ad, cd, rfl, hw⟩ hi hd hQ
                            replace hQ := Lib.hid hQ
                            simp [Iv.depsB, Region.binds] at hd
                            try simp only [hi, hd, sl_true, sl_false, so_true, so_false]
                            try simp only [hi, sl_true, sl_false, so_true, so_false]
                            have HQW := Lib.hid hw
                            rw [hi] at HQW
                            clear hw
                            go_wp2_with fail
                            refine (HHu.out y (HP9.out.call HQW.out.bel)).mono ?_
                            rintro e y1 ⟨A3, cap3, rfl, hb, ho⟩
                            have HN := Lib.hid (HQW.out.row2 hb (Sees.own ho) (own_room ho))
                            clear hb ho
                            go_wp2_with fail
                            refine hQ.out _ _ ⟨Aa, ca, A3, cap3, Ac, cc, Ad, cd, ?_, ?_⟩
                            · simp [Iv.upd, hi, hd, sl_true, sl_false, so_true, so_false]
                            · simpa [Iv.upd, hi, hd] using HN.out
                          · rintro f a0 y Q' ⟨Aa, ca, Ab, cb, Ac, cc, Ad, cd, rfl, hw⟩ hi hd hQ
                            replace hQ := Lib.hid hQ
                            simp [Iv.depsB, Region.binds] at hd
                            try simp only [hi, hd, sl_true, sl_false, so_true, so_false]
                            try simp only [hi, sl_true, sl_false, so_true, so_false]
                            have e6 : f 6 = true := by simp [hd]
                            have e13 : f 13 = true := by simp [hd]
                            have HQW := Lib.hid hw
                            clear hw
                            try simp only [e6, e13, so_true, so_false]
                            go_wp2_with fail
                            refine (rholds_any Aa ca Ab cb f1 S1 y (HQW.out.h1 e6).1 (HQW.out.h2 e13).1 (HQW.out.h1 e6).2 (HQW.out.h2 e13).2 (by omega)).mono ?_
                            rintro e y1 ⟨rfl, hb⟩
                            have HN := Lib.hid (HQW.out.call hb)
                            clear hb
                            go_wp2_with fail
                            refine hQ.out _ _ ⟨Aa, ca, Ab, cb, Ac, cc, Ad, cd, ?_, ?_⟩
                            · simp [Iv.upd, hi, hd, sl_true, sl_false, so_true, so_false, e6, e13]
                            · simpa [Iv.upd, hi, hd, e6, e13] using HN.out
                          · rintro f a0 y Q' ⟨Aa, ca, Ab, cb, Ac, cc, Ad, cd, rfl, hw⟩ hi hd hQ
                            replace hQ := Lib.hid hQ
                            simp [Iv.depsB, Region.binds] at hd
                            try simp only [hi, hd, sl_true, sl_false, so_true, so_false]
                            try simp only [hi, sl_true, sl_false, so_true, so_false]
                            go_wp2_with fail
                            refine hQ.out _ _ ⟨Aa, ca, Ab, cb, Ac, cc, Ad, cd, ?_, ?_⟩
                            · simp [Iv.upd, hi, hd, sl_true, sl_false, so_true, so_false]
                            · simpa [Iv.upd, hi, hd] using hw
                          · rintro f a0 y Q' ⟨Aa, ca, Ab, cb, Ac, cc, Ad, cd, rfl, hw⟩ hi hd hQ
                            replace hQ := Lib.hid hQ
                            simp [Iv.depsB, Region.binds] at hd
                            try simp only [hi, hd, sl_true, sl_false, so_true, so_false]
                            try simp only [hi, sl_true, sl_false, so_true, so_false]
                            go_wp2_with fail
                            refine hQ.out _ _ ⟨Aa, ca, Ab, cb, Ac, cc, Ad, cd, ?_, ?_⟩
                            · simp [Iv.upd, hi, hd, sl_true, sl_false, so_true, so_false]
                            · simpa [Iv.upd, hi, hd] using hw
                          · rintro f a0 y Q' ⟨Aa, ca, Ab, cb, Ac, cc, Ad, cd, rfl, hw⟩ hi hd hQ
                            replace hQ := Lib.hid hQ
                            simp [Iv.depsB, Region.binds] at hd
                            try simp only [hi, hd, sl_true, sl_false, so_true, so_false]
                            try simp only [hi, sl_true, sl_false, so_true, so_false]
                            go_wp2_with fail
                            refine hQ.out _ _ ⟨Aa, ca, Ab, cb, Ac, cc, Ad, cd, ?_, ?_⟩
                            · simp [Iv.upd, hi, hd, sl_true, sl_false, so_true, so_false]
                            · simpa [Iv.upd, hi, hd] using hw
                          · rintro f a0 y Q' ⟨Aa, ca, Ab, cb, Ac, cc, Ad, cd, rfl, hw⟩ hi hd hQ
                            replace hQ := Lib.hid hQ
                            simp [Iv.depsB, Region.binds] at hd
                            try simp only [hi, hd, sl_true, sl_false, so_true, so_false]
                            try simp only [hi, sl_true, sl_false, so_true, so_false]
                            go_wp2_with fail
                            refine hQ.out _ _ ⟨Aa, ca, Ab, cb, Ac, cc, Ad, cd, ?_, ?_⟩
                            · simp [Iv.upd, hi, hd, sl_true, sl_false, so_true, so_false]
                            · simpa [Iv.upd, hi, hd] using hw
                          · rintro f a0 y Q' ⟨Aa, ca, Ab, cb, Ac, cc, Ad, cd, rfl, hw⟩ hi hd hQ
                            replace hQ := Lib.hid hQ
                            simp [Iv.depsB, Region.binds] at hd
                            try simp only [hi, hd, sl_true, sl_false, so_true, so_false]
                            try simp only [hi, sl_true, sl_false, so_true, so_false]
                            go_wp2_with fail
                            refine hQ.out _ _ ⟨Aa, ca, Ab, cb, Ac, cc, Ad, cd, ?_, ?_⟩
                            · simp [Iv.upd, hi, hd, sl_true, sl_false, so_true, so_false]
                            · simpa [Iv.upd, hi, hd] using hw
                          · rintro f a0 y Q' ⟨Aa, ca, Ab, cb, Ac, cc, Ad, cd, rfl, hw⟩ hi hd hQ
                            replace hQ := Lib.hid hQ
                            simp [Iv.depsB, Region.binds] at hd
                            try simp only [hi, hd, sl_true, sl_false, so_true, so_false]
                            try simp only [hi, sl_true, sl_false, so_true, so_false]
                            go_wp2_with fail
                            refine hQ.out _ _ ⟨Aa, ca, Ab, cb, Ac, cc, Ad, cd, ?_, ?_⟩
                            · simp [Iv.upd, hi, hd, sl_true, sl_false, so_true, so_false]
                            · simpa [Iv.upd, hi, hd] using hw
                          · rintro f a0 y Q' ⟨Aa, ca, Ab, cb, Ac, cc, Ad, cd, rfl, hw⟩ hi hd hQ
                            replace hQ := Lib.hid hQ
                            simp [Iv.depsB, Region.binds] at hd
                            try simp only [hi, hd, sl_true, sl_false, so_true, so_false]
                            try simp only [hi, sl_true, sl_false, so_true, so_false]
                            go_wp2_with fail
                            refine hQ.out _ _ ⟨Aa, ca, Ab, cb, Ac, cc, Ad, cd, ?_, ?_⟩
                            · simp [Iv.upd, hi, hd, sl_true, sl_false, so_true, so_false]
                            · simpa [Iv.upd, hi, hd] using hw
                          · rintro f a0 y Q' ⟨Aa, ca, Ab, cb, Ac, cc, Ad, cd, rfl, hw⟩ hi hd hQ
                            replace hQ := Lib.hid hQ
                            simp [Iv.depsB, Region.binds] at hd
                            try simp only [hi, hd, sl_true, sl_false, so_true, so_false]
                            try simp only [hi, sl_true, sl_false, so_true, so_false]
                            have u2 := HC5.out _ hw.bel
                            go_wp2_with fail
                            refine hQ.out _ _ ⟨Aa, ca, Ab, cb, Ac, cc, Ad, cd, ?_, ?_⟩
                            · simp [Iv.upd, hi, hd, sl_true, sl_false, so_true, so_false]
                            · simpa [Iv.upd, hi, hd] using hw
                          · rintro f a0 y Q' ⟨Aa, ca, Ab, cb, Ac, cc, Ad, cd, rfl, hw⟩ hi hd hQ
                            replace hQ := Lib.hid hQ
                            simp [Iv.depsB, Region.binds] at hd
                            try simp only [hi, hd, sl_true, sl_false, so_true, so_false]
                            try simp only [hi, sl_true, sl_false, so_true, so_false]
                            have HQW := Lib.hid hw
                            rw [hi] at HQW
                            clear hw
                            go_wp2_with fail
                            refine (HWT.out y (HP9.out.call HQW.out.bel)).mono ?_
                            rintro e y1 ⟨A3, cap3, rfl, hb, ho⟩
                            have HN := Lib.hid (HQW.out.row3 hb (Sees.own ho) (own_room ho))
                            clear hb ho
                            go_wp2_with fail
                            refine hQ.out _ _ ⟨Aa, ca, Ab, cb, A3, cap3, Ad, cd, ?_, ?_⟩
                            · simp [Iv.upd, hi, hd, sl_true, sl_false, so_true, so_false]
                            · simpa [Iv.upd, hi, hd] using HN.out
                          · rintro f a0 y Q' ⟨Aa, ca, Ab, cb, Ac, cc, Ad, cd, rfl, hw⟩ hi hd hQ
                            replace hQ := Lib.hid hQ
                            simp [Iv.depsB, Region.binds] at hd
                            try simp only [hi, hd, sl_true, sl_false, so_true, so_false]
                            try simp only [hi, sl_true, sl_false, so_true, so_false]
                            go_wp2_with fail
                            refine hQ.out _ _ ⟨Aa, ca, Ab, cb, Ac, cc, Ad, cd, ?_, ?_⟩
                            · simp [Iv.upd, hi, hd, sl_true, sl_false, so_true, so_false]
                            · simpa [Iv.upd, hi, hd] using hw
                          · rintro f a0 y Q' ⟨Aa, ca, Ab, cb, Ac, cc, Ad, cd, rfl, hw⟩ hi hd hQ
                            replace hQ := Lib.hid hQ
                            simp [Iv.depsB, Region.binds] at hd
                            try simp only [hi, hd, sl_true, sl_false, so_true, so_false]
                            try simp only [hi, sl_true, sl_false, so_true, so_false]
                            go_wp2_with fail
                            refine hQ.out _ _ ⟨Aa, ca, Ab, cb, Ac, cc, Ad, cd, ?_, ?_⟩
                            · simp [Iv.upd, hi, hd, sl_true, sl_false, so_true, so_false]
                            · simpa [Iv.upd, hi, hd] using hw
                          · rintro f a0 y Q' ⟨Aa, ca, Ab, cb, Ac, cc, Ad, cd, rfl, hw⟩ hi hd hQ
                            replace hQ := Lib.hid hQ
                            simp [Iv.depsB, Region.binds] at hd
                            try simp only [hi, hd, sl_true, sl_false, so_true, so_false]
                            try simp only [hi, sl_true, sl_false, so_true, so_false]
                            go_wp2_with fail
                            refine hQ.out _ _ ⟨Aa, ca, Ab, cb, Ac, cc, Ad, cd, ?_, ?_⟩
                            · simp [Iv.upd, hi, hd, sl_true, sl_false, so_true, so_false]
                            · simpa [Iv.upd, hi, hd] using hw
                          · rintro f a0 y Q' ⟨Aa, ca, Ab, cb, Ac, cc, Ad, cd, rfl, hw⟩ hi hd hQ
                            replace hQ := Lib.hid hQ
                            simp [Iv.depsB, Region.binds] at hd
                            try simp only [hi, hd, sl_true, sl_false, so_true, so_false]
                            try simp only [hi, sl_true, sl_false, so_true, so_false]
                            go_wp2_with fail
                            refine hQ.out _ _ ⟨Aa, ca, Ab, cb, Ac, cc, Ad, cd, ?_, ?_⟩
                            · simp [Iv.upd, hi, hd, sl_true, sl_false, so_true, so_false]
                            · simpa [Iv.upd, hi, hd] using hw
                          · rintro f a0 y Q' ⟨Aa, ca, Ab, cb, Ac, cc, Ad, cd, rfl, hw⟩ hi hd hQ
                            replace hQ := Lib.hid hQ
                            simp [Iv.depsB, Region.binds] at hd
                            try simp only [hi, hd, sl_true, sl_false, so_true, so_false]
                            try simp only [hi, sl_true, sl_false, so_true, so_false]
                            go_wp2_with fail
                            refine hQ.out _ _ ⟨Aa, ca, Ab, cb, Ac, cc, Ad, cd, ?_, ?_⟩
                            · simp [Iv.upd, hi, hd, sl_true, sl_false, so_true, so_false]
                            · simpa [Iv.upd, hi, hd] using hw
                          · rintro f a0 y Q' ⟨Aa, ca, Ab, cb, Ac, cc, Ad, cd, rfl, hw⟩ hi hd hQ
                            replace hQ := Lib.hid hQ
                            simp [Iv.depsB, Region.binds] at hd
                            try simp only [hi, hd, sl_true, sl_false, so_true, so_false]
                            try simp only [hi, sl_true, sl_false, so_true, so_false]
                            have u2 := HC5.out _ hw.bel
                            go_wp2_with fail
                            refine hQ.out _ _ ⟨Aa, ca, Ab, cb, Ac, cc, Ad, cd, ?_, ?_⟩
                            · simp [Iv.upd, hi, hd, sl_true, sl_false, so_true, so_false]
                            · simpa [Iv.upd, hi, hd] using hw
                          · rintro f a0 y Q' ⟨Aa, ca, Ab, cb, Ac, cc, Ad, cd, rfl, hw⟩ hi hd hQ
                            replace hQ := Lib.hid hQ
                            simp [Iv.depsB, Region.binds] at hd
                            try simp only [hi, hd, sl_true, sl_false, so_true, so_false]
                            try simp only [hi, sl_true, sl_false, so_true, so_false]
                            have HQW := Lib.hid hw
                            rw [hi] at HQW
                            clear hw
                            go_wp2_with fail
                            refine (HWu.out y (HP9.out.call HQW.out.bel)).mono ?_
                            rintro e y1 ⟨A3, cap3, rfl, hb, ho⟩
                            have HN := Lib.hid (HQW.out.row4 hb (Sees.own ho) (own_room ho))
                            clear hb ho
                            go_wp2_with fail
                            refine hQ.out _ _ ⟨Aa, ca, Ab, cb, Ac, cc, A3, cap3, ?_, ?_⟩
                            · simp [Iv.upd, hi, hd, sl_true, sl_false, so_true, so_false]
                            · simpa [Iv.upd, hi, hd] using HN.out
                          · rintro f a0 y Q' ⟨Aa, ca, Ab, cb, Ac, cc, Ad, cd, rfl, hw⟩ hi hd hQ
                            replace hQ := Lib.hid hQ
                            simp [Iv.depsB, Region.binds] at hd
                            try simp only [hi, hd, sl_true, sl_false, so_true, so_false]
                            try simp only [hi, sl_true, sl_false, so_true, so_false]
                            have e23 : f 23 = true := by simp [hd]
                            have e30 : f 30 = true := by simp [hd]
                            have HQW := Lib.hid hw
                            clear hw
                            try simp only [e23, e30, so_true, so_false]
                            go_wp2_with fail
                            refine (rholds_any Ac cc Ad cd f2 S2 y (HQW.out.h3 e23).1 (HQW.out.h4 e30).1 (HQW.out.h3 e23).2 (HQW.out.h4 e30).2 (by omega)).mono ?_
                            rintro e y1 ⟨rfl, hb⟩
                            have HN := Lib.hid (HQW.out.call hb)
                            clear hb
                            go_wp2_with fail
                            refine hQ.out _ _ ⟨Aa, ca, Ab, cb, Ac, cc, Ad, cd, ?_, ?_⟩
                            · simp [Iv.upd, hi, hd, sl_true, sl_false, so_true, so_false, e23, e30]
                            · simpa [Iv.upd, hi, hd, e23, e30] using HN.out
                          · rintro f a0 y Q' ⟨Aa, ca, Ab, cb, Ac, cc, Ad, cd, rfl, hw⟩ hi hd hQ
                            replace hQ := Lib.hid hQ
                            simp [Iv.depsB, Region.binds] at hd
                            try simp only [hi, hd, sl_true, sl_false, so_true, so_false]
                            try simp only [hi, sl_true, sl_false, so_true, so_false]
                            go_wp2_with fail
                            refine hQ.out _ _ ⟨Aa, ca, Ab, cb, Ac, cc, Ad, cd, ?_, ?_⟩
                            · simp [Iv.upd, hi, hd, sl_true, sl_false, so_true, so_false]
                            · simpa [Iv.upd, hi, hd] using hw
                          · rintro f a0 y Q' ⟨Aa, ca, Ab, cb, Ac, cc, Ad, cd, rfl, hw⟩ hi hd hQ
                            replace hQ := Lib.hid hQ
                            simp [Iv.depsB, Region.binds] at hd
                            try simp only [hi, hd, sl_true, sl_false, so_true, so_false]
                            try simp only [hi, sl_true, sl_false, so_true, so_false]
                            go_wp2_with fail
                            refine hQ.out _ _ ⟨Aa, ca, Ab, cb, Ac, cc, Ad, cd, ?_, ?_⟩
                            · simp [Iv.upd, hi, hd, sl_true, sl_false, so_true, so_false]
                            · simpa [Iv.upd, hi, hd] using hw
                        · rintro f a0 wz ⟨Aa, ca, Ab, cb, Ac, cc, Ad, cd, rfl, hw⟩ hall
                          simp only [hall 0 (by decide), hall 1 (by decide), hall 2 (by decide), hall 3 (by decide), hall 4 (by decide), hall 5 (by decide), hall 6 (by decide), hall 7 (by decide), hall 8 (by decide), hall 9 (by decide), hall 10 (by decide), hall 11 (by decide), hall 12 (by decide), hall 13 (by decide), hall 14 (by decide), hall 15 (by decide), hall 16 (by decide), hall 17 (by decide), hall 18 (by decide), hall 19 (by decide), hall 20 (by decide), hall 21 (by decide), hall 22 (by decide), hall 23 (by decide), hall 24 (by decide), hall 25 (by decide), hall 26 (by decide), hall 27 (by decide), hall 28 (by decide), hall 29 (by decide), hall 30 (by decide), hall 31 (by decide), hall 32 (by decide), hall 33 (by decide), sl_true, ↓reduceIte, so_true, so_false] at hw ⊢
                          clear hall
                          have HPz := Lib.hid (HP9.out.call hw.bel)
                          clear hw HP9 HC5
                          go_wp2_with fail
                          go_roundw
                          case rel => exact ⟨n + 1, s', by omega, by omega, by go_num, by rw [show 2 * (n + 1) = 2 * n + 1 + 1 by omega]; exact HPz.out⟩
                          case measure => simp [intOf]; omega
    · have hend : ((n : Int) < (l.length : Int) ∧ n = 30) ∨ (¬ (n : Int) < (l.length : Int)) := by omega
      clear hlt
      rcases hend with ⟨i1, rfl⟩ | i1
      all_goals
        go_wp2_with fail
        go_ret
        exact ⟨rfl, HP.out.st.below⟩

set_option maxRecDepth 100000 in
theorem lifted (os : Os) (started : os.Started) (H : Type) (enc : TypeId × Value → H) :
    ReturnsInHanded {} Try.checked os 6 .any (Rows.locksOwnSpec.pre6 enc Try.prog Try.f6 Rows.locksOwnRow.domain false) (Rows.locksOwnSpec.post enc Try.prog Try.f6 false true false false) := by
  refine returnsInHanded_of_change (C := Try.checked) own started (by kernel_rfl) Try.func6
    (ChangeSpec.witness6 (enc := enc) (C := Try.checked) false ⟨#[], #[.slice none 0 0], []⟩ 8 (by kernel_rfl) (by kernel_rfl) (by kernel_rfl) (by kernel_rfl)) ?_
  intro W base args ds gs before hval0 hW hcnd _
  have hval : ∀ (j : Nat) t v, Try.f6.params[j]? = some t → args[j]? = some v → Value.okWide Try.prog W .any base t v := hval0
  have hW' := hW
  obtain ⟨p, q, hA0, hV, rfl, hfz, hnd⟩ := hW
  have hA : DataW.TrodAll enc Try.prog W 0 (fun _ => true) true Try.f6.params.toList args.toList ds p := hA0
  rw [Try.params6] at hA hval
  obtain ⟨v0, vs0, d0, ds0, p0, q0, hargs, rfl, rfl, h0, r0⟩ := trodAll_cons hA
  obtain ⟨rfl, rfl, rfl⟩ := trodAll_nil r0
  obtain rfl : args = #[v0] := by cases args; simp_all
  obtain ⟨rfl, rfl⟩ := trodVars_none hV
  obtain ⟨A0, len0, cap0, rfl⟩ := okWide_slice Try.underlying22 (hval 0 22 v0 rfl rfl)
  obtain ⟨l0, w0⟩ := open_ops h0
  have lt0 : ∀ x ∈ p0, x.block < W.heap.size := by obtain ⟨m, hm⟩ := h0; exact DataW.trod_lt m _ _ _ hm
  clear hA0 hval0
  simp only [List.append_nil] at hW'
  refine (walk A0 len0 cap0 l0 W w0).mono fun e W' ⟨he, bel⟩ => ?_
  subst he
  exact ⟨_, rfl, _, _, _, [], _, [], hW', trodAll_mk1 (shut_bool Try.underlying4 _), (trodAll_cons_mk (Below.trod laidOut (by kernel_rfl) (of_decide_eq_true (by kernel_rfl)) h0 bel lt0) trodAll_mk0), rfl, bel.frame _, fun h => by cases h⟩

theorem proved : Rows.LocksOwnSaid :=
  OpenClaim.holds_of_wide 6 Try.f6 rfl rfl rfl rfl rfl rfl rfl ⟨rfl, rfl, rfl, rfl, rfl⟩ rfl rfl rfl rfl rfl (by kernel_rfl) Try.func6 (by kernel_rfl)
    (of_decide_eq_true (by kernel_rfl)) (by unfold Func.isWrapper; first | (rw [if_pos (by decide +kernel)]; kernel_rfl) | (rw [if_neg (by decide +kernel)]; exact ⟨rfl, rfl⟩))
    (fun os started H enc _ => lifted os started H enc)
#print axioms proved
end Go.Proofs.Ytilognaadkcncaa.locksOwn
