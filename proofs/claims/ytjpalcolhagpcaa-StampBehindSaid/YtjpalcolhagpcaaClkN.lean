/- Contracts of the program's calls at layer 6: Now, Past. -/
import Derived.Test.YtjpalcolhagpcaaClkY
namespace Go.Proofs.Ytjpalcolhagpcaa
open Go.RowKit Go.Sp Go.Fl Go.Ck
set_option linter.unusedVariables false
set_option linter.unusedSimpArgs false
set_option maxRecDepth 100000

theorem now_end {w w2 : World} {g b : Nat} {c : Ck} {h A B : Int} (hg : g < w.heap.size) (on : c.on = true) (hbg : b ≠ g)
    (H : St w w2 [(w.heap.size, 28, #[.int .i64 0, .int .i64 0])])
    (HW : Whole w2 g 68 #[.pointer (some ⟨b, 0, none⟩), .float .f64 c.rate, .int .i64 c.last, .int .i64 c.floor])
    (HB : Whole w2 b 70 #[.int .i64 c.r, .int .i64 c.t, .int .i64 c.e]) (W : World)
    (hW : W = (((((w2.setCell ⟨g, 2, none⟩ (.int .i64 h)).setCell ⟨g, 3, none⟩ (.int .i64 A)).setCell ⟨w.heap.size, 0, none⟩ (.int .i64 A)).setCell ⟨w.heap.size, 1, none⟩ (.int .i64 B)).alloc (.cells #[.int .i64 A, .int .i64 B] 28)).drew.drew) :
    But g w W ∧ Clk W g ⟨c.rate, c.on, c.r, c.t, c.e, h, A⟩ := by
  subst hW
  have hgs : g ≠ w.heap.size := by omega
  have hbs : b ≠ w.heap.size := whole_unlike HB (H.knows.at 0 rfl) (by decide)
  refine ⟨?_, ?_⟩
  · have h1 := (((But.of H.below g).set 2 (.int .i64 h)).set 3 (.int .i64 A)).setNew (p := ⟨w.heap.size, 0, none⟩) (Nat.le_refl _) (.int .i64 A)
    have h2 := h1.setNew (p := ⟨w.heap.size, 1, none⟩) (Nat.le_refl _) (.int .i64 B)
    exact (h2.alloc (.cells #[.int .i64 A, .int .i64 B] 28)).drewN 2
  · refine Clk.rows (b := b) on ?_ ?_
    · exact ((((((HW.set 2 (.int .i64 h)).set 3 (.int .i64 A)).away (p := ⟨w.heap.size, 0, none⟩) hgs (.int .i64 A)).away (p := ⟨w.heap.size, 1, none⟩) hgs (.int .i64 B)).alloc _).drewN 2 :)
    · exact ((((((HB.away (p := ⟨g, 2, none⟩) hbg (.int .i64 h)).away (p := ⟨g, 3, none⟩) hbg (.int .i64 A)).away (p := ⟨w.heap.size, 0, none⟩) hbs (.int .i64 A)).away (p := ⟨w.heap.size, 1, none⟩) hbs (.int .i64 B)).alloc _).drewN 2 :)

theorem now_end0 {w w1 : World} {g : Nat} {c : Ck} {u v : Value} (hg : g < w.heap.size) (HK : Clk w1 g c) (H : St w w1 [(w.heap.size, 28, #[.int .i64 0, .int .i64 0])]) (W : World)
    (hW : W = (w1.setCell ⟨w.heap.size, 0, none⟩ u).setCell ⟨w.heap.size, 1, none⟩ v) : But g w W ∧ Clk W g c := by
  subst hW
  refine ⟨((But.of H.below g).setNew (Nat.le_refl _) u).setNew (Nat.le_refl _) v, ?_⟩
  obtain ⟨p, hw, h0, h1⟩ := HK.is
  have hgs : g ≠ w.heap.size := by omega
  refine ⟨p, (hw.away (p := ⟨w.heap.size, 0, none⟩) hgs u).away (p := ⟨w.heap.size, 1, none⟩) hgs v, h0, fun on => ?_⟩
  obtain ⟨b, hp, hb⟩ := h1 on
  have hbs : b ≠ w.heap.size := whole_unlike hb (H.knows.at 0 rfl) (by decide)
  exact ⟨b, hp, (hb.away (p := ⟨w.heap.size, 0, none⟩) hbs u).away (p := ⟨w.heap.size, 1, none⟩) hbs v⟩

set_option maxHeartbeats 4000000 in
theorem now_any (g : Nat) (c : Ck) (o : Ok c) (h : Int) (hh : R64 h) (w : World) (k : Clk w g c) :
    Calls Try.prog 22 #[ptr g, .int .i64 h] w fun e w' => e = .returned (.tuple #[.agg #[.int .i64 (c.nowL h), .int .i64 (c.nowH h)], .int .i64 (c.nowE h)]) ∧ But g w w' ∧ Clk w' g (c.now h) := by
  have HC := Lib.hid (fun w0 (k0 : Clk w0 g c) => check_any g c o h hh w0 k0)
  have HK := Lib.hid k
  have HK0 := Lib.hid k.lt
  have H := Lib.hid ((St.start w).alloc w.heap.size rfl 28 #[.int .i64 0, .int .i64 0])
  by_cases h0 : c.nowE h = 0
  · obtain ⟨q1, q2, q3, q4⟩ := drifted_eq c o h h0
    have HD := Lib.hid (fun w0 (k0 : Clk w0 g c) => drifted_any g c o h h0 w0 k0)
    have on : c.on = true := by
      rcases now_cases c o h with ⟨E, t1, on, -⟩ | ⟨E, -⟩ | ⟨E, -⟩ | ⟨E, -⟩ | ⟨E, -⟩
      · exact on
      all_goals rw [E] at h0; cases h0
    have e1 : c.nowL h = c.lo h := by unfold Ck.nowL; rw [if_pos h0]
    have e2 : c.nowH h = c.hi h := by unfold Ck.nowH; rw [if_pos h0]
    have HN : Hid (c.now h = ⟨c.rate, c.on, c.r, c.t, c.e, h, c.lo h⟩) := Lib.hid (by unfold Ck.now; rw [if_pos h0])
    rw [e1, e2, h0]
    rw [h0] at HC
    clear e1 e2 h0 q1 q2
    generalize driL (widL (c.sum h) (c.sum h) c.e) (widH (c.sum h) (c.sum h) c.e) (h - c.r) c.rate = L at *
    generalize driH (widL (c.sum h) (c.sum h) c.e) (widH (c.sum h) (c.sum h) c.e) (h - c.r) c.rate = M at *
    generalize c.lo h = A at *
    generalize c.hi h = B at *
    have key : ((L < c.floor ∧ A = c.floor) ∨ (c.floor ≤ L ∧ A = L)) ∧ ((M < A ∧ B = A) ∨ (A ≤ M ∧ B = M)) := by
      have m1 := mx_cases L c.floor
      have m2 := mx_cases M A
      omega
    clear q3 q4 o hh
    have HON := Lib.hid on
    go_enter Try.func22, Try.ntmps22
    go_wp2_with fail
    refine (HC.out _ (HK.out.alloc _)).mono ?_
    rintro e w1 ⟨rfl, hb1⟩
    replace HK := Lib.hid ((HK.out.alloc _).call hb1)
    replace H := Lib.hid (H.out.call hb1)
    clear hb1
    go_wp2_with fail
    refine (HD.out _ HK.out).mono ?_
    rintro e w2 ⟨rfl, hb2⟩
    replace HK := Lib.hid (HK.out.call hb2)
    replace H := Lib.hid (H.out.call hb2)
    clear hb2 HC HD
    have kk := HK.out
    obtain ⟨b, hbg, hw, hb⟩ := kk.on HON.out
    have glt := hw.lt
    have HW : Hid (Whole w2 g 68 _) := Lib.hid hw
    have HB : Hid (Whole w2 b 70 _) := Lib.hid hb
    obtain ⟨c0, c1, c2, c3⟩ := hw.four
    obtain ⟨t0, t1, t2, t3⟩ := hw.thaw
    obtain ⟨d0, e0, f0, g0, z0⟩ := H.out.two 0 w.heap.size rfl
    clear hw hb kk on
    rcases key with ⟨⟨x1, rfl⟩ | ⟨x1, rfl⟩, ⟨x2, rfl⟩ | ⟨x2, rfl⟩⟩
    all_goals
      go_wp2_with fail
      go_region
      go_wp2_with fail
      go_region
      all_goals go_wp2_with fail
      all_goals
        refine bodyPost_ret (by simp [results, Try.results22, go_sem, d0, e0, f0, g0, z0]; try rfl) rfl ?_
        rw [HN.out]
        exact ⟨rfl, now_end HK0.out HON.out hbg H.out HW.out HB.out _ rfl⟩
  · have HN : Hid (c.now h = c) := Lib.hid (by unfold Ck.now; rw [if_neg h0])
    have e1 : c.nowL h = 0 := by unfold Ck.nowL; rw [if_neg h0]
    have e2 : c.nowH h = 0 := by unfold Ck.nowH; rw [if_neg h0]
    rw [e1, e2]
    clear e1 e2 o hh
    generalize c.nowE h = E at *
    have q1 : (E != 0) = true := by simpa using h0
    have q2 : (E == 0) = false := by simpa using h0
    go_enter Try.func22, Try.ntmps22
    go_wp2_with fail
    refine (HC.out _ (HK.out.alloc _)).mono ?_
    rintro e w1 ⟨rfl, hb1⟩
    replace HK := Lib.hid ((HK.out.alloc _).call hb1)
    replace H := Lib.hid (H.out.call hb1)
    clear hb1
    obtain ⟨d0, e0, f0, g0, z0⟩ := H.out.two 0 w.heap.size rfl
    go_wp2_with fail
    refine bodyPost_ret (by simp [results, Try.results22, go_sem, d0, e0, f0, g0, z0]; try rfl) rfl ?_
    rw [HN.out]
    exact ⟨rfl, now_end0 HK0.out HK.out H.out _ rfl⟩

end Go.Proofs.Ytjpalcolhagpcaa
