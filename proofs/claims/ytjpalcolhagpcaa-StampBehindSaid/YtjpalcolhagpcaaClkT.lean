/- Contracts of the program's calls at layer 6: Set, New; and of the document's Rated. -/
import Derived.Test.YtjpalcolhagpcaaClkN
namespace Go.Proofs.Ytjpalcolhagpcaa
open Go.RowKit Go.Sp Go.Fl Go.Ck
set_option linter.unusedVariables false
set_option linter.unusedSimpArgs false
set_option maxRecDepth 100000

theorem Clk.cells {w : World} {g : Nat} {c : Ck} (k : Clk w g c) : ∃ p : Option Addr, Whole w g 68 #[.pointer p, .float .f64 c.rate, .int .i64 c.last, .int .i64 c.floor] := by
  obtain ⟨p, hw, -⟩ := k.is
  exact ⟨p, hw⟩
theorem set_end {w w1 : World} {g : Nat} {c : Ck} {h t e : Int} {p : Option Addr} (HB : Below w.heap.size w w1) (HW : Whole w1 g 68 #[.pointer p, .float .f64 c.rate, .int .i64 c.last, .int .i64 c.floor]) (W : World)
    (hW : W = ((w1.setCell ⟨g, 0, none⟩ (.pointer (some ⟨w1.heap.size, 0, none⟩))).setCell ⟨g, 2, none⟩ (.int .i64 h)).alloc (.cells #[.int .i64 h, .int .i64 t, .int .i64 e] 70)) :
    But g w W ∧ Clk W g ⟨c.rate, true, h, t, e, h, c.floor⟩ := by
  subst hW
  refine ⟨(((But.of HB g).set 0 _).set 2 _).alloc _, ?_⟩
  refine Clk.rows (b := w1.heap.size) rfl (((HW.set 0 _).set 2 _).alloc _) ?_
  have := Whole.fresh ((w1.setCell ⟨g, 0, none⟩ (.pointer (some ⟨w1.heap.size, 0, none⟩))).setCell ⟨g, 2, none⟩ (.int .i64 h)) 70 #[.int .i64 h, .int .i64 t, .int .i64 e]
  simpa using this

set_option maxHeartbeats 4000000 in
theorem set_any (g : Nat) (c : Ck) (h t e : Int) (hh : R64 h) (ht : R64 t) (he : R64 e) (w : World) (k : Clk w g c) :
    Calls Try.prog 20 #[ptr g, .int .i64 h, .int .i64 t, .int .i64 e] w fun r w' => r = .returned (.int .i64 (c.setE h t e)) ∧ But g w w' ∧ Clk w' g (c.set h t e) := by
  have HA := Lib.hid (fun w0 => istime_any h w0 hh)
  have HT := Lib.hid (fun w0 => istime_any t w0 ht)
  have HE := Lib.hid (fun w0 => istime_any e w0 he)
  have HK := Lib.hid k
  clear hh ht he k
  rcases set_cases c h t e with ⟨E0, a, b, d, h1, h2, h3, h4, E⟩ | ⟨E0, a, b, d, h4, E⟩ | ⟨E0, a, b, d, E⟩ | ⟨E0, a, b, E⟩ | ⟨E0, a, E⟩
  case' inr.inr.inr.inr =>
    rw [E0]
    have HN := Lib.hid E
    rw [a] at HA
    clear E0 a E
    go_enter Try.func20, Try.ntmps20
    go_wp2_with fail
    refine (HA.out _).mono ?_
    rintro r w1 ⟨rfl, hb1⟩
    have HB := Lib.hid hb1
    clear hb1
    go_wp2_with fail
    go_ret
    rw [HN.out]
    exact ⟨rfl, .of HB.out g, HK.out.call HB.out⟩
  case' inr.inr.inr.inl =>
    rw [E0]
    have HN := Lib.hid E
    rw [a] at HA
    rw [b] at HT
    clear E0 a b E
    go_enter Try.func20, Try.ntmps20
    go_wp2_with fail
    refine (HA.out _).mono ?_
    rintro r w1 ⟨rfl, hb1⟩
    have HB := Lib.hid hb1
    clear hb1
    go_wp2_with fail
    refine (HT.out _).mono ?_
    rintro r w2 ⟨rfl, hb1⟩
    replace HB := Lib.hid (HB.out.trans (hb1.mono HB.out.size))
    clear hb1
    go_wp2_with fail
    go_ret
    rw [HN.out]
    exact ⟨rfl, .of HB.out g, HK.out.call HB.out⟩
  all_goals
    rw [E0]
    have HN := Lib.hid E
    rw [a] at HA
    rw [b] at HT
    rw [d] at HE
    clear E0 a b d E
    go_enter Try.func20, Try.ntmps20
    go_wp2_with fail
    refine (HA.out _).mono ?_
    rintro r w1 ⟨rfl, hb1⟩
    have HB := Lib.hid hb1
    clear hb1
    go_wp2_with fail
    refine (HT.out _).mono ?_
    rintro r w2 ⟨rfl, hb1⟩
    replace HB := Lib.hid (HB.out.trans (hb1.mono HB.out.size))
    clear hb1
    go_wp2_with fail
    refine (HE.out _).mono ?_
    rintro r w3 ⟨rfl, hb1⟩
    replace HB := Lib.hid (HB.out.trans (hb1.mono HB.out.size))
    clear hb1
    replace HK := Lib.hid (HK.out.call HB.out)
    obtain ⟨p, hw⟩ := HK.out.cells
    have HW : Hid (Whole w3 g 68 _) := Lib.hid hw
    have glt := hw.lt
    obtain ⟨c0, c1, c2, c3⟩ := hw.four
    obtain ⟨t0, t1, t2, t3⟩ := hw.thaw
    clear hw
    go_wp2_with fail
    go_ret
    rw [HN.out]
    first
      | exact ⟨rfl, .of HB.out g, HK.out⟩
      | exact ⟨rfl, set_end HB.out HW.out _ rfl⟩
end Go.Proofs.Ytjpalcolhagpcaa
