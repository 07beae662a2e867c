/- Contracts of the program's calls at layer 6, as far as they only read: isTime, isRate, passed, sum, check. -/
import Derived.Test.YtjpalcolhagpcaaClkW
namespace Go.Proofs.Ytjpalcolhagpcaa
open Go.RowKit Go.Sp Go.Fl Go.Ck
set_option linter.unusedVariables false
set_option linter.unusedSimpArgs false
set_option maxRecDepth 100000

/-- The pointer to block g. -/
abbrev ptr (g : Nat) : Value := .pointer (some ⟨g, 0, none⟩)

theorem Whole.four {w : World} {g : Nat} {t : TypeId} {a b c d : Value} (h : Whole w g t #[a, b, c, d]) :
    w.cell? ⟨g, 0, none⟩ = some a ∧ w.cell? ⟨g, 1, none⟩ = some b ∧ w.cell? ⟨g, 2, none⟩ = some c ∧ w.cell? ⟨g, 3, none⟩ = some d :=
  ⟨h.cell 0, h.cell 1, h.cell 2, h.cell 3⟩
theorem Whole.three {w : World} {g : Nat} {t : TypeId} {a b c : Value} (h : Whole w g t #[a, b, c]) :
    w.cell? ⟨g, 0, none⟩ = some a ∧ w.cell? ⟨g, 1, none⟩ = some b ∧ w.cell? ⟨g, 2, none⟩ = some c := ⟨h.cell 0, h.cell 1, h.cell 2⟩
theorem Whole.thaw {w : World} {g : Nat} {t : TypeId} {cs : Array Value} (h : Whole w g t cs) :
    w.frozen? ⟨g, 0, none⟩ = false ∧ w.frozen? ⟨g, 1, none⟩ = false ∧ w.frozen? ⟨g, 2, none⟩ = false ∧ w.frozen? ⟨g, 3, none⟩ = false := ⟨h.free 0, h.free 1, h.free 2, h.free 3⟩

theorem istime_any (t : Int) (w : World) (h : R64 t) : Calls Try.prog 30 #[.int .i64 t] w fun e w' => e = .returned (.bool (isT t)) ∧ Below w.heap.size w w' := by
  have HC := Lib.hid (fun w0 => scheck_any t t w0 h h)
  have key : (isT t = true ∧ chkS t t = 0) ∨ (isT t = false ∧ chkS t t = 50) := by
    rcases chk_cases t t with ⟨-, e, h⟩ | ⟨-, e, h⟩
    · exact .inl ⟨(isT_iff t).2 (by omega), e⟩
    · exact .inr ⟨(isT_no t).2 (by omega), e⟩
  clear h
  rcases key with ⟨e, e2⟩ | ⟨e, e2⟩
  all_goals
    rw [e]
    rw [e2] at HC
    clear e e2
    go_enter Try.func30, Try.ntmps30
    go_wp2_with fail
    refine (HC.out _).mono ?_
    rintro e w1 ⟨rfl, hb1⟩
    go_wp2_with fail
    go_ret
    exact ⟨rfl, hb1⟩

@[go_sem] theorem w_ltd (x : Nat) (h : x < 18446744073709551616) : (FloatKind.f64.format.order x 4576918229304087675 == some .lt) = decide (x < 4576918229304087675 ∨ 9223372036854775808 ≤ x ∧ x ≤ 18442240474082181120) := by
  rw [order_lt, nan_dec x h, nan_dec 4576918229304087675 (by decide), val_lt (x := 4576918229304087675) (by decide)]
  by_cases g : x < 9223372036854775808
  · rw [val_lt g, Bool.eq_iff_iff]; simp; omega
  · rw [val_ge (by omega) h, Bool.eq_iff_iff]; simp; omega
@[go_sem] theorem w_eqd (x : Nat) (h : x < 18446744073709551616) : (FloatKind.f64.format.order x 4576918229304087675 == some .eq) = decide (x = 4576918229304087675) := by
  rw [order_eqs, nan_dec x h, nan_dec 4576918229304087675 (by decide), val_lt (x := 4576918229304087675) (by decide)]
  by_cases g : x < 9223372036854775808
  · rw [val_lt g, Bool.eq_iff_iff]; simp; omega
  · rw [val_ge (by omega) h, Bool.eq_iff_iff]; simp; omega
theorem iscrate_any (x : Nat) (hx : x < 18446744073709551616) (w : World) : Calls Try.prog 28 #[.float .f64 x] w fun e w' => e = .returned (.bool (crated x)) ∧ w' = w := by
  go_enter Try.func28, Try.ntmps28
  go_wp2
  all_goals go_ret
  all_goals
    refine ⟨ret_bool ?_, rfl⟩
    unfold crated
    rw [Bool.eq_iff_iff]
    simp
    omega

theorem passed_any (g : Nat) (c : Ck) (h : Int) (w : World) (k : Clk w g c) (hc : c.on = true) (hr : 0 ≤ c.r ∧ c.r ≤ 1125899906842624) (hh : 0 ≤ h ∧ h ≤ 1125899906842624) :
    Calls Try.prog 39 #[ptr g, .int .i64 h] w fun e w' => e = .returned (.int .i64 (h - c.r)) ∧ w' = w := by
  obtain ⟨b, hbg, hw, hb⟩ := k.on hc
  obtain ⟨c0, c1, c2, c3⟩ := hw.four
  obtain ⟨d0, d1, d2⟩ := hb.three
  clear hw hb k hc
  generalize c.r = r at *
  go_enter Try.func39, Try.ntmps39
  go_wp2_with fail
  go_ret
  exact ⟨by first | rfl | (simp [go_sem]; omega), rfl⟩

set_option maxHeartbeats 1000000 in
theorem sum_any (g : Nat) (c : Ck) (h : Int) (w : World) (k : Clk w g c) (hc : c.on = true) (hr : 0 ≤ c.r ∧ c.r ≤ h) (ht : 0 ≤ c.t ∧ c.t ≤ 1125899906842624) (hh : 0 ≤ h ∧ h ≤ 1125899906842624) :
    Calls Try.prog 36 #[ptr g, .int .i64 h] w fun e w' => e = .returned (.int .i64 (c.sum h)) ∧ Below w.heap.size w w' := by
  have HP := Lib.hid (fun w0 (k0 : Clk w0 g c) => passed_any g c h w0 k0 hc (by omega) hh)
  obtain ⟨b, hbg, hw, hb⟩ := k.on hc
  have HS : Hid (c.sum h = c.t + (h - c.r)) := Lib.hid rfl
  have HK := Lib.hid k
  have HW : Hid (Whole w g 68 _) := Lib.hid hw
  have HB : Hid (Whole w b 70 _) := Lib.hid hb
  obtain ⟨c0, c1, c2, c3⟩ := hw.four
  obtain ⟨d0, d1, d2⟩ := hb.three
  clear hw hb k hc
  generalize c.sum h = s at *
  have hn : 0 ≤ h - c.r ∧ h - c.r ≤ 1125899906842624 := by omega
  generalize h - c.r = n at *
  clear hr hh
  go_enter Try.func36, Try.ntmps36
  go_wp2_with fail
  go_quiet ((go_at_call 39; exact Calls.quiet_of_same ((HP.out _ (HK.out.drewN _)).mono (by rintro e x ⟨rfl, rfl⟩; exact ⟨rfl, rfl⟩))))
  go_wp2_with fail
  go_ret
  exact ⟨by rw [HS.out]; rfl, below_drewN (Below.refl _ _) _⟩

set_option maxHeartbeats 2000000 in
theorem check_any (g : Nat) (c : Ck) (o : Ok c) (h : Int) (hh : R64 h) (w : World) (k : Clk w g c) :
    Calls Try.prog 31 #[ptr g, .int .i64 h] w fun e w' => e = .returned (.int .i64 (c.nowE h)) ∧ Below w.heap.size w w' := by
  have HT := Lib.hid (fun w0 => istime_any h w0 hh)
  have HK := Lib.hid k
  rcases now_cases c o h with ⟨E, t1, on, h1, h2, t2, h3, h4, -⟩ | ⟨E, t1, on, h1, h2, t2, h3, h4, -⟩ | ⟨E, t1, on, h2, -⟩ | ⟨E, t1, on, -⟩ | ⟨E, t1, -⟩
  case' inr.inr.inr.inr =>
    rw [E]
    rw [t1] at HT
    clear k o hh E t1
    go_enter Try.func31, Try.ntmps31
    go_wp2_with fail
    refine (HT.out _).mono ?_
    rintro e w1 ⟨rfl, hb1⟩
    go_wp2_with fail
    go_ret
    exact ⟨rfl, hb1⟩
  case' inr.inr.inr.inl =>
    rw [E]
    rw [t1] at HT
    clear o hh E t1
    go_enter Try.func31, Try.ntmps31
    go_wp2_with fail
    refine (HT.out _).mono ?_
    rintro e w1 ⟨rfl, hb1⟩
    have K1 := HK.out.call hb1
    obtain ⟨c0, c1, c2, c3⟩ := (K1.off on).four
    clear K1
    go_wp2_with fail
    go_ret
    exact ⟨rfl, hb1⟩
  case' inr.inr.inl =>
    rw [E]
    rw [t1] at HT
    clear o hh E t1
    go_enter Try.func31, Try.ntmps31
    go_wp2_with fail
    refine (HT.out _).mono ?_
    rintro e w1 ⟨rfl, hb1⟩
    have K1 := HK.out.call hb1
    obtain ⟨b, hbg, hw, hb⟩ := K1.on on
    obtain ⟨c0, c1, c2, c3⟩ := hw.four
    clear K1 hw hb
    go_wp2_with fail
    go_ret
    exact ⟨rfl, hb1⟩
  all_goals
    obtain ⟨b1, b2, b3⟩ := o.basis on
    have HS := Lib.hid (fun w0 (k0 : Clk w0 g c) => sum_any g c h w0 k0 on (by omega) b2 h1)
    have HU := Lib.hid (fun w0 => istime_any (c.sum h) w0 ⟨by unfold Ck.sum at *; omega, by unfold Ck.sum at *; omega⟩)
    rw [E]
    rw [t1] at HT
    rw [t2] at HU
    clear o hh E t1 t2 h3 h4 b1 b2 b3 h1
    generalize c.sum h = s at *
    go_enter Try.func31, Try.ntmps31
    go_wp2_with fail
    refine (HT.out _).mono ?_
    rintro e w1 ⟨rfl, hb1⟩
    have HK1 := Lib.hid (HK.out.call hb1)
    have HB1 := Lib.hid hb1
    clear hb1
    obtain ⟨b, hbg, hw, hb⟩ := HK1.out.on on
    obtain ⟨c0, c1, c2, c3⟩ := hw.four
    clear hw hb
    go_wp2_with fail
    refine (HS.out _ HK1.out).mono ?_
    rintro e w2 ⟨rfl, hb2⟩
    have HB2 := Lib.hid (HB1.out.trans (hb2.mono HB1.out.size))
    clear hb2 c0 c1 c2 c3
    go_wp2_with fail
    refine (HU.out _).mono ?_
    rintro e w3 ⟨rfl, hb3⟩
    have HB3 := Lib.hid (HB2.out.trans (hb3.mono HB2.out.size))
    clear hb3
    go_wp2_with fail
    go_ret
    exact ⟨rfl, HB3.out⟩
end Go.Proofs.Ytjpalcolhagpcaa
