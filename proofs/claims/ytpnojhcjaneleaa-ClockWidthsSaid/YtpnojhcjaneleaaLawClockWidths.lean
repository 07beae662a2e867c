/- A clock's span is as wide at most as the basis and the drift say, twice: moietylaw06.ClockWidths answers true. For every float, time and basis; no conditions. -/
import Derived.Test.YtpnojhcjaneleaaClkO
namespace Go.Proofs.Ytpnojhcjaneleaa.clockWidths
open Go.ChangeShapes Go.WideShapes Go.ChangeAt Go.RowKit Go.Sp Go.Fl Go.Ck
set_option linter.unusedVariables false
set_option linter.unusedSimpArgs false

theorem widths (x : Nat) (hx : crated x = true) (t e d : Int) (hd : 0 ≤ d ∧ d ≤ 4294967295) (h0 : (fresh x).setE 0 t e = 0) :
    isT d = true ∧ R64 (t + d) ∧ (0 ≤ t ∧ t ≤ 1125899906842624) ∧ (0 ≤ e ∧ e ≤ 1125899906842624) ∧ (0 ≤ moreT d x ∧ moreT d x ≤ d) ∧ Ok ((fresh x).set 0 t e) ∧
    ((((fresh x).set 0 t e).nowE d = 64 ∧ ((fresh x).set 0 t e).nowL d = 0 ∧ ((fresh x).set 0 t e).nowH d = 0) ∨
     (((fresh x).set 0 t e).nowE d = 0 ∧ (0 ≤ ((fresh x).set 0 t e).nowL d ∧ ((fresh x).set 0 t e).nowL d ≤ t + d ∧ t + d ≤ ((fresh x).set 0 t e).nowH d ∧ ((fresh x).set 0 t e).nowH d ≤ 1125899906842624 ∧
        t + d - ((fresh x).set 0 t e).nowL d ≤ e + moreT d x ∧ ((fresh x).set 0 t e).nowH d - (t + d) ≤ e + moreT d x) ∧
        ((((fresh x).set 0 t e).nowL d = 0) ∨ (((fresh x).set 0 t e).nowL d ≠ 0 ∧ t + d - ((fresh x).set 0 t e).nowL d = e + moreT d x)) ∧
        ((((fresh x).set 0 t e).nowH d = 1125899906842624) ∨ (((fresh x).set 0 t e).nowH d ≠ 1125899906842624 ∧ ((fresh x).set 0 t e).nowH d - (t + d) = e + moreT d x)))) := by
  have ok := (Ok.fresh hx).set 0 t e
  rcases set_cases (fresh x) 0 t e with ⟨E0, _, _, _, a1, a2, a3, h4, E⟩ | ⟨E0, _⟩ | ⟨E0, _⟩ | ⟨E0, _⟩ | ⟨E0, _⟩
  case' inr.inl => rw [E0] at h0; cases h0
  case' inr.inr.inl => rw [E0] at h0; cases h0
  case' inr.inr.inr.inl => rw [E0] at h0; cases h0
  case' inr.inr.inr.inr => rw [E0] at h0; cases h0
  have hdT : isT d = true := (isT_iff d).2 (by omega)
  have hm := more_range d x hd.1 (crated_rated hx)
  refine ⟨hdT, ⟨by omega, by omega⟩, a2, a3, hm, ok, ?_⟩
  rw [E] at ok ⊢
  have e1 : Ck.sum ⟨(fresh x).rate, true, 0, t, e, 0, (fresh x).floor⟩ d = t + (d - 0) := rfl
  have e2 : Ck.more ⟨(fresh x).rate, true, 0, t, e, 0, (fresh x).floor⟩ d = moreT (d - 0) x := rfl
  have e3 : Ck.lo ⟨(fresh x).rate, true, 0, t, e, 0, (fresh x).floor⟩ d = mx (t + (d - 0) - e - moreT (d - 0) x) 0 := rfl
  have e4 : Ck.hi ⟨(fresh x).rate, true, 0, t, e, 0, (fresh x).floor⟩ d = mx (mn (t + (d - 0) + e + moreT (d - 0) x) 1125899906842624) (mx (t + (d - 0) - e - moreT (d - 0) x) 0) := rfl
  rcases now_cases _ ok d with ⟨n0, _, _, n1, n2, _, ns, nn, nm, n3, n6, n4, n5, nL, nH, _⟩ | ⟨n0, _, _, _, _, _, _, _, nL, nH, _⟩ | ⟨_, _, _, g, _⟩ | ⟨_, _, g, _⟩ | ⟨_, g, _⟩
  · right
    rw [e1] at ns
    rw [nL, nH, e3, e4]
    rw [Int.sub_zero] at *
    generalize moreT d x = m at *
    have M1 := mx_cases (t + d - e - m) 0
    have M2 := mn_cases (t + d + e + m) 1125899906842624
    have M3 := mx_cases (mn (t + d + e + m) 1125899906842624) (mx (t + d - e - m) 0)
    refine ⟨n0, by omega, by omega, by omega⟩
  · exact .inl ⟨n0, nL, nH⟩
  · exfalso
    have : d < 0 := g
    omega
  · cases g
  · rw [hdT] at g; cases g

set_option maxHeartbeats 8000000 in
theorem walk (x : Nat) (hx : x < 18446744073709551616) (t : Int) (ht : -9223372036854775808 ≤ t ∧ t ≤ 9223372036854775807) (e d : Int) (hed : R64 e ∧ (0 ≤ d ∧ d ≤ 4294967295)) (w : World) :
    Calls Try.prog 9 #[.float .f64 x, .int .i64 t, .agg #[.int .i64 e, .int .u32 d]] w fun r w' => r = .returned (.bool true) ∧ Below w.heap.size w w' := by
  have H := Lib.hid ((St.start w).alloc w.heap.size rfl 68 #[.int .i64 e, .int .u32 d])
  obtain ⟨c0, e0, d0, f0, z0⟩ := H.out.two 0 w.heap.size rfl
  cases hc : crated x with
  | false =>
    have HN := Lib.hid (fun w0 => new_no x hx hc w0)
    clear hx hc ht hed
    go_enter Try.func9, Try.ntmps9
    go_wp2_with fail
    go_quiet (fail)
    go_wp2_with fail
    refine (HN.out _).mono ?_
    rintro r w1 ⟨rfl, rfl⟩
    go_wp2_with fail
    refine (awake_any _).mono ?_
    rintro r w1 ⟨rfl, hb1⟩
    replace H := Lib.hid ((H.out.drewN _).call hb1)
    clear hb1
    go_wp2_with fail
    refine (awake_any _).mono ?_
    rintro r w2 ⟨rfl, hb1⟩
    replace H := Lib.hid (H.out.call hb1)
    clear hb1
    go_wp2_with fail
    go_ret
    exact ⟨rfl, H.out.below⟩
  | true =>
    have HN := Lib.hid (fun w0 g hg => new_at x hc w0 g hg)
    have HS := Lib.hid (fun w0 g (k : Clk w0 g (fresh x)) => set_any g (fresh x) 0 t e ⟨by omega, by omega⟩ ⟨by omega, by omega⟩ hed.1 w0 k)
    have HC := Lib.hid hc
    by_cases h0 : (fresh x).setE 0 t e = 0
    · obtain ⟨hdT, hR, ht2, he2, hm, ok, key⟩ := widths x hc t e d hed.2 h0
      have HW := Lib.hid (fun w0 g (k : Clk w0 g ((fresh x).set 0 t e)) => now_any g _ ok d ⟨by omega, by omega⟩ w0 k)
      have HP := Lib.hid (fun w0 => rprod_any d x true hx (by omega) (by omega) w0)
      rw [prodT_value hdT (crated_rated hc)] at HP
      rw [h0] at HS
      have hR1 := hR.1
      have hR2 := hR.2
      have hd := hed.2
      clear h0 hdT ok hc ht hed hR hx
      generalize ((fresh x).set 0 t e).nowL d = L at *
      generalize ((fresh x).set 0 t e).nowH d = M at *
      generalize ((fresh x).set 0 t e).nowE d = E at *
      generalize ((fresh x).set 0 t e).now d = c2 at *
      generalize (fresh x).set 0 t e = c1 at *
      generalize moreT d x = m at *
      rcases key with ⟨rfl, rfl, rfl⟩ | ⟨rfl, ⟨k1, k2, k3, k4, k5, k6⟩, k7 | ⟨k7, k8⟩, k9 | ⟨k9, k10⟩⟩
      all_goals
        go_enter Try.func9, Try.ntmps9
        go_wp2_with fail
        go_quiet (fail)
        go_wp2_with fail
        refine (HN.out _ (w.heap.size + 1) (by simp)).mono ?_
        rintro r w1 ⟨rfl, hb1, k⟩
        have HL := Lib.hid (show Lw w w1 [] (w.heap.size + 1) (fresh x) from ⟨((H.out.drewN _).call hb1).few (fun r hr => by cases hr), k, by simp, fun r hr => by cases hr⟩)
        clear hb1 k
        go_wp2_with fail
        refine (awake_any _).mono ?_
        rintro r w2 ⟨rfl, hb1⟩
        replace HL := Lib.hid (HL.out.call hb1)
        clear hb1
        go_wp2_with fail
        refine (HS.out _ _ HL.out.clk).mono ?_
        rintro r w3 ⟨rfl, hb1, k⟩
        replace HL := Lib.hid (HL.out.turn hb1 k)
        clear hb1 k
        go_wp2_with fail
        refine (HW.out _ _ HL.out.clk).mono ?_
        rintro r w4 ⟨rfl, hb1, k⟩
        replace HL := Lib.hid (HL.out.turn hb1 k)
        clear hb1 k
        go_wp2_with fail
        first
          | (go_ret
             exact ⟨rfl, HL.out.st.below.alloc HL.out.st.below.size _⟩)
          | (refine (HP.out _).mono ?_
             rintro r w5 ⟨rfl, hb1⟩
             have HL2 := Lib.hid ((HL.out.alloc w4.heap.size rfl 39 #[.int .i64 _, .int .i64 _]).call hb1)
             clear hb1
             obtain ⟨q0, q1, q2, q3, q4⟩ := HL2.out.st.two 0 w4.heap.size rfl
             go_wp2_with fail
             go_ret
             exact ⟨by first | rfl | (simp [go_sem]; omega), HL2.out.st.below⟩)
    · have q1 : ((fresh x).setE 0 t e != 0) = true := by simpa using h0
      clear h0 hc ht hed hx
      generalize (fresh x).setE 0 t e = E at *
      generalize (fresh x).set 0 t e = c1 at *
      go_enter Try.func9, Try.ntmps9
      go_wp2_with fail
      go_quiet (fail)
      go_wp2_with fail
      refine (HN.out _ (w.heap.size + 1) (by simp)).mono ?_
      rintro r w1 ⟨rfl, hb1, k⟩
      have HL := Lib.hid (show Lw w w1 [] (w.heap.size + 1) (fresh x) from ⟨((H.out.drewN _).call hb1).few (fun r hr => by cases hr), k, by simp, fun r hr => by cases hr⟩)
      clear hb1 k
      go_wp2_with fail
      refine (awake_any _).mono ?_
      rintro r w2 ⟨rfl, hb1⟩
      replace HL := Lib.hid (HL.out.call hb1)
      clear hb1
      go_wp2_with fail
      refine (HS.out _ _ HL.out.clk).mono ?_
      rintro r w3 ⟨rfl, hb1, k⟩
      replace HL := Lib.hid (HL.out.turn hb1 k)
      clear hb1 k
      go_wp2_with fail
      refine (awake_any _).mono ?_
      rintro r w4 ⟨rfl, hb1⟩
      replace HL := Lib.hid (HL.out.call hb1)
      clear hb1
      go_wp2_with fail
      go_ret
      exact ⟨rfl, HL.out.st.below⟩

set_option maxRecDepth 100000 in
theorem lifted (os : Os) (started : os.Started) (H : Type) (enc : TypeId × Value → H) :
    ReturnsInHanded {} Try.checked os 9 .any (Rows.clockWidthsSpec.pre6 enc Try.prog Try.f9 Rows.clockWidthsRow.domain false) (Rows.clockWidthsSpec.post enc Try.prog Try.f9 false true false false) := by
  refine returnsInHanded_of_change (C := Try.checked) own started (by kernel_rfl) Try.func9
    (ChangeSpec.witness6 (enc := enc) (C := Try.checked) false ⟨#[], #[.float .f64 0, .int .i64 0, .agg #[.int .i64 0, .int .u32 0]], []⟩ 8 (by kernel_rfl) (by kernel_rfl) (by kernel_rfl) (by kernel_rfl)) ?_
  intro W base args ds gs before hval0 hW hcnd _
  have hval : ∀ (j : Nat) t v, Try.f9.params[j]? = some t → args[j]? = some v → Value.okWide Try.prog W .any base t v := hval0
  have hW' := hW
  obtain ⟨p, q, hA0, hV, rfl, hfz, hnd⟩ := hW
  have hA : DataW.TrodAll enc Try.prog W 0 (fun _ => true) true Try.f9.params.toList args.toList ds p := hA0
  rw [Try.params9] at hA hval
  obtain ⟨v0, vs0, d0, ds0, p0, q0, hargs, rfl, rfl, h0, r0⟩ := trodAll_cons hA
  obtain ⟨v1, vs1, d1, ds1, p1, q1, rfl, rfl, rfl, h1, r1⟩ := trodAll_cons r0
  obtain ⟨v2, vs2, d2, ds2, p2, q2, rfl, rfl, rfl, h2, r2⟩ := trodAll_cons r1
  obtain ⟨rfl, rfl, rfl⟩ := trodAll_nil r2
  obtain rfl : args = #[v0, v1, v2] := by cases args; simp_all
  obtain ⟨rfl, rfl⟩ := trodVars_none hV
  obtain ⟨a0, rfl⟩ := okWide_float Try.underlying22 (hval 0 22 v0 rfl rfl)
  have w0 : a0 < 18446744073709551616 := by
    obtain ⟨m, hm⟩ := h0
    obtain ⟨s, hs, hl⟩ := float_of (k := .f64) Try.underlying22 hm
    simp [Value.cells] at hs
    rw [hs]; simpa [Lit.wf] using hl
  have lt0 : ∀ x ∈ p0, x.block < W.heap.size := by obtain ⟨m, hm⟩ := h0; exact DataW.trod_lt m _ _ _ hm
  obtain ⟨a1, rfl⟩ := okWide_int Try.underlying2 (hval 1 2 v1 rfl rfl)
  have w1 : -9223372036854775808 ≤ a1 ∧ a1 ≤ 9223372036854775807 := by
    obtain ⟨m, hm⟩ := h1
    obtain ⟨s, hs, _, hl⟩ := DataW.trod_int Try.underlying2 hm
    simp [Value.cells] at hs
    rw [hs]; have := bounds_i64 hl; omega
  have lt1 : ∀ x ∈ p1, x.block < W.heap.size := by obtain ⟨m, hm⟩ := h1; exact DataW.trod_lt m _ _ _ hm
  obtain ⟨e2, d2, rfl, w2⟩ := open_basis (hval 2 68 v2 rfl rfl) h2
  have lt2 : ∀ x ∈ p2, x.block < W.heap.size := by obtain ⟨m, hm⟩ := h2; exact DataW.trod_lt m _ _ _ hm
  clear hA0 hval0
  simp only [List.append_nil] at hW'
  refine (walk a0 w0 a1 w1 e2 d2 w2 W ).mono fun e W' ⟨he, bel⟩ => ?_
  subst he
  exact ⟨_, rfl, _, _, _, [], _, [], hW', trodAll_mk1 (shut_bool Try.underlying4 _), (trodAll_cons_mk (Below.trod laidOut (by kernel_rfl) (of_decide_eq_true (by kernel_rfl)) h0 bel lt0) (trodAll_cons_mk (Below.trod laidOut (by kernel_rfl) (of_decide_eq_true (by kernel_rfl)) h1 bel lt1) (trodAll_cons_mk (Below.trod laidOut (by kernel_rfl) (of_decide_eq_true (by kernel_rfl)) h2 bel lt2) trodAll_mk0))), rfl, bel.frame _, fun h => by cases h⟩

theorem proved : Rows.ClockWidthsSaid :=
  OpenClaim.holds_of_wide 9 Try.f9 rfl rfl rfl rfl rfl rfl rfl ⟨rfl, rfl, rfl, rfl, rfl⟩ rfl rfl rfl rfl rfl (by kernel_rfl) Try.func9 (by kernel_rfl)
    (of_decide_eq_true (by kernel_rfl)) (by unfold Func.isWrapper; first | (rw [if_pos (by decide +kernel)]; kernel_rfl) | (rw [if_neg (by decide +kernel)]; exact ⟨rfl, rfl⟩))
    (fun os started H enc _ => lifted os started H enc)
#print axioms proved
end Go.Proofs.Ytpnojhcjaneleaa.clockWidths
