/- More time makes no narrower span: SpanWider answers true at every span and every time. No condition. -/
import Derived.Test.YtaoldfndidngbaaSpanZ
namespace Go.Proofs.Ytaoldfndidngbaa.spanWider
open Go.ChangeShapes Go.WideShapes Go.ChangeAt Go.RowKit Go.Sp Go.Fl
set_option linter.unusedVariables false
set_option linter.unusedSimpArgs false

theorem dri_r64 (lo hi n : Int) (x : Nat) : R64 (driL lo hi n x) ∧ R64 (driH lo hi n x) := by
  rcases dri_cases lo hi n x with ⟨-, -, -, -, e1, e2, e3⟩ | ⟨-, -, -, -, e1, e2⟩ | ⟨-, -, -, e1, e2⟩ | ⟨-, -, e1, e2⟩
  · rw [e1, e2]
    rcases wid_cases lo hi (moreT n x) with ⟨-, -, -, h1, h2, e1, e2⟩ | ⟨-, -, -, -, -, e1, e2⟩ | ⟨-, -, -, e1, e2⟩
    · rw [e1, e2]; refine ⟨r64 _ ?_, r64 _ ?_⟩ <;> split <;> omega
    · rw [e1, e2]; exact ⟨r64 _ (by omega), r64 _ (by omega)⟩
    · rw [e1, e2]; exact ⟨r64 _ (by omega), r64 _ (by omega)⟩
  · rw [e1, e2]; exact ⟨r64 _ (by omega), r64 _ (by omega)⟩
  · rw [e1, e2]; exact ⟨r64 _ (by omega), r64 _ (by omega)⟩
  · rw [e1, e2]; exact ⟨r64 _ (by omega), r64 _ (by omega)⟩
theorem wider (lo hi n m : Int) (x : Nat) (h1 : driE lo hi n x = 0) (h2 : driE lo hi m x = 0) (h : n ≤ m) :
    driL lo hi m x ≤ driL lo hi n x ∧ driL lo hi n x ≤ lo ∧ hi ≤ driH lo hi n x ∧ driH lo hi n x ≤ driH lo hi m x ∧ chkS (driL lo hi n x) (driH lo hi n x) = 0 ∧ chkS (driL lo hi m x) (driH lo hi m x) = 0 := by
  rcases dri_cases lo hi n x with ⟨-, -, -, hr, e1, e2, e3⟩ | ⟨e, -⟩ | ⟨e, -⟩ | ⟨e, -⟩
  · rcases dri_cases lo hi m x with ⟨-, -, -, -, f1, f2, f3⟩ | ⟨e, -⟩ | ⟨e, -⟩ | ⟨e, -⟩
    · rw [e1, e2, f1, f2]
      have hm := more_rises n m x h hr
      rcases wid_cases lo hi (moreT n x) with ⟨-, -, -, p1, p2, g1, g2⟩ | ⟨e, -⟩ | ⟨e, -⟩
      · rcases wid_cases lo hi (moreT m x) with ⟨-, -, -, q1, q2, i1, i2⟩ | ⟨e, -⟩ | ⟨e, -⟩
        · have c1 : isS (widL lo hi (moreT n x)) (widH lo hi (moreT n x)) = true := by
            rw [isS_iff, g1, g2]; refine ⟨?_, ?_, ?_⟩ <;> (repeat' split) <;> omega
          have c2 : isS (widL lo hi (moreT m x)) (widH lo hi (moreT m x)) = true := by
            rw [isS_iff, i1, i2]; refine ⟨?_, ?_, ?_⟩ <;> (repeat' split) <;> omega
          unfold chkS
          rw [c1, c2, g1, g2, i1, i2]
          refine ⟨?_, ?_, ?_, ?_, rfl, rfl⟩ <;> (repeat' split) <;> omega
        · omega
        · omega
      · omega
      · omega
    · omega
    · omega
    · omega
  · omega
  · omega
  · omega
set_option maxHeartbeats 16000000 in
theorem walk (lo hi : Int) (hs : R64 lo ∧ R64 hi) (n m : Int) (x : Nat) (ht : R64 n ∧ R64 m ∧ x < 18446744073709551616) (w : World) :
    Calls Try.prog 10 #[.agg #[.int .i64 lo, .int .i64 hi], .agg #[.int .i64 n, .int .i64 m, .float .f64 x]] w fun e w' => e = .returned (.bool true) ∧ Below w.heap.size w w' := by
  have HA := Lib.hid (fun w0 => sdrift_any lo hi n x ht.2.2 w0 hs.1 hs.2 ht.1)
  have HB := Lib.hid (fun w0 => sdrift_any lo hi m x ht.2.2 w0 hs.1 hs.2 ht.2.1)
  have HX := Lib.hid (fun w0 => scheck_any (driL lo hi n x) (driH lo hi n x) w0 (dri_r64 lo hi n x).1 (dri_r64 lo hi n x).2)
  have HY := Lib.hid (fun w0 => scheck_any (driL lo hi m x) (driH lo hi m x) w0 (dri_r64 lo hi m x).1 (dri_r64 lo hi m x).2)
  have H0 := Lib.hid (((St.start w).alloc w.heap.size rfl 23 #[.int .i64 lo, .int .i64 hi]).alloc (w.heap.size + 1) (by simp) 47 #[.int .i64 n, .int .i64 m, .float .f64 x])
  have key : (driE lo hi n x ≠ 0) ∨ (driE lo hi n x = 0 ∧ driE lo hi m x ≠ 0) ∨ (driE lo hi n x = 0 ∧ driE lo hi m x = 0 ∧ m < n) ∨ (driE lo hi n x = 0 ∧ driE lo hi m x = 0 ∧ n ≤ m ∧ driL lo hi m x ≤ driL lo hi n x ∧ driL lo hi n x ≤ lo ∧ hi ≤ driH lo hi n x ∧ driH lo hi n x ≤ driH lo hi m x ∧ chkS (driL lo hi n x) (driH lo hi n x) = 0 ∧ chkS (driL lo hi m x) (driH lo hi m x) = 0) := by
    by_cases a : driE lo hi n x = 0
    · by_cases b : driE lo hi m x = 0
      · rcases Int.lt_or_le m n with h | h
        · exact .inr (.inr (.inl ⟨a, b, h⟩))
        · exact .inr (.inr (.inr ⟨a, b, h, wider lo hi n m x a b h⟩))
      · exact .inr (.inl ⟨a, b⟩)
    · exact .inl a
  clear hs ht
  generalize chkS (driL lo hi n x) (driH lo hi n x) = c1 at *
  generalize chkS (driL lo hi m x) (driH lo hi m x) = c2 at *
  generalize driL lo hi n x = L at *
  generalize driH lo hi n x = M at *
  generalize driE lo hi n x = E at *
  generalize driL lo hi m x = L' at *
  generalize driH lo hi m x = M' at *
  generalize driE lo hi m x = E' at *
  rcases key with k1 | ⟨k1, k2⟩ | ⟨k1, k2, k3⟩ | ⟨k1, k2, k3, k4, k5, k6, k7, k8, k9⟩
  · have q1 : (E != 0) = true := by simpa using k1
    clear k1
    go_enter Try.func10, Try.ntmps10
    go_wp2_with fail
    refine (HA.out _).mono ?_
    rintro e w1 ⟨rfl, hc⟩
    replace H0 := Lib.hid (H0.out.call hc)
    clear hc
    obtain ⟨tc0, tc1, tc2, tz⟩ := H0.out.knows.three 0 (w.heap.size + 1) rfl
    obtain ⟨c1, e1, d1, f1, z1⟩ := H0.out.two 1 w.heap.size rfl
    go_wp2_with fail
    refine (HB.out _).mono ?_
    rintro e w2 ⟨rfl, hc⟩
    replace H0 := Lib.hid ((H0.out.alloc w1.heap.size rfl 23 #[.int .i64 L, .int .i64 M]).call hc)
    clear hc tc0 tc1 tc2 tz c1 e1 d1 f1 z1
    go_wp2_with fail
    refine (awake_any _).mono ?_
    rintro e x ⟨rfl, hc⟩
    replace H0 := Lib.hid ((H0.out.alloc w2.heap.size rfl 23 #[.int .i64 L', .int .i64 M']).call hc)
    clear hc
    obtain ⟨c0, e0, d0, f0, z0⟩ := H0.out.two 0 w2.heap.size rfl
    obtain ⟨c1, e1, d1, f1, z1⟩ := H0.out.two 1 w1.heap.size rfl
    obtain ⟨c3, e3, d3, f3, z3⟩ := H0.out.two 3 w.heap.size rfl
    obtain ⟨tc0, tc1, tc2, tz⟩ := H0.out.knows.three 2 (w.heap.size + 1) rfl
    go_wp2_with fail
    refine (awake_any _).mono ?_
    rintro e x ⟨rfl, hc⟩
    replace H0 := Lib.hid (H0.out.call hc)
    clear hc tc0 tc1 tc2 tz c0 e0 d0 f0 z0 c1 e1 d1 f1 z1 c3 e3 d3 f3 z3
    obtain ⟨c0, e0, d0, f0, z0⟩ := H0.out.two 0 w2.heap.size rfl
    obtain ⟨c1, e1, d1, f1, z1⟩ := H0.out.two 1 w1.heap.size rfl
    obtain ⟨c3, e3, d3, f3, z3⟩ := H0.out.two 3 w.heap.size rfl
    obtain ⟨tc0, tc1, tc2, tz⟩ := H0.out.knows.three 2 (w.heap.size + 1) rfl
    go_wp2_with fail
    go_ret
    exact ⟨by first | rfl | (simp; omega), H0.out.below⟩
  · rw [k1] at HA
    have q1 : (E' != 0) = true := by simpa using k2
    clear k1 k2
    go_enter Try.func10, Try.ntmps10
    go_wp2_with fail
    refine (HA.out _).mono ?_
    rintro e w1 ⟨rfl, hc⟩
    replace H0 := Lib.hid (H0.out.call hc)
    clear hc
    obtain ⟨tc0, tc1, tc2, tz⟩ := H0.out.knows.three 0 (w.heap.size + 1) rfl
    obtain ⟨c1, e1, d1, f1, z1⟩ := H0.out.two 1 w.heap.size rfl
    go_wp2_with fail
    refine (HB.out _).mono ?_
    rintro e w2 ⟨rfl, hc⟩
    replace H0 := Lib.hid ((H0.out.alloc w1.heap.size rfl 23 #[.int .i64 L, .int .i64 M]).call hc)
    clear hc tc0 tc1 tc2 tz c1 e1 d1 f1 z1
    go_wp2_with fail
    refine (awake_any _).mono ?_
    rintro e x ⟨rfl, hc⟩
    replace H0 := Lib.hid ((H0.out.alloc w2.heap.size rfl 23 #[.int .i64 L', .int .i64 M']).call hc)
    clear hc
    obtain ⟨c0, e0, d0, f0, z0⟩ := H0.out.two 0 w2.heap.size rfl
    obtain ⟨c1, e1, d1, f1, z1⟩ := H0.out.two 1 w1.heap.size rfl
    obtain ⟨c3, e3, d3, f3, z3⟩ := H0.out.two 3 w.heap.size rfl
    obtain ⟨tc0, tc1, tc2, tz⟩ := H0.out.knows.three 2 (w.heap.size + 1) rfl
    go_wp2_with fail
    refine (awake_any _).mono ?_
    rintro e x ⟨rfl, hc⟩
    replace H0 := Lib.hid (H0.out.call hc)
    clear hc tc0 tc1 tc2 tz c0 e0 d0 f0 z0 c1 e1 d1 f1 z1 c3 e3 d3 f3 z3
    obtain ⟨c0, e0, d0, f0, z0⟩ := H0.out.two 0 w2.heap.size rfl
    obtain ⟨c1, e1, d1, f1, z1⟩ := H0.out.two 1 w1.heap.size rfl
    obtain ⟨c3, e3, d3, f3, z3⟩ := H0.out.two 3 w.heap.size rfl
    obtain ⟨tc0, tc1, tc2, tz⟩ := H0.out.knows.three 2 (w.heap.size + 1) rfl
    go_wp2_with fail
    go_ret
    exact ⟨by first | rfl | (simp; omega), H0.out.below⟩
  · rw [k1] at HA
    rw [k2] at HB
    clear k1 k2
    go_enter Try.func10, Try.ntmps10
    go_wp2_with fail
    refine (HA.out _).mono ?_
    rintro e w1 ⟨rfl, hc⟩
    replace H0 := Lib.hid (H0.out.call hc)
    clear hc
    obtain ⟨tc0, tc1, tc2, tz⟩ := H0.out.knows.three 0 (w.heap.size + 1) rfl
    obtain ⟨c1, e1, d1, f1, z1⟩ := H0.out.two 1 w.heap.size rfl
    go_wp2_with fail
    refine (HB.out _).mono ?_
    rintro e w2 ⟨rfl, hc⟩
    replace H0 := Lib.hid ((H0.out.alloc w1.heap.size rfl 23 #[.int .i64 L, .int .i64 M]).call hc)
    clear hc tc0 tc1 tc2 tz c1 e1 d1 f1 z1
    go_wp2_with fail
    refine (awake_any _).mono ?_
    rintro e x ⟨rfl, hc⟩
    replace H0 := Lib.hid ((H0.out.alloc w2.heap.size rfl 23 #[.int .i64 L', .int .i64 M']).call hc)
    clear hc
    obtain ⟨c0, e0, d0, f0, z0⟩ := H0.out.two 0 w2.heap.size rfl
    obtain ⟨c1, e1, d1, f1, z1⟩ := H0.out.two 1 w1.heap.size rfl
    obtain ⟨c3, e3, d3, f3, z3⟩ := H0.out.two 3 w.heap.size rfl
    obtain ⟨tc0, tc1, tc2, tz⟩ := H0.out.knows.three 2 (w.heap.size + 1) rfl
    go_wp2_with fail
    refine (awake_any _).mono ?_
    rintro e x ⟨rfl, hc⟩
    replace H0 := Lib.hid (H0.out.call hc)
    clear hc tc0 tc1 tc2 tz c0 e0 d0 f0 z0 c1 e1 d1 f1 z1 c3 e3 d3 f3 z3
    obtain ⟨c0, e0, d0, f0, z0⟩ := H0.out.two 0 w2.heap.size rfl
    obtain ⟨c1, e1, d1, f1, z1⟩ := H0.out.two 1 w1.heap.size rfl
    obtain ⟨c3, e3, d3, f3, z3⟩ := H0.out.two 3 w.heap.size rfl
    obtain ⟨tc0, tc1, tc2, tz⟩ := H0.out.knows.three 2 (w.heap.size + 1) rfl
    go_wp2_with fail
    go_ret
    exact ⟨by first | rfl | (simp; omega), H0.out.below⟩
  · rw [k1] at HA
    rw [k2] at HB
    rw [k8] at HX
    rw [k9] at HY
    clear k1 k2 k8 k9
    go_enter Try.func10, Try.ntmps10
    go_wp2_with fail
    refine (HA.out _).mono ?_
    rintro e w1 ⟨rfl, hc⟩
    replace H0 := Lib.hid (H0.out.call hc)
    clear hc
    obtain ⟨tc0, tc1, tc2, tz⟩ := H0.out.knows.three 0 (w.heap.size + 1) rfl
    obtain ⟨c1, e1, d1, f1, z1⟩ := H0.out.two 1 w.heap.size rfl
    go_wp2_with fail
    refine (HB.out _).mono ?_
    rintro e w2 ⟨rfl, hc⟩
    replace H0 := Lib.hid ((H0.out.alloc w1.heap.size rfl 23 #[.int .i64 L, .int .i64 M]).call hc)
    clear hc tc0 tc1 tc2 tz c1 e1 d1 f1 z1
    go_wp2_with fail
    refine (awake_any _).mono ?_
    rintro e x ⟨rfl, hc⟩
    replace H0 := Lib.hid ((H0.out.alloc w2.heap.size rfl 23 #[.int .i64 L', .int .i64 M']).call hc)
    clear hc
    obtain ⟨c0, e0, d0, f0, z0⟩ := H0.out.two 0 w2.heap.size rfl
    obtain ⟨c1, e1, d1, f1, z1⟩ := H0.out.two 1 w1.heap.size rfl
    obtain ⟨c3, e3, d3, f3, z3⟩ := H0.out.two 3 w.heap.size rfl
    obtain ⟨tc0, tc1, tc2, tz⟩ := H0.out.knows.three 2 (w.heap.size + 1) rfl
    go_wp2_with fail
    refine (HX.out _).mono ?_
    rintro e x ⟨rfl, hc⟩
    replace H0 := Lib.hid (H0.out.call hc)
    clear hc tc0 tc1 tc2 tz c0 e0 d0 f0 z0 c1 e1 d1 f1 z1 c3 e3 d3 f3 z3
    obtain ⟨c0, e0, d0, f0, z0⟩ := H0.out.two 0 w2.heap.size rfl
    obtain ⟨c1, e1, d1, f1, z1⟩ := H0.out.two 1 w1.heap.size rfl
    obtain ⟨c3, e3, d3, f3, z3⟩ := H0.out.two 3 w.heap.size rfl
    obtain ⟨tc0, tc1, tc2, tz⟩ := H0.out.knows.three 2 (w.heap.size + 1) rfl
    go_wp2_with fail
    refine (HY.out _).mono ?_
    rintro e x ⟨rfl, hc⟩
    replace H0 := Lib.hid (H0.out.call hc)
    clear hc tc0 tc1 tc2 tz c0 e0 d0 f0 z0 c1 e1 d1 f1 z1 c3 e3 d3 f3 z3
    obtain ⟨c0, e0, d0, f0, z0⟩ := H0.out.two 0 w2.heap.size rfl
    obtain ⟨c1, e1, d1, f1, z1⟩ := H0.out.two 1 w1.heap.size rfl
    obtain ⟨c3, e3, d3, f3, z3⟩ := H0.out.two 3 w.heap.size rfl
    obtain ⟨tc0, tc1, tc2, tz⟩ := H0.out.knows.three 2 (w.heap.size + 1) rfl
    go_wp2_with fail
    go_ret
    exact ⟨by first | rfl | (simp; omega), H0.out.below⟩

set_option maxRecDepth 100000 in
theorem lifted (os : Os) (started : os.Started) (H : Type) (enc : TypeId × Value → H) :
    ReturnsInHanded {} Try.checked os 10 .any (Rows.spanWiderSpec.pre6 enc Try.prog Try.f10 Rows.spanWiderRow.domain false) (Rows.spanWiderSpec.post enc Try.prog Try.f10 false true false false) := by
  refine returnsInHanded_of_change (C := Try.checked) own started (by kernel_rfl) Try.func10
    (ChangeSpec.witness6 (enc := enc) (C := Try.checked) false ⟨#[], #[.agg #[.int .i64 0, .int .i64 0], .agg #[.int .i64 0, .int .i64 0, .float .f64 0]], []⟩ 8 (by kernel_rfl) (by kernel_rfl) (by kernel_rfl) (by kernel_rfl)) ?_
  intro W base args ds gs before hval0 hW hcnd _
  have hval : ∀ (j : Nat) t v, Try.f10.params[j]? = some t → args[j]? = some v → Value.okWide Try.prog W .any base t v := hval0
  have hW' := hW
  obtain ⟨p, q, hA0, hV, rfl, hfz, hnd⟩ := hW
  have hA : DataW.TrodAll enc Try.prog W 0 (fun _ => true) true Try.f10.params.toList args.toList ds p := hA0
  rw [Try.params10] at hA hval
  obtain ⟨v0, vs0, d0, ds0, p0, q0, hargs, rfl, rfl, h0, r0⟩ := trodAll_cons hA
  obtain ⟨v1, vs1, d1, ds1, p1, q1, rfl, rfl, rfl, h1, r1⟩ := trodAll_cons r0
  obtain ⟨rfl, rfl, rfl⟩ := trodAll_nil r1
  obtain rfl : args = #[v0, v1] := by cases args; simp_all
  obtain ⟨rfl, rfl⟩ := trodVars_none hV
  obtain ⟨a0, b0, rfl, w0⟩ := open_span (hval 0 23 v0 rfl rfl) h0
  have lt0 : ∀ x ∈ p0, x.block < W.heap.size := by obtain ⟨m, hm⟩ := h0; exact DataW.trod_lt m _ _ _ hm
  obtain ⟨a1, b1, f1, rfl, w1⟩ := open_time (hval 1 47 v1 rfl rfl) h1
  have lt1 : ∀ x ∈ p1, x.block < W.heap.size := by obtain ⟨m, hm⟩ := h1; exact DataW.trod_lt m _ _ _ hm
  clear hA0 hval0
  simp only [List.append_nil] at hW'
  refine (walk a0 b0 w0 a1 b1 f1 w1 W ).mono fun e W' ⟨he, bel⟩ => ?_
  subst he
  exact ⟨_, rfl, _, _, _, [], _, [], hW', trodAll_mk1 (shut_bool Try.underlying4 _), (trodAll_cons_mk (Below.trod laidOut (by kernel_rfl) (of_decide_eq_true (by kernel_rfl)) h0 bel lt0) (trodAll_cons_mk (Below.trod laidOut (by kernel_rfl) (of_decide_eq_true (by kernel_rfl)) h1 bel lt1) trodAll_mk0)), rfl, bel.frame _, fun h => by cases h⟩

theorem proved : Rows.SpanWiderSaid :=
  OpenClaim.holds_of_wide 10 Try.f10 rfl rfl rfl rfl rfl rfl rfl ⟨rfl, rfl, rfl, rfl, rfl⟩ rfl rfl rfl rfl rfl (by kernel_rfl) Try.func10 (by kernel_rfl)
    (of_decide_eq_true (by kernel_rfl)) (by unfold Func.isWrapper; first | (rw [if_pos (by decide +kernel)]; kernel_rfl) | (rw [if_neg (by decide +kernel)]; exact ⟨rfl, rfl⟩))
    (fun os started H enc _ => lifted os started H enc)
#print axioms proved
end Go.Proofs.Ytaoldfndidngbaa.spanWider
