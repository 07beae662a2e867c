/- Around a time are just those that are near enough: SpanHolds answers true at every three numbers. No condition. -/
import Derived.Test.YtaoldfndidngbaaSpanZ
namespace Go.Proofs.Ytaoldfndidngbaa.spanHolds
open Go.ChangeShapes Go.WideShapes Go.ChangeAt Go.RowKit Go.Sp Go.Fl
set_option linter.unusedVariables false
set_option linter.unusedSimpArgs false

theorem wid_r64 (lo hi b : Int) : R64 (widL lo hi b) ∧ R64 (widH lo hi b) := by
  rcases wid_cases lo hi b with ⟨-, -, -, h1, h2, e1, e2⟩ | ⟨-, -, -, -, -, e1, e2⟩ | ⟨-, -, -, e1, e2⟩
  · rw [e1, e2]; refine ⟨r64 _ ?_, r64 _ ?_⟩ <;> split <;> omega
  · rw [e1, e2]; exact ⟨r64 _ (by omega), r64 _ (by omega)⟩
  · rw [e1, e2]; exact ⟨r64 _ (by omega), r64 _ (by omega)⟩
set_option maxHeartbeats 16000000 in
theorem walk (t : Int) (ht : -9223372036854775808 ≤ t ∧ t ≤ 9223372036854775807) (b : Int) (hb : -9223372036854775808 ≤ b ∧ b ≤ 9223372036854775807) (u : Int) (hu : -9223372036854775808 ≤ u ∧ u ≤ 9223372036854775807) (w : World) :
    Calls Try.prog 7 #[.int .i64 t, .int .i64 b, .int .i64 u] w fun e w' => e = .returned (.bool true) ∧ Below w.heap.size w w' := by
  have HA := Lib.hid (fun w0 => saround_any t b w0 (r64 t (by omega)) (r64 b (by omega)))
  have HT := Lib.hid (fun w0 => shas_any (widL t t b) (widH t t b) t w0 (wid_r64 t t b).1 (wid_r64 t t b).2 (r64 t (by omega)))
  have HU := Lib.hid (fun w0 => shas_any (widL t t b) (widH t t b) u w0 (wid_r64 t t b).1 (wid_r64 t t b).2 (r64 u (by omega)))
  have H0 := Lib.hid (St.start w)
  have key : (widE t t b ≠ 0) ∨ (widE t t b = 0 ∧ (u < 0 ∨ 0 ≤ u ∧ 1125899906842624 < u) ∧ hasB (widL t t b) (widH t t b) u = false) ∨
      (widE t t b = 0 ∧ 0 ≤ u ∧ u ≤ 1125899906842624 ∧ (0 ≤ t ∧ t ≤ 1125899906842624) ∧ hasB (widL t t b) (widH t t b) t = true ∧ ((u < t ∧ (t - u ≤ b ∧ hasB (widL t t b) (widH t t b) u = true ∨ b < t - u ∧ hasB (widL t t b) (widH t t b) u = false)) ∨
        (t ≤ u ∧ (u - t ≤ b ∧ hasB (widL t t b) (widH t t b) u = true ∨ b < u - t ∧ hasB (widL t t b) (widH t t b) u = false)))) := by
    rcases wid_cases t t b with ⟨e0, -, -, h1, h2, e1, e2⟩ | ⟨e0, -⟩ | ⟨e0, -⟩
    · right
      have hS : isS (widL t t b) (widH t t b) = true := by
        rw [isS_iff, e1, e2]
        refine ⟨?_, ?_, ?_⟩ <;> (repeat' split) <;> omega
      have hh : ∀ x : Int, hasB (widL t t b) (widH t t b) x = decide (widL t t b ≤ x ∧ x ≤ widH t t b) := fun x => by unfold hasB; rw [hS]; rfl
      have r1 : widL t t b = (if t ≤ b then 0 else t - b) := e1
      have r2 : widH t t b = (if t + b ≤ 1125899906842624 then t + b else 1125899906842624) := e2
      rw [hh u, hh t]
      simp only [decide_eq_true_eq, decide_eq_false_iff_not, e0, true_and]
      generalize widL t t b = x at *
      generalize widH t t b = y at *
      split at r1 <;> split at r2 <;> omega
    · exact .inl (by omega)
    · exact .inl (by omega)
  have HQ := Lib.hid (wid_r64 t t b)
  generalize widL t t b = L at *
  generalize widH t t b = M at *
  generalize widE t t b = E at *
  clear HQ
  rcases key with k1 | ⟨k1, k2 | ⟨k2, k3⟩, k4⟩ | ⟨k1, k2, k3, ⟨k10, k11⟩, k4, ⟨k5, ⟨k6, k7⟩ | ⟨k6, k7⟩⟩ | ⟨k5, ⟨k6, k7⟩ | ⟨k6, k7⟩⟩⟩
  · have q1 : (E != 0) = true := by simpa using k1
    clear k1 ht hb hu
    go_enter Try.func7, Try.ntmps7
    go_wp2_with fail
    refine (HA.out _).mono ?_
    rintro e w1 ⟨rfl, hc⟩
    replace H0 := Lib.hid (H0.out.call hc)
    clear hc
    go_wp2_with fail
    refine (awake_any _).mono ?_
    rintro e x ⟨rfl, hc⟩
    replace H0 := Lib.hid ((H0.out.alloc w1.heap.size rfl 23 #[.int .i64 L, .int .i64 M]).call hc)
    clear hc
    obtain ⟨c0, e0, d0, f0, z0⟩ := H0.out.two 0 w1.heap.size rfl
    go_wp2_with fail
    refine (awake_any _).mono ?_
    rintro e x ⟨rfl, hc⟩
    replace H0 := Lib.hid (H0.out.call hc)
    clear hc c0 e0 d0 f0 z0
    obtain ⟨c0, e0, d0, f0, z0⟩ := H0.out.two 0 w1.heap.size rfl
    go_wp2_with fail
    go_ret
    exact ⟨by first | rfl | (simp; omega), H0.out.below⟩
  · rw [k1] at HA
    rw [k4] at HU
    clear k1 k4
    go_enter Try.func7, Try.ntmps7
    go_wp2_with fail
    refine (HA.out _).mono ?_
    rintro e w1 ⟨rfl, hc⟩
    replace H0 := Lib.hid (H0.out.call hc)
    clear hc
    go_wp2_with fail
    refine (awake_any _).mono ?_
    rintro e x ⟨rfl, hc⟩
    replace H0 := Lib.hid ((H0.out.alloc w1.heap.size rfl 23 #[.int .i64 L, .int .i64 M]).call hc)
    clear hc
    obtain ⟨c0, e0, d0, f0, z0⟩ := H0.out.two 0 w1.heap.size rfl
    go_wp2_with fail
    refine (HU.out _).mono ?_
    rintro e x ⟨rfl, hc⟩
    replace H0 := Lib.hid (H0.out.call hc)
    clear hc c0 e0 d0 f0 z0
    obtain ⟨c0, e0, d0, f0, z0⟩ := H0.out.two 0 w1.heap.size rfl
    go_wp2_with fail
    go_ret
    exact ⟨by first | rfl | (simp; omega), H0.out.below⟩
  · rw [k1] at HA
    rw [k4] at HU
    clear k1 k4
    go_enter Try.func7, Try.ntmps7
    go_wp2_with fail
    refine (HA.out _).mono ?_
    rintro e w1 ⟨rfl, hc⟩
    replace H0 := Lib.hid (H0.out.call hc)
    clear hc
    go_wp2_with fail
    refine (awake_any _).mono ?_
    rintro e x ⟨rfl, hc⟩
    replace H0 := Lib.hid ((H0.out.alloc w1.heap.size rfl 23 #[.int .i64 L, .int .i64 M]).call hc)
    clear hc
    obtain ⟨c0, e0, d0, f0, z0⟩ := H0.out.two 0 w1.heap.size rfl
    go_wp2_with fail
    refine (HU.out _).mono ?_
    rintro e x ⟨rfl, hc⟩
    replace H0 := Lib.hid (H0.out.call hc)
    clear hc c0 e0 d0 f0 z0
    obtain ⟨c0, e0, d0, f0, z0⟩ := H0.out.two 0 w1.heap.size rfl
    go_wp2_with fail
    go_ret
    exact ⟨by first | rfl | (simp; omega), H0.out.below⟩
  · rw [k1] at HA
    rw [k4] at HT
    rw [k7] at HU
    clear k1 k4 k7
    go_enter Try.func7, Try.ntmps7
    go_wp2_with fail
    refine (HA.out _).mono ?_
    rintro e w1 ⟨rfl, hc⟩
    replace H0 := Lib.hid (H0.out.call hc)
    clear hc
    go_wp2_with fail
    refine (awake_any _).mono ?_
    rintro e x ⟨rfl, hc⟩
    replace H0 := Lib.hid ((H0.out.alloc w1.heap.size rfl 23 #[.int .i64 L, .int .i64 M]).call hc)
    clear hc
    obtain ⟨c0, e0, d0, f0, z0⟩ := H0.out.two 0 w1.heap.size rfl
    go_wp2_with fail
    refine (HT.out _).mono ?_
    rintro e x ⟨rfl, hc⟩
    replace H0 := Lib.hid (H0.out.call hc)
    clear hc c0 e0 d0 f0 z0
    obtain ⟨c0, e0, d0, f0, z0⟩ := H0.out.two 0 w1.heap.size rfl
    go_wp2_with fail
    refine (HU.out _).mono ?_
    rintro e x ⟨rfl, hc⟩
    replace H0 := Lib.hid (H0.out.call hc)
    clear hc c0 e0 d0 f0 z0
    obtain ⟨c0, e0, d0, f0, z0⟩ := H0.out.two 0 w1.heap.size rfl
    go_wp2_with fail
    go_ret
    exact ⟨by first | rfl | (simp; omega), H0.out.below⟩
  · rw [k1] at HA
    rw [k4] at HT
    rw [k7] at HU
    clear k1 k4 k7
    go_enter Try.func7, Try.ntmps7
    go_wp2_with fail
    refine (HA.out _).mono ?_
    rintro e w1 ⟨rfl, hc⟩
    replace H0 := Lib.hid (H0.out.call hc)
    clear hc
    go_wp2_with fail
    refine (awake_any _).mono ?_
    rintro e x ⟨rfl, hc⟩
    replace H0 := Lib.hid ((H0.out.alloc w1.heap.size rfl 23 #[.int .i64 L, .int .i64 M]).call hc)
    clear hc
    obtain ⟨c0, e0, d0, f0, z0⟩ := H0.out.two 0 w1.heap.size rfl
    go_wp2_with fail
    refine (HT.out _).mono ?_
    rintro e x ⟨rfl, hc⟩
    replace H0 := Lib.hid (H0.out.call hc)
    clear hc c0 e0 d0 f0 z0
    obtain ⟨c0, e0, d0, f0, z0⟩ := H0.out.two 0 w1.heap.size rfl
    go_wp2_with fail
    refine (HU.out _).mono ?_
    rintro e x ⟨rfl, hc⟩
    replace H0 := Lib.hid (H0.out.call hc)
    clear hc c0 e0 d0 f0 z0
    obtain ⟨c0, e0, d0, f0, z0⟩ := H0.out.two 0 w1.heap.size rfl
    go_wp2_with fail
    go_ret
    exact ⟨by first | rfl | (simp; omega), H0.out.below⟩
  · rw [k1] at HA
    rw [k4] at HT
    rw [k7] at HU
    clear k1 k4 k7
    go_enter Try.func7, Try.ntmps7
    go_wp2_with fail
    refine (HA.out _).mono ?_
    rintro e w1 ⟨rfl, hc⟩
    replace H0 := Lib.hid (H0.out.call hc)
    clear hc
    go_wp2_with fail
    refine (awake_any _).mono ?_
    rintro e x ⟨rfl, hc⟩
    replace H0 := Lib.hid ((H0.out.alloc w1.heap.size rfl 23 #[.int .i64 L, .int .i64 M]).call hc)
    clear hc
    obtain ⟨c0, e0, d0, f0, z0⟩ := H0.out.two 0 w1.heap.size rfl
    go_wp2_with fail
    refine (HT.out _).mono ?_
    rintro e x ⟨rfl, hc⟩
    replace H0 := Lib.hid (H0.out.call hc)
    clear hc c0 e0 d0 f0 z0
    obtain ⟨c0, e0, d0, f0, z0⟩ := H0.out.two 0 w1.heap.size rfl
    go_wp2_with fail
    refine (HU.out _).mono ?_
    rintro e x ⟨rfl, hc⟩
    replace H0 := Lib.hid (H0.out.call hc)
    clear hc c0 e0 d0 f0 z0
    obtain ⟨c0, e0, d0, f0, z0⟩ := H0.out.two 0 w1.heap.size rfl
    go_wp2_with fail
    go_ret
    exact ⟨by first | rfl | (simp; omega), H0.out.below⟩
  · rw [k1] at HA
    rw [k4] at HT
    rw [k7] at HU
    clear k1 k4 k7
    go_enter Try.func7, Try.ntmps7
    go_wp2_with fail
    refine (HA.out _).mono ?_
    rintro e w1 ⟨rfl, hc⟩
    replace H0 := Lib.hid (H0.out.call hc)
    clear hc
    go_wp2_with fail
    refine (awake_any _).mono ?_
    rintro e x ⟨rfl, hc⟩
    replace H0 := Lib.hid ((H0.out.alloc w1.heap.size rfl 23 #[.int .i64 L, .int .i64 M]).call hc)
    clear hc
    obtain ⟨c0, e0, d0, f0, z0⟩ := H0.out.two 0 w1.heap.size rfl
    go_wp2_with fail
    refine (HT.out _).mono ?_
    rintro e x ⟨rfl, hc⟩
    replace H0 := Lib.hid (H0.out.call hc)
    clear hc c0 e0 d0 f0 z0
    obtain ⟨c0, e0, d0, f0, z0⟩ := H0.out.two 0 w1.heap.size rfl
    go_wp2_with fail
    refine (HU.out _).mono ?_
    rintro e x ⟨rfl, hc⟩
    replace H0 := Lib.hid (H0.out.call hc)
    clear hc c0 e0 d0 f0 z0
    obtain ⟨c0, e0, d0, f0, z0⟩ := H0.out.two 0 w1.heap.size rfl
    go_wp2_with fail
    go_ret
    exact ⟨by first | rfl | (simp; omega), H0.out.below⟩

set_option maxRecDepth 100000 in
theorem lifted (os : Os) (started : os.Started) (H : Type) (enc : TypeId × Value → H) :
    ReturnsInHanded {} Try.checked os 7 .any (Rows.spanHoldsSpec.pre6 enc Try.prog Try.f7 Rows.spanHoldsRow.domain false) (Rows.spanHoldsSpec.post enc Try.prog Try.f7 false true false false) := by
  refine returnsInHanded_of_change (C := Try.checked) own started (by kernel_rfl) Try.func7
    (ChangeSpec.witness6 (enc := enc) (C := Try.checked) false ⟨#[], #[.int .i64 0, .int .i64 0, .int .i64 0], []⟩ 8 (by kernel_rfl) (by kernel_rfl) (by kernel_rfl) (by kernel_rfl)) ?_
  intro W base args ds gs before hval0 hW hcnd _
  have hval : ∀ (j : Nat) t v, Try.f7.params[j]? = some t → args[j]? = some v → Value.okWide Try.prog W .any base t v := hval0
  have hW' := hW
  obtain ⟨p, q, hA0, hV, rfl, hfz, hnd⟩ := hW
  have hA : DataW.TrodAll enc Try.prog W 0 (fun _ => true) true Try.f7.params.toList args.toList ds p := hA0
  rw [Try.params7] at hA hval
  obtain ⟨v0, vs0, d0, ds0, p0, q0, hargs, rfl, rfl, h0, r0⟩ := trodAll_cons hA
  obtain ⟨v1, vs1, d1, ds1, p1, q1, rfl, rfl, rfl, h1, r1⟩ := trodAll_cons r0
  obtain ⟨v2, vs2, d2, ds2, p2, q2, rfl, rfl, rfl, h2, r2⟩ := trodAll_cons r1
  obtain ⟨rfl, rfl, rfl⟩ := trodAll_nil r2
  obtain rfl : args = #[v0, v1, v2] := by cases args; simp_all
  obtain ⟨rfl, rfl⟩ := trodVars_none hV
  obtain ⟨a0, rfl⟩ := okWide_int Try.underlying2 (hval 0 2 v0 rfl rfl)
  have w0 : -9223372036854775808 ≤ a0 ∧ a0 ≤ 9223372036854775807 := by
    obtain ⟨m, hm⟩ := h0
    obtain ⟨s, hs, _, hl⟩ := DataW.trod_int Try.underlying2 hm
    simp [Value.cells] at hs
    rw [hs]; have := bounds_i64 hl; omega
  have lt0 : ∀ x ∈ p0, x.block < W.heap.size := by obtain ⟨m, hm⟩ := h0; exact DataW.trod_lt m _ _ _ hm
  obtain ⟨a1, rfl⟩ := okWide_int Try.underlying2 (hval 1 2 v1 rfl rfl)
  have w1 : -9223372036854775808 ≤ a1 ∧ a1 ≤ 9223372036854775807 := by
    obtain ⟨m, hm⟩ := h1
    obtain ⟨s, hs, _, hl⟩ := DataW.trod_int Try.underlying2 hm
    simp [Value.cells] at hs
    rw [hs]; have := bounds_i64 hl; omega
  have lt1 : ∀ x ∈ p1, x.block < W.heap.size := by obtain ⟨m, hm⟩ := h1; exact DataW.trod_lt m _ _ _ hm
  obtain ⟨a2, rfl⟩ := okWide_int Try.underlying2 (hval 2 2 v2 rfl rfl)
  have w2 : -9223372036854775808 ≤ a2 ∧ a2 ≤ 9223372036854775807 := by
    obtain ⟨m, hm⟩ := h2
    obtain ⟨s, hs, _, hl⟩ := DataW.trod_int Try.underlying2 hm
    simp [Value.cells] at hs
    rw [hs]; have := bounds_i64 hl; omega
  have lt2 : ∀ x ∈ p2, x.block < W.heap.size := by obtain ⟨m, hm⟩ := h2; exact DataW.trod_lt m _ _ _ hm
  clear hA0 hval0
  simp only [List.append_nil] at hW'
  refine (walk a0 w0 a1 w1 a2 w2 W ).mono fun e W' ⟨he, bel⟩ => ?_
  subst he
  exact ⟨_, rfl, _, _, _, [], _, [], hW', trodAll_mk1 (shut_bool Try.underlying4 _), (trodAll_cons_mk (Below.trod laidOut (by kernel_rfl) (of_decide_eq_true (by kernel_rfl)) h0 bel lt0) (trodAll_cons_mk (Below.trod laidOut (by kernel_rfl) (of_decide_eq_true (by kernel_rfl)) h1 bel lt1) (trodAll_cons_mk (Below.trod laidOut (by kernel_rfl) (of_decide_eq_true (by kernel_rfl)) h2 bel lt2) trodAll_mk0))), rfl, bel.frame _, fun h => by cases h⟩

theorem proved : Rows.SpanHoldsSaid :=
  OpenClaim.holds_of_wide 7 Try.f7 rfl rfl rfl rfl rfl rfl rfl ⟨rfl, rfl, rfl, rfl, rfl⟩ rfl rfl rfl rfl rfl (by kernel_rfl) Try.func7 (by kernel_rfl)
    (of_decide_eq_true (by kernel_rfl)) (by unfold Func.isWrapper; first | (rw [if_pos (by decide +kernel)]; kernel_rfl) | (rw [if_neg (by decide +kernel)]; exact ⟨rfl, rfl⟩))
    (fun os started H enc _ => lifted os started H enc)
#print axioms proved
end Go.Proofs.Ytaoldfndidngbaa.spanHolds
