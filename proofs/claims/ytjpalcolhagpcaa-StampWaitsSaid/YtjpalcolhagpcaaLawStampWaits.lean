/- How long is to be waited, of every time and span, is what the document says, or refused for its reason, and just enough; for every input, without conditions. -/
import Derived.Test.YtjpalcolhagpcaaStmpO
namespace Go.Proofs.Ytjpalcolhagpcaa.stampWaits
open Go.ChangeShapes Go.WideShapes Go.ChangeAt Go.RowKit Go.Sp Go.Fl Go.Ck Go.Tp
set_option linter.unusedVariables false
set_option linter.unusedSimpArgs false

set_option maxHeartbeats 8000000 in
set_option maxRecDepth 100000 in
theorem walk (t : Int) (ht : -9223372036854775808 ≤ t ∧ t ≤ 9223372036854775807) (lo hi : Int) (hs : R64 lo ∧ R64 hi) (w : World) :
    Calls Try.prog 4 #[.int .i64 t, .agg #[.int .i64 lo, .int .i64 hi]] w fun r w' => r = .returned (.bool true) ∧ Below w.heap.size w w' := by
  have HA := Lib.hid (fun w0 => wait_any t lo hi hs.1 hs.2 w0)
  have HB := Lib.hid (fun w0 => rwait_any t lo hi w0)
  have H := Lib.hid ((St.start w).alloc w.heap.size rfl 28 #[.int .i64 lo, .int .i64 hi])
  clear hs ht
  have key : (waitE t lo hi = 0 ∧ (1 ≤ t ∧ t ≤ 1125899906842624) ∧ (0 ≤ lo ∧ lo ≤ 1125899906842624) ∧ ((t < lo ∧ waitV t lo hi = 0) ∨ (lo ≤ t ∧ waitV t lo hi = t - lo + 1))) ∨ (waitE t lo hi = 100 ∧ waitV t lo hi = 0) := by
    rcases wait_cases t lo hi with ⟨e1, e2, e3, e4⟩ | ⟨e1, e2, e3, e4⟩ | ⟨e1, e3, e4⟩
    · have := (isS_iff _ _).1 e2
      have := (isK_iff _).1 e1
      exact .inl ⟨e3, by omega, by omega, e4⟩
    · exact .inr ⟨e3, e4⟩
    · exact .inr ⟨e3, e4⟩
  generalize waitE t lo hi = E at *
  generalize waitV t lo hi = V at *
  rcases key with ⟨rfl, k1, k2, ⟨k3, rfl⟩ | ⟨k3, rfl⟩⟩ | ⟨rfl, rfl⟩
  all_goals
    obtain ⟨c0, c1, d0, d1, z0⟩ := H.out.two 0 w.heap.size rfl
    go_enter Try.func4, Try.ntmps4
    go_wp2_with fail
    refine (HA.out _).mono ?_
    rintro r w1 ⟨rfl, hb1⟩
    replace H := Lib.hid (H.out.call hb1)
    clear hb1 c0 c1 d0 d1 z0
    obtain ⟨c0, c1, d0, d1, z0⟩ := H.out.two 0 w.heap.size rfl
    go_wp2_with fail
    refine (HB.out _).mono ?_
    rintro r w2 ⟨rfl, hb1⟩
    replace H := Lib.hid (H.out.call hb1)
    clear hb1 c0 c1 d0 d1 z0
    go_wp2_with fail
    refine (sawake_any _).mono ?_
    rintro r w3 ⟨rfl, hb1⟩
    replace H := Lib.hid (H.out.call hb1)
    clear hb1
    obtain ⟨c0, c1, d0, d1, z0⟩ := H.out.two 0 w.heap.size rfl
    go_wp2_with fail
    go_ret
    exact ⟨by first | rfl | (simp; done) | (simp; omega), H.out.below⟩

set_option maxRecDepth 100000 in
theorem lifted (os : Os) (started : os.Started) (H : Type) (enc : TypeId × Value → H) :
    ReturnsInHanded {} Try.checked os 4 .any (Rows.stampWaitsSpec.pre6 enc Try.prog Try.f4 Rows.stampWaitsRow.domain false) (Rows.stampWaitsSpec.post enc Try.prog Try.f4 false true false false) := by
  refine returnsInHanded_of_change (C := Try.checked) own started (by kernel_rfl) Try.func4
    (ChangeSpec.witness6 (enc := enc) (C := Try.checked) false ⟨#[], #[.int .i64 0, .agg #[.int .i64 0, .int .i64 0]], []⟩ 8 (by kernel_rfl) (by kernel_rfl) (by kernel_rfl) (by kernel_rfl)) ?_
  intro W base args ds gs before hval0 hW hcnd _
  have hval : ∀ (j : Nat) t v, Try.f4.params[j]? = some t → args[j]? = some v → Value.okWide Try.prog W .any base t v := hval0
  have hW' := hW
  obtain ⟨p, q, hA0, hV, rfl, hfz, hnd⟩ := hW
  have hA : DataW.TrodAll enc Try.prog W 0 (fun _ => true) true Try.f4.params.toList args.toList ds p := hA0
  rw [Try.params4] at hA hval
  obtain ⟨v0, vs0, d0, ds0, p0, q0, hargs, rfl, rfl, h0, r0⟩ := trodAll_cons hA
  obtain ⟨v1, vs1, d1, ds1, p1, q1, rfl, rfl, rfl, h1, r1⟩ := trodAll_cons r0
  obtain ⟨rfl, rfl, rfl⟩ := trodAll_nil r1
  obtain rfl : args = #[v0, v1] := by cases args; simp_all
  obtain ⟨rfl, rfl⟩ := trodVars_none hV
  obtain ⟨a0, rfl⟩ := okWide_int Try.underlying2 (hval 0 2 v0 rfl rfl)
  have w0 : -9223372036854775808 ≤ a0 ∧ a0 ≤ 9223372036854775807 := by
    obtain ⟨m, hm⟩ := h0
    obtain ⟨s, hs, _, hl⟩ := DataW.trod_int Try.underlying2 hm
    simp [Value.cells] at hs
    rw [hs]; have := bounds_i64 hl; omega
  have lt0 : ∀ x ∈ p0, x.block < W.heap.size := by obtain ⟨m, hm⟩ := h0; exact DataW.trod_lt m _ _ _ hm
  obtain ⟨a1, b1, rfl, w1⟩ := open_span (hval 1 28 v1 rfl rfl) h1
  have lt1 : ∀ x ∈ p1, x.block < W.heap.size := by obtain ⟨m, hm⟩ := h1; exact DataW.trod_lt m _ _ _ hm
  clear hA0 hval0
  simp only [List.append_nil] at hW'
  refine (walk a0 w0 a1 b1 w1 W ).mono fun e W' ⟨he, bel⟩ => ?_
  subst he
  exact ⟨_, rfl, _, _, _, [], _, [], hW', trodAll_mk1 (shut_bool Try.underlying4 _), (trodAll_cons_mk (Below.trod laidOut (by kernel_rfl) (of_decide_eq_true (by kernel_rfl)) h0 bel lt0) (trodAll_cons_mk (Below.trod laidOut (by kernel_rfl) (of_decide_eq_true (by kernel_rfl)) h1 bel lt1) trodAll_mk0)), rfl, bel.frame _, fun h => by cases h⟩

theorem proved : Rows.StampWaitsSaid :=
  OpenClaim.holds_of_wide 4 Try.f4 rfl rfl rfl rfl rfl rfl rfl ⟨rfl, rfl, rfl, rfl, rfl⟩ rfl rfl rfl rfl rfl (by kernel_rfl) Try.func4 (by kernel_rfl)
    (of_decide_eq_true (by kernel_rfl)) (by unfold Func.isWrapper; first | (rw [if_pos (by decide +kernel)]; kernel_rfl) | (rw [if_neg (by decide +kernel)]; exact ⟨rfl, rfl⟩))
    (fun os started H enc _ => lifted os started H enc)
#print axioms proved
end Go.Proofs.Ytjpalcolhagpcaa.stampWaits
