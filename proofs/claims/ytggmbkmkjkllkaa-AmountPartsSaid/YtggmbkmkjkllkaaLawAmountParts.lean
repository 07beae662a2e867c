/- Parts come to the amount; the greater ones stand ahead, and none is more than one above another one: AmountParts answers true at every two numbers. No condition. -/
import Derived.Test.YtggmbkmkjkllkaaAmtZ
namespace Go.Proofs.Ytggmbkmkjkllkaa.amountParts
open Go.ChangeShapes Go.WideShapes Go.ChangeAt Go.RowKit Go.Am Go.Fl
set_option linter.unusedVariables false
set_option linter.unusedSimpArgs false

/-- The lexical walk behind a wall: it is not unfolded (a run of operations that are left out is not reckoned through by itself). -/
structure WQ (P : Program) (ops : Array Oper) (C : World → Prop) (Q : Act → Prop) (l : List Oper) (a : Act) : Prop where
  out : wpQuiet P ops C Q l a
theorem WQ.step {P : Program} {ops : Array Oper} {C : World → Prop} {Q : Act → Prop} {a : Act} {o : Oper} {rest : List Oper}
    (h : ∀ K : Act → Prop, (∀ a, WQ P ops C Q rest a → K a) → if Region.wanted o (yielded ops a.tmps) then o.quiet P a C K else K (a.put o.dst undef)) : WQ P ops C Q (o :: rest) a :=
  ⟨wpQuiet_step fun K hK => h K fun a hw => hK a hw.out⟩
theorem WQ.nil {P : Program} {ops : Array Oper} {C : World → Prop} {Q : Act → Prop} {a : Act} (h : Q a) : WQ P ops C Q [] a := ⟨wpQuiet_nil h⟩
theorem split_zero (n p : Int) : (splitE n p = 0 ∧ 0 ≤ n ∧ n ≤ 1000000000000000 ∧ 1 ≤ p ∧ p ≤ 1000 ∧ splitV n p = parts n p.toNat) ∨ (splitE n p ≠ 0 ∧ splitV n p = []) := by
  unfold splitV
  by_cases h : splitE n p = 0
  · rw [if_pos h]
    left
    have h2 := h
    unfold splitE at h2
    split at h2
    · rename_i hi
      split at h2
      · rename_i hp
        have := (isA_iff n).1 hi
        exact ⟨h, this.1, this.2, hp.1, hp.2, rfl⟩
      · omega
    · omega
  · rw [if_neg h]; exact .inr ⟨h, rfl⟩
set_option maxHeartbeats 8000000 in
theorem walk (n : Int) (hn : -9223372036854775808 ≤ n ∧ n ≤ 9223372036854775807) (p : Int) (hp : -9223372036854775808 ≤ p ∧ p ≤ 9223372036854775807) (w : World) :
    Calls Try.prog 7 #[.int .i64 n, .int .i64 p] w fun e w' => e = .returned (.bool true) ∧ Below w.heap.size w w' := by
  have H1 := Lib.hid (fun w0 => asplit_any n p w0)
  rcases split_zero n p with ⟨he, n0, n1, p1, p2, hv⟩ | ⟨he, hv⟩
  · obtain ⟨P, rfl⟩ : ∃ P : Nat, p = P := ⟨p.toNat, by omega⟩
    rw [Int.toNat_natCast] at hv
    rw [he, hv] at H1
    clear he hv hn hp
    have hpl := parts_length n P
    go_enter Try.func7, Try.ntmps7
    go_wp2_with fail
    refine (H1.out _).mono ?_
    rintro e w1 ⟨v1, rfl, ho1, hb1⟩
    obtain ⟨A1, c1, rfl, hc11, hc12, -⟩ := own_slice0 ho1
    rw [hpl] at hc11 ⊢
    have HB1 := Lib.hid hb1
    have hx1 := ho1.sees rfl
    rw [hpl] at hx1
    have HX1 := Lib.hid hx1
    have hz1 := hb1.size
    clear ho1 hb1 hx1 hpl
    go_wp2_with fail
    refine (awake_any _).mono ?_
    rintro e w2 ⟨rfl, hb2⟩
    have HB2 := Lib.hid (HB1.out.trans (hb2.mono HB1.out.size))
    have HX2 := Lib.hid (HX1.out.below hb2)
    clear hb2
    go_wp2_with fail
    go_loopw [7, 8] (fun s i wr => ∃ k : Nat, k ≤ P ∧ i = .int .i64 (k : Int) ∧ s = .int .i64 (n - left n P k) ∧ Below w.heap.size w wr ∧ Sees wr w1.heap.size 1 A1 P (vals (parts n P))) (fun _ i _ => P - (intOf i).toNat)
    case atStart => exact ⟨0, by omega, rfl, by rw [left_zero n P n0 (by omega)]; simp, HB2.out, HX2.out⟩
    case round =>
      obtain ⟨k, hk, rfl, rfl, hbel, hse⟩ := hrel
      have HB := Lib.hid hbel
      have HS := Lib.hid hse
      have hln := left_nonneg n P k n0 hk (by omega)
      obtain ⟨hl0, hl1⟩ := hln
      by_cases hlt : k < P
      · obtain ⟨b0, off, rfl, hb, hcell⟩ := hse.2 (by omega)
        have g1 := hcell 0 _ (vals_at _ 0 _ (parts_at n P 0 (by omega)))
        rw [Nat.add_zero] at g1
        have hr2 := part_range n P 0 n0 (by omega)
        obtain ⟨hr3, hr4⟩ := hr2
        have HST := Lib.hid (left_step n P k)
        have hln2 := left_nonneg n P (k + 1) n0 (by omega) (by omega)
        rw [HST.out] at hln2
        obtain ⟨hl2, hl3⟩ := hln2
        have h0p : (0 : Int) < (P : Int) := by omega
        rcases Nat.eq_zero_or_pos k with hk0 | hk0
        · have g0 := hcell k _ (vals_at _ k _ (parts_at n P k hlt))
          have hr := part_range n P k n0 hlt
          obtain ⟨hr0, hr1⟩ := hr
          have hnear := part_near n P k
          have hkp : (k : Int) < (P : Int) := by omega
          have hk4 : decide ((0 : Int) < (k : Int)) = false := by rw [decide_eq_false_iff_not]; omega
          have q0 : decide (0 < k) = false := by rw [decide_eq_false_iff_not]; omega
          have Q0 := Lib.hid q0
          have Q1 := Lib.hid hk4
          clear hcell hbel hse hk0 q0 hk4
          generalize Am.part n P k = x at *
          generalize Am.part n P 0 = x0 at *
          generalize left n P k = y at *
          go_wp2_with fail
          have q1 : (k : Int) < (P : Int) := by omega
          have q2 := Q0.out
          have q3 := Q1.out
          have q8 : (0 : Int) < (P : Int) := by omega
          have q9 : 0 < P := by omega
          have q10 : x0 - x ≤ 1 := hnear
          have q11 : IntKind.i64.wrap (x0 - x) = x0 - x := by rw [IntKind.wrap_i64]; omega
          refine wp_region_quiet_lit (by kernel_rfl) (by kernel_rfl) ?_
          refine WQ.out ?_
          iterate 40 (refine WQ.step (fun K hK => ?_); go_simp; refine hK _ ?_; clear hK K)
          refine WQ.nil ?_
          intro _ hw1
          obtain ⟨nq, hw2⟩ := hw1
          subst hw2
          go_wp2_with fail
          go_roundw
          case rel => exact ⟨k + 1, by omega, by go_num, by rw [HST.out]; go_num, HB.out.trans ((drew_below _ _).mono HB.out.size), HS.out.drewN _⟩
          case measure => simp [intOf]; omega
        · obtain ⟨j, rfl⟩ : ∃ j, k = j + 1 := ⟨k - 1, by omega⟩
          have g0 := hcell (j + 1) _ (vals_at _ (j + 1) _ (parts_at n P (j + 1) hlt))
          have g2 := hcell j _ (vals_at _ j _ (parts_at n P j (by omega)))
          have hr := part_range n P (j + 1) n0 hlt
          obtain ⟨hr0, hr1⟩ := hr
          have hnear := part_near n P (j + 1)
          have hfall := part_falls n P j
          have hjp : (j : Int) < (P : Int) := by omega
          have hjp2 : (j : Int) + 1 < (P : Int) := by omega
          have hj0 : (0 : Int) < (j : Int) + 1 := by omega
          clear hcell hbel hse
          generalize Am.part n P (j + 1) = x at *
          generalize Am.part n P j = z at *
          generalize Am.part n P 0 = x0 at *
          generalize left n P (j + 1) = y at *
          rw [Int.natCast_succ]
          go_wp2_with fail
          have q1 : (0 : Int) ≤ (j : Int) + 1 := by omega
          have q2 : (j : Int) + 1 < (P : Int) := by omega
          have q3 : (0 : Int) < (j : Int) + 1 := by omega
          have q4 : (j : Int) < (P : Int) := by omega
          have q5 : j < P := by omega
          have q8 : (0 : Int) < (P : Int) := by omega
          have q9 : 0 < P := by omega
          have q10 : x0 - x ≤ 1 := hnear
          have q11 : IntKind.i64.wrap (x0 - x) = x0 - x := by rw [IntKind.wrap_i64]; omega
          have q7 : IntKind.i64.wrap (j : Int) = (j : Int) := by rw [IntKind.wrap_i64]; omega
          have q6 : 0 < j + 1 := by omega
          refine wp_region_quiet_lit (by kernel_rfl) (by kernel_rfl) ?_
          refine WQ.out ?_
          iterate 40 (refine WQ.step (fun K hK => ?_); go_simp; refine hK _ ?_; clear hK K)
          refine WQ.nil ?_
          intro _ hw1
          obtain ⟨nq, hw2⟩ := hw1
          subst hw2
          go_wp2_with fail
          go_roundw
          case rel => exact ⟨j + 2, by omega, by go_num, by rw [show j + 2 = j + 1 + 1 from rfl, HST.out]; go_num, HB.out.trans ((drew_below _ _).mono HB.out.size), HS.out.drewN _⟩
          case measure => simp [intOf]; omega
      · obtain rfl : k = P := by omega
        rw [left_end n k (by omega), Int.sub_zero]
        go_wp2_with fail
        go_ret
        exact ⟨rfl, HB.out⟩
  · rw [hv] at H1
    have hq : (splitE n p != 0) = true := by simpa using he
    clear he hv
    generalize splitE n p = E at *
    go_enter Try.func7, Try.ntmps7
    go_wp2_with fail
    refine (H1.out _).mono ?_
    rintro e w1 ⟨v1, rfl, ho1, hb1⟩
    obtain ⟨A1, c1, rfl, hc11, hc12, -⟩ := own_slice0 ho1
    have HB1 := Lib.hid hb1
    clear ho1 hb1
    go_wp2_with fail
    refine (awake_any _).mono ?_
    rintro e w2 ⟨rfl, hb2⟩
    have HB2 := Lib.hid (HB1.out.trans (hb2.mono HB1.out.size))
    clear hb2
    go_wp2_with fail
    refine (awake_any _).mono ?_
    rintro e w3 ⟨rfl, hb3⟩
    have HB3 := Lib.hid (HB2.out.trans (hb3.mono HB2.out.size))
    clear hb3
    go_wp2_with fail
    go_ret
    exact ⟨rfl, HB3.out⟩

set_option maxRecDepth 100000 in
theorem lifted (os : Os) (started : os.Started) (H : Type) (enc : TypeId × Value → H) :
    ReturnsInHanded {} Try.checked os 7 .any (Rows.amountPartsSpec.pre6 enc Try.prog Try.f7 Rows.amountPartsRow.domain false) (Rows.amountPartsSpec.post enc Try.prog Try.f7 false true false false) := by
  refine returnsInHanded_of_change (C := Try.checked) own started (by kernel_rfl) Try.func7
    (ChangeSpec.witness6 (enc := enc) (C := Try.checked) false ⟨#[], #[.int .i64 0, .int .i64 0], []⟩ 8 (by kernel_rfl) (by kernel_rfl) (by kernel_rfl) (by kernel_rfl)) ?_
  intro W base args ds gs before hval0 hW hcnd _
  have hval : ∀ (j : Nat) t v, Try.f7.params[j]? = some t → args[j]? = some v → Value.okWide Try.prog W .any base t v := hval0
  have hW' := hW
  obtain ⟨p, q, hA0, hV, rfl, hfz, hnd⟩ := hW
  have hA : DataW.TrodAll enc Try.prog W 0 (fun _ => true) true Try.f7.params.toList args.toList ds p := hA0
  rw [Try.params7] at hA hval
  obtain ⟨v0, vs0, d0, ds0, p0, q0, hargs, rfl, rfl, h0, r0⟩ := trodAll_cons hA
  obtain ⟨v1, vs1, d1, ds1, p1, q1, rfl, rfl, rfl, h1, r1⟩ := trodAll_cons r0
  obtain ⟨rfl, rfl, rfl⟩ := trodAll_nil r1
  obtain rfl : args = #[v0, v1] := by cases args; simp_all
  obtain ⟨rfl, rfl⟩ := trodVars_none hV
  obtain ⟨a0, rfl⟩ := okWide_int Try.underlying2 (hval 0 2 v0 rfl rfl)
  have w0 : -9223372036854775808 ≤ a0 ∧ a0 ≤ 9223372036854775807 := by
    obtain ⟨m, hm⟩ := h0
    obtain ⟨s, hs, _, hl⟩ := DataW.trod_int Try.underlying2 hm
    simp [Value.cells] at hs
    rw [hs]; have := bounds_i64 hl; omega
  have lt0 : ∀ x ∈ p0, x.block < W.heap.size := by obtain ⟨m, hm⟩ := h0; exact DataW.trod_lt m _ _ _ hm
  obtain ⟨a1, rfl⟩ := okWide_int Try.underlying3 (hval 1 3 v1 rfl rfl)
  have w1 : -9223372036854775808 ≤ a1 ∧ a1 ≤ 9223372036854775807 := by
    obtain ⟨m, hm⟩ := h1
    obtain ⟨s, hs, _, hl⟩ := DataW.trod_int Try.underlying3 hm
    simp [Value.cells] at hs
    rw [hs]; have := bounds_i64 hl; omega
  have lt1 : ∀ x ∈ p1, x.block < W.heap.size := by obtain ⟨m, hm⟩ := h1; exact DataW.trod_lt m _ _ _ hm
  clear hA0 hval0
  simp only [List.append_nil] at hW'
  refine (walk a0 w0 a1 w1 W ).mono fun e W' ⟨he, bel⟩ => ?_
  subst he
  exact ⟨_, rfl, _, _, _, [], _, [], hW', trodAll_mk1 (shut_bool Try.underlying4 _), (trodAll_cons_mk (Below.trod laidOut (by kernel_rfl) (of_decide_eq_true (by kernel_rfl)) h0 bel lt0) (trodAll_cons_mk (Below.trod laidOut (by kernel_rfl) (of_decide_eq_true (by kernel_rfl)) h1 bel lt1) trodAll_mk0)), rfl, bel.frame _, fun h => by cases h⟩

theorem proved : Rows.AmountPartsSaid :=
  OpenClaim.holds_of_wide 7 Try.f7 rfl rfl rfl rfl rfl rfl rfl ⟨rfl, rfl, rfl, rfl, rfl⟩ rfl rfl rfl rfl rfl (by kernel_rfl) Try.func7 (by kernel_rfl)
    (of_decide_eq_true (by kernel_rfl)) (by unfold Func.isWrapper; first | (rw [if_pos (by decide +kernel)]; kernel_rfl) | (rw [if_neg (by decide +kernel)]; exact ⟨rfl, rfl⟩))
    (fun os started H enc _ => lifted os started H enc)
#print axioms proved
end Go.Proofs.Ytggmbkmkjkllkaa.amountParts
