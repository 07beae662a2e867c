/- Contracts of the program's calls at layer 5: Check, Around, Widen, Drift, Has, Before, Meet, Join. -/
import Derived.Test.YtaoldfndidngbaaSpanE
import Derived.Test.YtaoldfndidngbaaTail
namespace Go.Proofs.Ytaoldfndidngbaa
open Go.RowKit Go.Sp Go.Fl
set_option linter.unusedVariables false
set_option linter.unusedSimpArgs false

/-- It is an int64. -/
def R64 (n : Int) : Prop := -9223372036854775808 ≤ n ∧ n < 9223372036854775808
def spanV (lo hi : Int) : Value := .agg #[.int .i64 lo, .int .i64 hi]

/-- The time next to a number. -/
def cutT (n : Int) : Int := if n ≤ 0 then 0 else if n ≤ 1125899906842624 then n else 1125899906842624
theorem cutT_cases (n : Int) : (n < 0 ∧ cutT n = 0) ∨ (0 ≤ n ∧ n ≤ 1125899906842624 ∧ cutT n = n) ∨ (1125899906842624 < n ∧ cutT n = 1125899906842624) := by
  unfold cutT
  split
  · omega
  · split <;> omega

theorem cuttime_any (n : Int) (w : World) : Calls Try.prog 35 #[.int .i64 n] w fun e w' => e = .returned (.int .i64 (cutT n)) ∧ w' = w := by
  rcases cutT_cases n with ⟨h, e⟩ | ⟨h, h2, e⟩ | ⟨h, e⟩
  all_goals
    have HE := Lib.hid e
    clear e
    go_enter Try.func35, Try.ntmps35
    go_wp2_with fail
    go_ret
    refine ⟨?_, rfl⟩
    rw [HE.out]
    first | rfl | (simp [go_sem]; try omega)

set_option maxHeartbeats 1000000 in
theorem cut_any (lo hi : Int) (w : World) : Calls Try.prog 28 #[.agg #[.int .i64 lo, .int .i64 hi]] w fun e w' => e = .returned (.agg #[.int .i64 (cutT lo), .int .i64 (cutT hi)]) ∧ Below w.heap.size w w' := by
  have H := Lib.hid (((St.start w).alloc w.heap.size rfl 23 #[.int .i64 lo, .int .i64 hi]).alloc (w.heap.size + 1) (by simp) 23 #[.int .i64 0, .int .i64 0])
  go_enter Try.func28, Try.ntmps28
  obtain ⟨C, hC, HCc, HCf⟩ := H.out.class
  clear H
  go_wp2_with fail
  refine region_inT 7 C hC (by kernel_rfl) (by kernel_rfl) ?_
  simp only [List.take_succ_cons, List.take_zero, List.drop_succ_cons, List.drop_zero]
  iterate 7
    (refine WQ.step (fun K hK => ?_)
     go_simp
     first
       | (refine hK _ ?_; clear hK K)
       | (apply Exists.intro
          refine ⟨fun x hx => ?_, hK _ ?_⟩
          · first
              | rfl
              | (go_at_call 35; refine (cuttime_any _ _).mono ?_; rintro e x1 ⟨rfl, rfl⟩; exact ⟨rfl, hx⟩)
              | (have HX := HCf.out _ hx
                 obtain ⟨c0, e0, d0, f0, z0⟩ := HX.two 0 (w.heap.size + 1) rfl
                 obtain ⟨c1, e1, d1, f1, z1⟩ := HX.two 1 w.heap.size rfl
                 clear HX
                 go_simp
                 rfl)
          clear hK K))
  refine WQ.nil ?_
  intro w7 hw
  have H7 := Lib.hid (HCf.out _ hw)
  clear hw hC HCc HCf C
  obtain ⟨c0, e0, d0, f0, z0⟩ := H7.out.two 0 (w.heap.size + 1) rfl
  go_wp2_with fail
  refine bodyPost_ret (by simp [results, Try.results28, go_sem, c0, e0, d0, f0, z0]; try rfl) rfl ?_
  refine ⟨rfl, ?_⟩
  have hb := H7.out.below
  go_grown

theorem cut_is (lo hi : Int) (h : isS lo hi = true) : cutT lo = lo ∧ cutT hi = hi := by
  have := (isS_iff _ _).1 h
  rcases cutT_cases lo with h1 | h1 | h1 <;> rcases cutT_cases hi with h2 | h2 | h2 <;> omega
theorem cut_not (lo hi : Int) (h : isS lo hi = false) : cutT lo ≠ lo ∨ cutT hi ≠ hi ∨ (cutT lo = lo ∧ cutT hi = hi ∧ hi < lo) := by
  have := (isS_no _ _).1 h
  rcases cutT_cases lo with h1 | h1 | h1 <;> rcases cutT_cases hi with h2 | h2 | h2 <;> omega

set_option maxHeartbeats 2000000 in
theorem scheck_any (lo hi : Int) (w : World) (h0 : R64 lo) (h1 : R64 hi) : Calls Try.prog 16 #[.agg #[.int .i64 lo, .int .i64 hi]] w fun e w' => e = .returned (.int .i64 (chkS lo hi)) ∧ Below w.heap.size w w' := by
  clear h0 h1
  have H := Lib.hid ((St.start w).alloc w.heap.size rfl 23 #[.int .i64 lo, .int .i64 hi])
  have key : (chkS lo hi = 0 ∧ cutT lo = lo ∧ cutT hi = hi ∧ lo ≤ hi) ∨ (chkS lo hi = 50 ∧ ((cutT lo = lo ∧ cutT hi = hi ∧ hi < lo) ∨ cutT lo ≠ lo ∨ (cutT lo = lo ∧ cutT hi ≠ hi))) := by
    rcases chk_cases lo hi with ⟨h, e, h2⟩ | ⟨h, e, -⟩
    · have := cut_is lo hi h
      exact .inl ⟨e, this.1, this.2, h2.2.1⟩
    · refine .inr ⟨e, ?_⟩
      have := cut_not lo hi h
      omega
  have HC := Lib.hid (fun w0 => cut_any lo hi w0)
  generalize cutT lo = L at *
  generalize cutT hi = M at *
  rcases key with ⟨e, rfl, rfl, k⟩ | ⟨e, ⟨rfl, rfl, k⟩ | k | ⟨rfl, k⟩⟩
  · have HE := Lib.hid e
    clear e
    go_enter Try.func16, Try.ntmps16
    obtain ⟨C, hC, HCc, HCf⟩ := H.out.class
    clear H
    go_wp2_with fail
    refine region_in C hC (by kernel_rfl) (by kernel_rfl) ?_
    iterate 11
      (refine WQ.step (fun K hK => ?_)
       go_simp
       first
         | (refine hK _ ?_; clear hK K)
         | (apply Exists.intro
            refine ⟨fun x hx => ?_, hK _ ?_⟩
            · first
                | rfl
                | (go_at_call 28; refine (HC.out _).mono ?_; rintro e x1 ⟨rfl, hb⟩; exact ⟨rfl, HCc.out _ _ hx hb⟩)
                | (have HX := HCf.out _ hx
                   obtain ⟨c0, e0, d0, f0, z0⟩ := HX.two 0 w.heap.size rfl
                   clear HX
                   go_simp
                   rfl)
            clear hK K))
    refine WQ.nil ?_
    intro w7 hw
    have H7 := Lib.hid (HCf.out _ hw)
    clear hw hC HCc HCf C
    go_wp2_with fail
    go_ret
    exact ⟨by rw [HE.out]; first | rfl | (simp [go_sem]; done) | (simp [go_sem]; omega), H7.out.below⟩
  · have HE := Lib.hid e
    clear e
    go_enter Try.func16, Try.ntmps16
    obtain ⟨C, hC, HCc, HCf⟩ := H.out.class
    clear H
    go_wp2_with fail
    refine region_in C hC (by kernel_rfl) (by kernel_rfl) ?_
    iterate 11
      (refine WQ.step (fun K hK => ?_)
       go_simp
       first
         | (refine hK _ ?_; clear hK K)
         | (apply Exists.intro
            refine ⟨fun x hx => ?_, hK _ ?_⟩
            · first
                | rfl
                | (go_at_call 28; refine (HC.out _).mono ?_; rintro e x1 ⟨rfl, hb⟩; exact ⟨rfl, HCc.out _ _ hx hb⟩)
                | (have HX := HCf.out _ hx
                   obtain ⟨c0, e0, d0, f0, z0⟩ := HX.two 0 w.heap.size rfl
                   clear HX
                   go_simp
                   rfl)
            clear hK K))
    refine WQ.nil ?_
    intro w7 hw
    have H7 := Lib.hid (HCf.out _ hw)
    clear hw hC HCc HCf C
    go_wp2_with fail
    go_ret
    exact ⟨by rw [HE.out]; first | rfl | (simp [go_sem]; done) | (simp [go_sem]; omega), H7.out.below⟩
  · have HE := Lib.hid e
    clear e
    have k1 : (lo == L) = false := by simpa using (fun h => k (Eq.symm h))
    go_enter Try.func16, Try.ntmps16
    obtain ⟨C, hC, HCc, HCf⟩ := H.out.class
    clear H
    go_wp2_with fail
    refine region_in C hC (by kernel_rfl) (by kernel_rfl) ?_
    iterate 11
      (refine WQ.step (fun K hK => ?_)
       go_simp
       first
         | (refine hK _ ?_; clear hK K)
         | (apply Exists.intro
            refine ⟨fun x hx => ?_, hK _ ?_⟩
            · first
                | rfl
                | (go_at_call 28; refine (HC.out _).mono ?_; rintro e x1 ⟨rfl, hb⟩; exact ⟨rfl, HCc.out _ _ hx hb⟩)
                | (have HX := HCf.out _ hx
                   obtain ⟨c0, e0, d0, f0, z0⟩ := HX.two 0 w.heap.size rfl
                   clear HX
                   go_simp
                   rfl)
            clear hK K))
    refine WQ.nil ?_
    intro w7 hw
    have H7 := Lib.hid (HCf.out _ hw)
    clear hw hC HCc HCf C
    go_wp2_with fail
    go_ret
    exact ⟨by rw [HE.out]; first | rfl | (simp [go_sem]; done) | (simp [go_sem]; omega), H7.out.below⟩
  · have HE := Lib.hid e
    clear e
    have k2 : (hi == M) = false := by simpa using (fun h => k (Eq.symm h))
    go_enter Try.func16, Try.ntmps16
    obtain ⟨C, hC, HCc, HCf⟩ := H.out.class
    clear H
    go_wp2_with fail
    refine region_in C hC (by kernel_rfl) (by kernel_rfl) ?_
    iterate 11
      (refine WQ.step (fun K hK => ?_)
       go_simp
       first
         | (refine hK _ ?_; clear hK K)
         | (apply Exists.intro
            refine ⟨fun x hx => ?_, hK _ ?_⟩
            · first
                | rfl
                | (go_at_call 28; refine (HC.out _).mono ?_; rintro e x1 ⟨rfl, hb⟩; exact ⟨rfl, HCc.out _ _ hx hb⟩)
                | (have HX := HCf.out _ hx
                   obtain ⟨c0, e0, d0, f0, z0⟩ := HX.two 0 w.heap.size rfl
                   clear HX
                   go_simp
                   rfl)
            clear hK K))
    refine WQ.nil ?_
    intro w7 hw
    have H7 := Lib.hid (HCf.out _ hw)
    clear hw hC HCc HCf C
    go_wp2_with fail
    go_ret
    exact ⟨by rw [HE.out]; first | rfl | (simp [go_sem]; done) | (simp [go_sem]; omega), H7.out.below⟩

set_option maxHeartbeats 1000000 in
theorem checkwidth_any (lo hi b : Int) (w : World) (h0 : R64 lo) (h1 : R64 hi) : Calls Try.prog 27 #[.agg #[.int .i64 lo, .int .i64 hi], .int .i64 b] w fun e w' => e = .returned (.int .i64 (widE lo hi b)) ∧ Below w.heap.size w w' := by
  have HC := Lib.hid (fun w0 => scheck_any lo hi w0 h0 h1)
  have HT := Lib.hid (fun w0 => cuttime_any b w0)
  have key : (widE lo hi b = 0 ∧ chkS lo hi = 0 ∧ cutT b = b) ∨ (widE lo hi b = 52 ∧ chkS lo hi = 0 ∧ cutT b ≠ b) ∨ (widE lo hi b = 50 ∧ chkS lo hi = 50) := by
    rcases wid_cases lo hi b with ⟨e, h, -, -, h2, -⟩ | ⟨e, h, -, -, h2, -⟩ | ⟨e, h, -⟩
    all_goals
      rcases chk_cases lo hi with ⟨g, g2, -⟩ | ⟨g, g2, -⟩
      all_goals rw [h] at g
      all_goals (try cases g)
    all_goals (first | exact .inr (.inr ⟨e, g2⟩) | skip)
    all_goals rcases cutT_cases b with k | k | k <;> omega
  have H := Lib.hid ((Below.refl w.heap.size w).alloc (Nat.le_refl _) (.cells #[.int .i64 lo, .int .i64 hi] 23))
  clear h0 h1
  generalize cutT b = B at *
  generalize chkS lo hi = E at *
  rcases key with ⟨e, rfl, rfl⟩ | ⟨e, rfl, k⟩ | ⟨e, rfl⟩
  · have HE := Lib.hid e
    clear e
    go_enter Try.func27, Try.ntmps27
    go_wp2_with fail
    refine (HC.out _).mono ?_
    rintro e w1 ⟨rfl, hb1⟩
    have HB1 := Lib.hid (H.out.trans (hb1.mono H.out.size))
    clear hb1
    go_wp2_with fail
    refine (HT.out _).mono ?_
    rintro e w2 ⟨rfl, rfl⟩
    go_wp2_with fail
    go_ret
    exact ⟨by rw [HE.out]; first | rfl | (simp [go_sem]; done), HB1.out⟩
  · have HE := Lib.hid e
    clear e
    have k1 : (b == B) = false := by simpa using (fun h => k (Eq.symm h))
    have k2 : (b != B) = true := by simpa using (fun h => k (Eq.symm h))
    go_enter Try.func27, Try.ntmps27
    go_wp2_with fail
    refine (HC.out _).mono ?_
    rintro e w1 ⟨rfl, hb1⟩
    have HB1 := Lib.hid (H.out.trans (hb1.mono H.out.size))
    clear hb1
    go_wp2_with fail
    refine (HT.out _).mono ?_
    rintro e w2 ⟨rfl, rfl⟩
    go_wp2_with fail
    go_ret
    exact ⟨by rw [HE.out]; first | rfl | (simp [go_sem]; done), HB1.out⟩
  · have HE := Lib.hid e
    clear e
    go_enter Try.func27, Try.ntmps27
    go_wp2_with fail
    refine (HC.out _).mono ?_
    rintro e w1 ⟨rfl, hb1⟩
    have HB1 := Lib.hid (H.out.trans (hb1.mono H.out.size))
    clear hb1
    go_wp2_with fail
    go_ret
    exact ⟨by rw [HE.out]; first | rfl | (simp [go_sem]; done), HB1.out⟩

theorem cut_low (lo b : Int) (h0 : 0 ≤ lo) (h1 : lo ≤ 1125899906842624) (h2 : 0 ≤ b) : cutT (lo - b) = if lo ≤ b then 0 else lo - b := by
  unfold cutT; split <;> split <;> first | omega | (split <;> omega)
theorem cut_high (hi b : Int) (h0 : 0 ≤ hi) (h2 : 0 ≤ b) : cutT (hi + b) = if hi + b ≤ 1125899906842624 then hi + b else 1125899906842624 := by
  unfold cutT; split <;> split <;> first | omega | (split <;> omega)

set_option maxHeartbeats 1000000 in
theorem swiden_any (lo hi b : Int) (w : World) (h0 : R64 lo) (h1 : R64 hi) (h2 : R64 b) : Calls Try.prog 12 #[.agg #[.int .i64 lo, .int .i64 hi], .int .i64 b] w fun e w' => e = .returned (.tuple #[.agg #[.int .i64 (widL lo hi b), .int .i64 (widH lo hi b)], .int .i64 (widE lo hi b)]) ∧ Below w.heap.size w w' := by
  have HC := Lib.hid (fun w0 => checkwidth_any lo hi b w0 h0 h1)
  have H := Lib.hid (((St.start w).alloc w.heap.size rfl 23 #[.int .i64 lo, .int .i64 hi]).alloc (w.heap.size + 1) (by simp) 23 #[.int .i64 0, .int .i64 0])
  clear h0 h1 h2
  have key : (widE lo hi b = 0 ∧ (0 ≤ lo ∧ lo ≤ 1125899906842624 ∧ 0 ≤ hi ∧ hi ≤ 1125899906842624 ∧ 0 ≤ b ∧ b ≤ 1125899906842624) ∧ cutT (lo - b) = widL lo hi b ∧ cutT (hi + b) = widH lo hi b) ∨ (widE lo hi b = 52 ∧ widL lo hi b = 0 ∧ widH lo hi b = 0) ∨ (widE lo hi b = 50 ∧ widL lo hi b = 0 ∧ widH lo hi b = 0) := by
    rcases wid_cases lo hi b with ⟨e, -, -, h, h2, hL, hH⟩ | ⟨e, -, -, -, h2, hL, hH⟩ | ⟨e, -, -, hL, hH⟩
    · refine .inl ⟨e, by omega, ?_, ?_⟩
      · rw [hL, cut_low _ _ (by omega) (by omega) (by omega)]
      · rw [hH, cut_high _ _ (by omega) (by omega)]
    · exact .inr (.inl ⟨e, hL, hH⟩)
    · exact .inr (.inr ⟨e, hL, hH⟩)
  generalize widE lo hi b = E at *
  generalize widL lo hi b = L at *
  generalize widH lo hi b = M at *
  rcases key with ⟨rfl, k, hL, hH⟩ | ⟨rfl, rfl, rfl⟩ | ⟨rfl, rfl, rfl⟩
  · obtain ⟨k1, k2, k3, k4, k5, k6⟩ := k
    go_enter Try.func12, Try.ntmps12
    go_wp2_with fail
    refine (HC.out _).mono ?_
    rintro e w1 ⟨rfl, hb1⟩
    replace H := Lib.hid (H.out.call hb1)
    clear hb1
    obtain ⟨c1, e1, d1, f1, z1⟩ := H.out.two 1 w.heap.size rfl
    go_wp2_with fail
    refine (cut_any _ _ _).mono ?_
    rintro e w2 ⟨rfl, hb2⟩
    rw [hL, hH]
    replace H := Lib.hid (H.out.call hb2)
    clear hb2 c1 e1 d1 f1 z1
    obtain ⟨c0, e0, d0, f0, z0⟩ := H.out.two 0 (w.heap.size + 1) rfl
    go_wp2_with fail
    refine bodyPost_ret (by simp [results, Try.results12, go_sem, c0, e0, d0, f0, z0]; try rfl) rfl ?_
    refine ⟨rfl, ?_⟩
    have hb := H.out.below
    go_grown
  · go_enter Try.func12, Try.ntmps12
    go_wp2_with fail
    refine (HC.out _).mono ?_
    rintro e w1 ⟨rfl, hb1⟩
    replace H := Lib.hid (H.out.call hb1)
    clear hb1
    obtain ⟨c0, e0, d0, f0, z0⟩ := H.out.two 0 (w.heap.size + 1) rfl
    go_wp2_with fail
    refine bodyPost_ret (by simp [results, Try.results12, go_sem, c0, e0, d0, f0, z0]; try rfl) rfl ?_
    refine ⟨rfl, ?_⟩
    have hb := H.out.below
    go_grown
  · go_enter Try.func12, Try.ntmps12
    go_wp2_with fail
    refine (HC.out _).mono ?_
    rintro e w1 ⟨rfl, hb1⟩
    replace H := Lib.hid (H.out.call hb1)
    clear hb1
    obtain ⟨c0, e0, d0, f0, z0⟩ := H.out.two 0 (w.heap.size + 1) rfl
    go_wp2_with fail
    refine bodyPost_ret (by simp [results, Try.results12, go_sem, c0, e0, d0, f0, z0]; try rfl) rfl ?_
    refine ⟨rfl, ?_⟩
    have hb := H.out.below
    go_grown

theorem saround_any (t b : Int) (w : World) (h0 : R64 t) (h2 : R64 b) : Calls Try.prog 14 #[.int .i64 t, .int .i64 b] w fun e w' => e = .returned (.tuple #[.agg #[.int .i64 (widL t t b), .int .i64 (widH t t b)], .int .i64 (widE t t b)]) ∧ Below w.heap.size w w' := by
  have HC := Lib.hid (fun w0 => swiden_any t t b w0 h0 h0 h2)
  have H := Lib.hid ((St.start w).alloc w.heap.size rfl 23 #[.int .i64 0, .int .i64 0])
  clear h0 h2
  generalize widE t t b = E at *
  generalize widL t t b = L at *
  generalize widH t t b = M at *
  go_enter Try.func14, Try.ntmps14
  go_wp2_with fail
  refine (HC.out _).mono ?_
  rintro e w1 ⟨rfl, hb1⟩
  replace H := Lib.hid (H.out.call hb1)
  clear hb1
  obtain ⟨c0, e0, d0, f0, z0⟩ := H.out.two 0 w.heap.size rfl
  go_wp2_with fail
  refine bodyPost_ret (by simp [results, Try.results14, go_sem, c0, e0, d0, f0, z0]; try rfl) rfl ?_
  refine ⟨rfl, ?_⟩
  have hb := H.out.below
  go_grown

@[go_sem] theorem w_lt1 (x : Nat) (h : x < 18446744073709551616) : (FloatKind.f64.format.order x 4607182418800017408 == some .lt) = decide (x < 4607182418800017408 ∨ 9223372036854775808 ≤ x ∧ x ≤ 18442240474082181120) := by
  rw [order_lt, nan_dec x h, nan_dec 4607182418800017408 (by decide), val_lt (x := 4607182418800017408) (by decide)]
  by_cases g : x < 9223372036854775808
  · rw [val_lt g, Bool.eq_iff_iff]; simp; omega
  · rw [val_ge (by omega) h, Bool.eq_iff_iff]; simp; omega
@[go_sem] theorem w_eq1 (x : Nat) (h : x < 18446744073709551616) : (FloatKind.f64.format.order x 4607182418800017408 == some .eq) = decide (x = 4607182418800017408) := by
  rw [order_eqs, nan_dec x h, nan_dec 4607182418800017408 (by decide), val_lt (x := 4607182418800017408) (by decide)]
  by_cases g : x < 9223372036854775808
  · rw [val_lt g, Bool.eq_iff_iff]; simp; omega
  · rw [val_ge (by omega) h, Bool.eq_iff_iff]; simp; omega
theorem israte_any (x : Nat) (hx : x < 18446744073709551616) (w : World) : Calls Try.prog 30 #[.float .f64 x] w fun e w' => e = .returned (.bool (rated x)) ∧ w' = w := by
  go_enter Try.func30, Try.ntmps30
  go_wp2
  all_goals go_ret
  all_goals
    refine ⟨ret_bool ?_, rfl⟩
    unfold rated
    rw [Bool.eq_iff_iff]
    simp
    omega

theorem timesT_value {n : Int} {x : Nat} (hn : isT n = true) (hr : rated x = true) : timesR (-n) x = .tuple #[.int .i64 (-moreT n x), .int .i64 0] := by
  obtain ⟨h1, h2⟩ := (isT_iff n).1 hn
  obtain ⟨h3, h4⟩ := more_range n x h1 hr
  rw [timesR_num (rated_nan hr).1 (rated_nan hr).2]
  have e : prodF (-n) x = -moreT n x := by unfold moreT; omega
  rw [e]
  have hf : fits (-moreT n x) = true := by unfold fits; simp only [decide_eq_true_eq]; omega
  unfold fitV
  rw [hf]; rfl
theorem upwards_any (n : Int) (x : Nat) (hx : x < 18446744073709551616) (hn : isT n = true) (hr : rated x = true) (w : World) : Calls Try.prog 31 #[.int .i64 n, .float .f64 x] w fun e w' => e = .returned (.int .i64 (moreT n x)) ∧ Below w.heap.size w w' := by
  obtain ⟨h1, h2⟩ := (isT_iff n).1 hn
  obtain ⟨h3, h4⟩ := more_range n x h1 hr
  have HT := Lib.hid (fun w0 => times_any (-n) x hx (by omega) (by omega) w0)
  rw [timesT_value hn hr] at HT
  generalize moreT n x = m at *
  clear hn hr hx
  go_enter Try.func31, Try.ntmps31
  go_wp2_with fail
  refine (HT.out _).mono ?_
  rintro e w1 ⟨rfl, hb1⟩
  go_wp2_with fail
  go_ret
  exact ⟨by first | rfl | (simp [go_sem]; omega), hb1⟩

set_option maxHeartbeats 2000000 in
theorem sdrift_any (lo hi n : Int) (x : Nat) (hx : x < 18446744073709551616) (w : World) (h0 : R64 lo) (h1 : R64 hi) (h2 : R64 n) : Calls Try.prog 18 #[.agg #[.int .i64 lo, .int .i64 hi], .int .i64 n, .float .f64 x] w fun e w' => e = .returned (.tuple #[.agg #[.int .i64 (driL lo hi n x), .int .i64 (driH lo hi n x)], .int .i64 (driE lo hi n x)]) ∧ Below w.heap.size w w' := by
  have HC := Lib.hid (fun w0 => checkwidth_any lo hi n w0 h0 h1)
  have HR := Lib.hid (fun w0 => israte_any x hx w0)
  have H := Lib.hid (((St.start w).alloc w.heap.size rfl 23 #[.int .i64 lo, .int .i64 hi]).alloc (w.heap.size + 1) (by simp) 23 #[.int .i64 0, .int .i64 0])
  have wide : ∀ b, widE lo hi b = if isS lo hi then (if isT b then 0 else 52) else 50 := fun _ => rfl
  rcases dri_cases lo hi n x with ⟨e, g1, g2, g3, hL, hH, hE⟩ | ⟨e, g1, g2, g3, hL, hH⟩ | ⟨e, g1, g2, hL, hH⟩ | ⟨e, g1, hL, hH⟩
  · rw [e, hL, hH]
    rw [wide, g1, g2] at HC
    clear wide e hL hH
    have HU := Lib.hid (fun w0 => upwards_any n x hx g2 g3 w0)
    have HW := Lib.hid (fun w0 => swiden_any lo hi (moreT n x) w0 h0 h1 (by have := more_range n x ((isT_iff n).1 g2).1 g3; have := (isT_iff n).1 g2; exact ⟨by omega, by omega⟩))
    rw [hE] at HW
    generalize moreT n x = m at *
    generalize widL lo hi m = L at *
    generalize widH lo hi m = M at *
    clear hE
    rw [g3] at HR
    clear h0 h1 h2 g1 g2 g3
    go_enter Try.func18, Try.ntmps18
    go_wp2_with fail
    refine (HC.out _).mono ?_
    rintro e w1 ⟨rfl, hb1⟩
    replace H := Lib.hid (H.out.call hb1)
    clear hb1
    go_wp2_with fail
    refine (HR.out _).mono ?_
    rintro e w2 ⟨rfl, rfl⟩
    obtain ⟨C, hC, HCc, HCf⟩ := H.out.class
    clear H
    go_wp2_with fail
    refine region_inT 7 C hC (by kernel_rfl) (by kernel_rfl) ?_
    simp only [List.take_succ_cons, List.take_zero, List.drop_succ_cons, List.drop_zero]
    iterate 7
      (refine WQ.step (fun K hK => ?_)
       go_simp
       first
         | (refine hK _ ?_; clear hK K)
         | (apply Exists.intro
            refine ⟨fun x hx => ?_, hK _ ?_⟩
            · first
                | rfl
                | (go_at_call 31; refine (HU.out _).mono ?_; rintro e x1 ⟨rfl, hb⟩; exact ⟨rfl, HCc.out _ _ hx hb⟩)
                | (go_at_call 12; refine (HW.out _).mono ?_; rintro e x1 ⟨rfl, hb⟩; exact ⟨rfl, HCc.out _ _ hx hb⟩)
                | (have HX := HCf.out _ hx
                   obtain ⟨c0, e0, d0, f0, z0⟩ := HX.two 0 (w.heap.size + 1) rfl
                   obtain ⟨c1, e1, d1, f1, z1⟩ := HX.two 1 w.heap.size rfl
                   clear HX
                   go_simp
                   rfl)
            clear hK K))
    refine WQ.nil ?_
    intro w7 hw
    have H7 := Lib.hid (HCf.out _ hw)
    clear hw hC HCc HCf C
    obtain ⟨c0, e0, d0, f0, z0⟩ := H7.out.two 0 (w.heap.size + 1) rfl
    go_wp2_with fail
    refine bodyPost_ret (by simp [results, Try.results18, go_sem, c0, e0, d0, f0, z0]; try rfl) rfl ?_
    refine ⟨rfl, ?_⟩
    have hb := H7.out.below
    go_grown
  · rw [e, hL, hH]
    rw [wide, g1, g2] at HC
    clear wide e hL hH
    rw [g3] at HR
    clear h0 h1 h2 g1 g2 g3
    go_enter Try.func18, Try.ntmps18
    go_wp2_with fail
    refine (HC.out _).mono ?_
    rintro e w1 ⟨rfl, hb1⟩
    replace H := Lib.hid (H.out.call hb1)
    clear hb1
    obtain ⟨c0, e0, d0, f0, z0⟩ := H.out.two 0 (w.heap.size + 1) rfl
    go_wp2_with fail
    refine (HR.out _).mono ?_
    rintro e w2 ⟨rfl, rfl⟩
    go_wp2_with fail
    refine bodyPost_ret (by simp [results, Try.results18, go_sem, c0, e0, d0, f0, z0]; try rfl) rfl ?_
    refine ⟨rfl, ?_⟩
    have hb := H.out.below
    go_grown
  · rw [e, hL, hH]
    rw [wide, g1, g2] at HC
    clear wide e hL hH
    clear h0 h1 h2 g1  g2
    go_enter Try.func18, Try.ntmps18
    go_wp2_with fail
    refine (HC.out _).mono ?_
    rintro e w1 ⟨rfl, hb1⟩
    replace H := Lib.hid (H.out.call hb1)
    clear hb1
    obtain ⟨c0, e0, d0, f0, z0⟩ := H.out.two 0 (w.heap.size + 1) rfl
    go_wp2_with fail
    refine bodyPost_ret (by simp [results, Try.results18, go_sem, c0, e0, d0, f0, z0]; try rfl) rfl ?_
    refine ⟨rfl, ?_⟩
    have hb := H.out.below
    go_grown
  · rw [e, hL, hH]
    rw [wide, g1] at HC
    clear wide e hL hH
    clear h0 h1 h2 g1 
    go_enter Try.func18, Try.ntmps18
    go_wp2_with fail
    refine (HC.out _).mono ?_
    rintro e w1 ⟨rfl, hb1⟩
    replace H := Lib.hid (H.out.call hb1)
    clear hb1
    obtain ⟨c0, e0, d0, f0, z0⟩ := H.out.two 0 (w.heap.size + 1) rfl
    go_wp2_with fail
    refine bodyPost_ret (by simp [results, Try.results18, go_sem, c0, e0, d0, f0, z0]; try rfl) rfl ?_
    refine ⟨rfl, ?_⟩
    have hb := H.out.below
    go_grown

/-- Whether all of them are spans, as a Bool. -/
def allB (l : List (Int × Int)) : Bool := decide (AllS l)
theorem allB_true {l : List (Int × Int)} (h : AllS l) : allB l = true := decide_eq_true h
theorem allB_false {l : List (Int × Int)} (h : ¬ AllS l) : allB l = false := decide_eq_false h
theorem allB_one (lo hi : Int) : allB [(lo, hi)] = isS lo hi := by
  unfold allB AllS; simp
theorem allB_two (lo hi lo' hi' : Int) : allB [(lo, hi), (lo', hi')] = (isS lo hi && isS lo' hi') := by
  unfold allB AllS; rw [Bool.eq_iff_iff]; simp

set_option maxHeartbeats 2000000 in
theorem arespans_any (B : Nat) (A : Option Addr) (cap : Nat) (l : List (Int × Int)) (w : World) (hs : Sees w B 2 A l.length (spans l)) (hB : B ≤ w.heap.size) (hl : l.length ≤ 1000000) (hr : ∀ s ∈ l, R64 s.1 ∧ R64 s.2) :
    Calls Try.prog 34 #[.slice A l.length cap] w fun e w' => e = .returned (.bool (allB l)) ∧ Below w.heap.size w w' := by
  have HS := Lib.hid hs
  have HR := Lib.hid hr
  clear hs hr
  go_enter Try.func34, Try.ntmps34
  go_wp2_with fail
  go_loopw [7] (fun i wr => ∃ k : Nat, k ≤ l.length ∧ i = .int .i64 (k : Int) ∧ Below w.heap.size w wr ∧ AllS (l.take k)) (fun i _ => l.length - (intOf i).toNat)
  case atStart => exact ⟨0, by omega, rfl, Below.refl _ _, AllS.nil⟩
  case round =>
    obtain ⟨k, hk, rfl, hbel, hall⟩ := hrel
    have HB := Lib.hid hbel
    have HA := Lib.hid hall
    clear hbel hall
    by_cases hlt : k < l.length
    · obtain ⟨s, hn⟩ : ∃ s, l[k]? = some s := ⟨_, List.getElem?_eq_getElem hlt⟩
      obtain ⟨b0, off, rfl, hb, gl, gh⟩ := (HS.out.below (HB.out.mono hB)).span k s hn
      have hrs := HR.out s (List.mem_of_getElem? hn)
      have HC := Lib.hid (fun w0 => scheck_any s.1 s.2 w0 hrs.1 hrs.2)
      have hkl : (k : Int) < (l.length : Int) := by omega
      clear hrs
      rcases chk_cases s.1 s.2 with ⟨hi, e, -⟩ | ⟨hi, e, -⟩
      · have HM := Lib.hid (HA.out.more hn hi)
        rw [e] at HC
        clear hi hn e
        obtain ⟨s1, s2⟩ := s
        simp only at gl gh HC
        go_wp2_with fail
        refine (HC.out _).mono ?_
        rintro e w1 ⟨rfl, hb1⟩
        go_wp2_with fail
        go_roundw
        case rel =>
          refine ⟨k + 1, by omega, by go_num, ?_, HM.out⟩
          exact (((St.mk HB.out (Knows.nil _)).other _).call hb1).below
        case measure => simp [intOf]; omega
      · have HX := Lib.hid (allB_false (AllS.stop hn hi))
        rw [e] at HC
        clear hi hn e
        obtain ⟨s1, s2⟩ := s
        simp only at gl gh HC
        go_wp2_with fail
        refine (HC.out _).mono ?_
        rintro e w1 ⟨rfl, hb1⟩
        go_wp2_with fail
        go_ret
        exact ⟨by rw [HX.out]; rfl, (((St.mk HB.out (Knows.nil _)).other _).call hb1).below⟩
    · obtain rfl : k = l.length := by omega
      have HX := Lib.hid (allB_true (by have := HA.out; rwa [List.take_length] at this))
      go_wp2_with fail
      go_ret
      exact ⟨by rw [HX.out]; rfl, HB.out⟩

theorem sees_fresh (w : World) (l : List (Int × Int)) (cs : Array Value) (h : cs.toList = spans l) : Sees (w.alloc (.cells cs 23)) (w.heap.size + 1) 2 (some ⟨w.heap.size, 0, none⟩) l.length (spans l) :=
  ⟨spans_length l, fun _ => ⟨w.heap.size, 0, rfl, by omega, fun j u hu => by
    rw [Nat.zero_add, (Whole.fresh w 23 cs).cell j, ← Array.getElem?_toList, h]
    exact hu⟩⟩
theorem are_one (lo hi : Int) (h0 : R64 lo) (h1 : R64 hi) (w : World) (g : Nat) (hg : g = w.heap.size) : Calls Try.prog 34 #[.slice (some ⟨g, 0, none⟩) 1 1] (w.alloc (.cells #[.int .i64 lo, .int .i64 hi] 23)) fun e w' => e = .returned (.bool (isS lo hi)) ∧ Below w.heap.size w w' := by
  subst hg
  refine (arespans_any (w.heap.size + 1) _ 1 [(lo, hi)] _ (sees_fresh w [(lo, hi)] _ rfl) (by simp) (by simp) (by intro s hs; simp at hs; subst hs; exact ⟨h0, h1⟩)).mono ?_
  rintro e w1 ⟨rfl, hb⟩
  exact ⟨by rw [allB_one], (((St.start w).other _).call hb).below⟩
theorem are_two (lo hi lo' hi' : Int) (h0 : R64 lo) (h1 : R64 hi) (h2 : R64 lo') (h3 : R64 hi') (w : World) (g : Nat) (hg : g = w.heap.size) : Calls Try.prog 34 #[.slice (some ⟨g, 0, none⟩) 2 2] (w.alloc (.cells #[.int .i64 lo, .int .i64 hi, .int .i64 lo', .int .i64 hi'] 23)) fun e w' => e = .returned (.bool (isS lo hi && isS lo' hi')) ∧ Below w.heap.size w w' := by
  subst hg
  refine (arespans_any (w.heap.size + 1) _ 2 [(lo, hi), (lo', hi')] _ (sees_fresh w [(lo, hi), (lo', hi')] _ rfl) (by simp) (by simp) (by intro s hs; simp at hs; rcases hs with rfl | rfl; exact ⟨h0, h1⟩; exact ⟨h2, h3⟩)).mono ?_
  rintro e w1 ⟨rfl, hb⟩
  exact ⟨by rw [allB_two], (((St.start w).other _).call hb).below⟩

set_option maxHeartbeats 1000000 in
theorem shas_any (lo hi t : Int) (w : World) (h0 : R64 lo) (h1 : R64 hi) (h2 : R64 t) : Calls Try.prog 22 #[.agg #[.int .i64 lo, .int .i64 hi], .int .i64 t] w fun e w' => e = .returned (.bool (hasB lo hi t)) ∧ Below w.heap.size w w' := by
  have HA := Lib.hid (fun w0 g hg => are_one lo hi h0 h1 w0 g hg)
  have H := Lib.hid ((St.start w).alloc w.heap.size rfl 23 #[.int .i64 lo, .int .i64 hi])
  clear h0 h1 h2
  have key : (isS lo hi = false ∧ hasB lo hi t = false) ∨ (isS lo hi = true ∧ t < lo ∧ hasB lo hi t = false) ∨ (isS lo hi = true ∧ lo ≤ t ∧ hi < t ∧ hasB lo hi t = false) ∨ (isS lo hi = true ∧ lo ≤ t ∧ t ≤ hi ∧ hasB lo hi t = true) := by
    unfold hasB
    cases isS lo hi with
    | false => exact .inl ⟨rfl, rfl⟩
    | true =>
      right
      simp
      omega
  rcases key with ⟨h1, hE⟩ | ⟨h1, h2, hE⟩ | ⟨h1, h2, h3, hE⟩ | ⟨h1, h2, h3, hE⟩
  all_goals
    rw [hE]
    rw [h1] at HA
    clear h1 hE
    go_enter Try.func22, Try.ntmps22
    go_wp2_with fail
    refine (HA.out _ _ (by simp)).mono ?_
    rintro e w1 ⟨rfl, hb1⟩
    replace H := Lib.hid (H.out.call hb1)
    clear hb1
    obtain ⟨c0, e0, d0, f0, z0⟩ := H.out.two 0 w.heap.size rfl
    go_wp2_with fail
    go_ret
    exact ⟨by first | rfl | (simp; omega), H.out.below⟩

set_option maxHeartbeats 1000000 in
theorem sbefore_any (lo hi lo' hi' : Int) (w : World) (h0 : R64 lo) (h1 : R64 hi) (h2 : R64 lo') (h3 : R64 hi') : Calls Try.prog 24 #[.agg #[.int .i64 lo, .int .i64 hi], .agg #[.int .i64 lo', .int .i64 hi']] w fun e w' => e = .returned (.bool (befB lo hi lo' hi')) ∧ Below w.heap.size w w' := by
  have HA := Lib.hid (fun w0 g hg => are_two lo hi lo' hi' h0 h1 h2 h3 w0 g hg)
  have H := Lib.hid (((St.start w).alloc w.heap.size rfl 23 #[.int .i64 lo, .int .i64 hi]).alloc (w.heap.size + 1) (by simp) 23 #[.int .i64 lo', .int .i64 hi'])
  clear h0 h1 h2 h3
  unfold befB
  generalize (isS lo hi && isS lo' hi') = p at *
  cases p
  all_goals
    go_enter Try.func24, Try.ntmps24
    go_wp2_with fail
    refine (HA.out _ _ (by simp)).mono ?_
    rintro e w1 ⟨rfl, hb1⟩
    replace H := Lib.hid (H.out.call hb1)
    clear hb1
    obtain ⟨c0, e0, d0, f0, z0⟩ := H.out.two 0 (w.heap.size + 1) rfl
    obtain ⟨c1, e1, d1, f1, z1⟩ := H.out.two 1 w.heap.size rfl
    go_wp2_with fail
    go_ret
    exact ⟨by first | rfl | simp, H.out.below⟩

set_option maxHeartbeats 2000000 in
theorem smeet_any (lo hi lo' hi' : Int) (w : World) (h0 : R64 lo) (h1 : R64 hi) (h2 : R64 lo') (h3 : R64 hi') : Calls Try.prog 20 #[.agg #[.int .i64 lo, .int .i64 hi], .agg #[.int .i64 lo', .int .i64 hi']] w fun e w' => e = .returned (.tuple #[.agg #[.int .i64 (mL lo hi lo' hi'), .int .i64 (mH lo hi lo' hi')], .bool (metB lo hi lo' hi')]) ∧ Below w.heap.size w w' := by
  have HA := Lib.hid (fun w0 g hg => are_two lo hi lo' hi' h0 h1 h2 h3 w0 g hg)
  have H := Lib.hid ((((St.start w).alloc w.heap.size rfl 23 #[.int .i64 lo, .int .i64 hi]).alloc (w.heap.size + 1) (by simp) 23 #[.int .i64 lo', .int .i64 hi']).alloc (w.heap.size + 2) (by simp) 23 #[.int .i64 0, .int .i64 0])
  clear h0 h1 h2 h3
  have key : ((isS lo hi && isS lo' hi') = false ∧ metB lo hi lo' hi' = false ∧ mL lo hi lo' hi' = 0 ∧ mH lo hi lo' hi' = 0) ∨
      ((isS lo hi && isS lo' hi') = true ∧ metB lo hi lo' hi' = false ∧ mL lo hi lo' hi' = 0 ∧ mH lo hi lo' hi' = 0 ∧ (hi < lo' ∨ (lo' ≤ hi ∧ hi' < lo))) ∨
      ((isS lo hi && isS lo' hi') = true ∧ metB lo hi lo' hi' = true ∧ lo' ≤ hi ∧ lo ≤ hi' ∧ ((lo < lo' ∧ mL lo hi lo' hi' = lo') ∨ (lo' ≤ lo ∧ mL lo hi lo' hi' = lo)) ∧ ((hi' < hi ∧ mH lo hi lo' hi' = hi') ∨ (hi ≤ hi' ∧ mH lo hi lo' hi' = hi))) := by
    rcases met_cases lo hi lo' hi' with ⟨a, b, c, d⟩ | ⟨a, a2, b, c, d⟩ | ⟨a, a2, b, g, c, d⟩ | ⟨a, a2, b, g, c, d⟩
    · exact .inl ⟨by rw [a]; rfl, b, c, d⟩
    · exact .inl ⟨by rw [a2, a]; rfl, b, c, d⟩
    · refine .inr (.inl ⟨by rw [a2, a]; rfl, b, c, d, ?_⟩)
      have p1 := (isS_iff _ _).1 a
      have p2 := (isS_iff _ _).1 a2
      unfold metL metH at g
      split at g <;> split at g <;> omega
    · refine .inr (.inr ⟨by rw [a2, a]; rfl, b, ?_⟩)
      have p1 := (isS_iff _ _).1 a
      have p2 := (isS_iff _ _).1 a2
      rw [c, d]
      unfold metL metH at *
      split at g <;> split at g <;> simp [*] <;> omega
  generalize (isS lo hi && isS lo' hi') = p at *
  generalize mL lo hi lo' hi' = L at *
  generalize mH lo hi lo' hi' = M at *
  generalize metB lo hi lo' hi' = E at *
  rcases key with ⟨rfl, rfl, rfl, rfl⟩ | ⟨rfl, rfl, rfl, rfl, k1 | ⟨k1, k2⟩⟩ | ⟨rfl, rfl, k1, k2, ⟨k3, rfl⟩ | ⟨k3, rfl⟩, ⟨k4, rfl⟩ | ⟨k4, rfl⟩⟩
  all_goals
    go_enter Try.func20, Try.ntmps20
    go_wp2_with fail
    refine (HA.out _ _ (by simp)).mono ?_
    rintro e w1 ⟨rfl, hb1⟩
    replace H := Lib.hid (H.out.call hb1)
    clear hb1
    obtain ⟨c0, e0, d0, f0, z0⟩ := H.out.two 0 (w.heap.size + 2) rfl
    obtain ⟨c1, e1, d1, f1, z1⟩ := H.out.two 1 (w.heap.size + 1) rfl
    obtain ⟨c2, e2, d2, f2, z2⟩ := H.out.two 2 w.heap.size rfl
    go_wp2_with fail
    refine bodyPost_ret (by simp [results, Try.results20, go_sem, c0, e0, d0, f0, z0]; try rfl) rfl ?_
    refine ⟨rfl, ?_⟩
    have hb := H.out.below
    go_grown

theorem low_first (l : List (Int × Int)) (s : Int × Int) (h : AllS l) (hs : l[0]? = some s) : lowest (l.take 1) = s.1 ∧ highest (l.take 1) = s.2 := by
  have h1 := (isS_iff _ _).1 (h s (List.mem_of_getElem? hs))
  rw [lowest_snoc l 0 s hs, highest_snoc l 0 s hs]
  unfold lowest highest
  simp
  omega
set_option maxHeartbeats 4000000 in
theorem sjoin_any (B : Nat) (A : Option Addr) (cap : Nat) (l : List (Int × Int)) (w : World) (hs : Sees w B 2 A l.length (spans l)) (hB : B ≤ w.heap.size) (hl : l.length ≤ 1000000) (hr : ∀ s ∈ l, R64 s.1 ∧ R64 s.2) (hcap : l.length ≤ cap) :
    Calls Try.prog 25 #[.slice A l.length cap] w fun e w' => e = .returned (.tuple #[.agg #[.int .i64 (joiL l), .int .i64 (joiH l)], .bool (joiB l)]) ∧ Below w.heap.size w w' := by
  have HS := Lib.hid hs
  have HA := Lib.hid (fun w0 (h : Below w.heap.size w w0) => arespans_any B A cap l w0 (hs.below (h.mono hB)) (Nat.le_trans hB h.size) hl hr)
  have H := Lib.hid ((St.start w).alloc w.heap.size rfl 23 #[.int .i64 0, .int .i64 0])
  clear hr hs
  by_cases h0 : l.length = 0
  · have hl0 := List.eq_nil_of_length_eq_zero h0
    subst hl0
    obtain ⟨e1, e2, e3⟩ : joiB [] = false ∧ joiL [] = 0 ∧ joiH [] = 0 := by decide
    rw [e1, e2, e3]
    clear e1 e2 e3 h0 hl
    obtain ⟨c0, e0, d0, f0, z0⟩ := H.out.two 0 w.heap.size rfl
    go_enter Try.func25, Try.ntmps25
    go_wp2_with fail
    refine bodyPost_ret (by simp [results, Try.results25, go_sem, c0, e0, d0, f0, z0]; try rfl) rfl ?_
    refine ⟨rfl, ?_⟩
    have hb := H.out.below
    go_grown
  · have h1 : ((l.length : Int) == 0) = false := by simpa using (by omega : ¬ (l.length : Int) = 0)
    by_cases hall : AllS l
    · have HAll := Lib.hid hall
      rw [allB_true hall] at HA
      have hlen : (1 : Int) ≤ (l.length : Int) := by omega
      have hlen2 : (0 : Int) < (l.length : Int) := by omega
      have hcap2 : (l.length : Int) ≤ (cap : Int) := by omega
      have hj : joiB l = true ∧ joiL l = lowest l ∧ joiH l = highest l := by
        rcases joi_cases l with ⟨a, -, -, b, c⟩ | ⟨-, h, -⟩
        · exact ⟨a, b, c⟩
        · exact absurd ⟨fun h => h0 (by rw [h]; rfl), hall⟩ h
      rw [hj.1, hj.2.1, hj.2.2]
      clear hall hj
      obtain ⟨s0, hs0⟩ : ∃ s, l[0]? = some s := ⟨_, List.getElem?_eq_getElem (by omega)⟩
      have HS0 := Lib.hid hs0
      clear hs0
      go_enter Try.func25, Try.ntmps25
      go_wp2_with fail
      refine (HA.out _ (H.out.below)).mono ?_
      rintro e w1 ⟨rfl, hb1⟩
      replace H := Lib.hid (H.out.call hb1)
      clear hb1
      obtain ⟨b0, off, rfl, hb, gl, gh⟩ := (HS.out.below (H.out.below.mono hB)).span 0 s0 HS0.out
      simp only [Nat.zero_mul, Nat.add_zero] at gl gh
      have HL := Lib.hid (low_first l s0 HAll.out HS0.out)
      have hsz : w.heap.size < w1.heap.size := (H.out.two 0 w.heap.size rfl).2.2.2.2
      replace H := Lib.hid (H.out.alloc w1.heap.size rfl 23 #[.int .i64 s0.1, .int .i64 s0.2])
      by_cases hc : cap = 1
      · subst hc
        go_wp2_with fail
        have e1 : l.length = 1 := by omega
        have e2 : l.length - 1 = 0 := by omega
        have HT : Hid (lowest l = s0.1 ∧ highest l = s0.2) := Lib.hid (by
          have := HL.out
          rwa [List.take_of_length_le (by omega)] at this)
        clear gl gh HA hlen hlen2 hcap2 HS HL
        go_loopw [22] (fun i wr => i = .int .i64 0 ∧ St w wr [(w1.heap.size, 23, #[.int .i64 s0.1, .int .i64 s0.2]), (w.heap.size, 23, #[.int .i64 0, .int .i64 0])]) (fun i _ => 0)
        case atStart => exact ⟨rfl, H.out⟩
        case round =>
          obtain ⟨rfl, hst⟩ := hrel
          have HQ := Lib.hid hst
          obtain ⟨c0, e0, d0, f0, z0⟩ := hst.two 0 w1.heap.size rfl
          obtain ⟨c1, e1, d1, f1, z1⟩ := hst.two 1 w.heap.size rfl
          clear hst
          go_wp2_with fail
          refine bodyPost_ret (by simp [results, Try.results25, go_sem, c1, e1, d1, f1, z1]; try rfl) rfl ?_
          refine ⟨by rw [HT.out.1, HT.out.2], ?_⟩
          have hb := HQ.out.below
          go_grown
      · go_wp2_with fail
        clear gl gh HA hlen hlen2 hcap2
        go_loopw [22] (fun i wr => ∃ k : Nat, k ≤ l.length - 1 ∧ i = .int .i64 (k : Int) ∧ St w wr [(w1.heap.size, 23, #[.int .i64 (lowest (l.take (k + 1))), .int .i64 (highest (l.take (k + 1)))]), (w.heap.size, 23, #[.int .i64 0, .int .i64 0])]) (fun i _ => l.length - (intOf i).toNat)
        case atStart => exact ⟨0, by omega, rfl, by rw [HL.out.1, HL.out.2]; exact H.out⟩
        case round =>
          obtain ⟨k, hk, rfl, hst⟩ := hrel
          have HQ := Lib.hid hst
          clear hst
          by_cases hlt : k + 1 < l.length
          · obtain ⟨s, hn⟩ : ∃ s, l[k + 1]? = some s := ⟨_, List.getElem?_eq_getElem hlt⟩
            obtain ⟨b1, off1, hA1, hb1, gl, gh⟩ := (HS.out.below (HQ.out.below.mono hB)).span (k + 1) s hn
            injection hA1 with hA1
            injection hA1 with hA1 hA2
            subst hA1 hA2
            have HLS := Lib.hid (lowest_snoc l (k + 1) s hn)
            have HHS := Lib.hid (highest_snoc l (k + 1) s hn)
            rw [show off + (k + 1) * 2 = off + 2 + k * 2 by omega] at gl gh
            have hkl : (k : Int) < ((l.length - 1 : Nat) : Int) := by omega
            generalize lowest (l.take (k + 1)) = L at *
            generalize highest (l.take (k + 1)) = M at *
            obtain ⟨s1, s2⟩ := s
            simp only at gl gh HLS HHS
            clear hn
            have key : (s1 < L ∨ L ≤ s1) ∧ (M < s2 ∨ s2 ≤ M) := by omega
            obtain ⟨k1 | k1, k2 | k2⟩ := key
            all_goals
              first
                | rw [if_pos k1] at HLS
                | rw [if_neg (by omega)] at HLS
              first
                | rw [if_pos k2] at HHS
                | rw [if_neg (by omega)] at HHS
              have hsz3 : w1.heap.size < wr.heap.size := (HQ.out.two 0 w1.heap.size rfl).2.2.2.2
              obtain ⟨c0, e0, d0, f0, z0⟩ := HQ.out.two 0 w1.heap.size rfl
              go_wp2_with fail
              go_roundw
              case rel =>
                refine ⟨k + 1, by omega, by go_num, ?_⟩
                rw [HLS.out, HHS.out]
                have hd : ∀ r ∈ [((w.heap.size, 23, #[Value.int .i64 0, Value.int .i64 0]) : Row)], r.1 ≠ w1.heap.size := by
                  intro r hr
                  rw [List.mem_singleton.1 hr]
                  show w.heap.size ≠ _
                  omega
                first
                  | exact ((HQ.out.set0 (by omega) hd 0 _).set0 (by omega) hd 1 _).other _
                  | exact (((HQ.out.set0 (by omega) hd 0 _).set0 (by omega) hd 1 _).other _).drewN _
              case measure => simp [intOf]; omega
          · obtain rfl : k = l.length - 1 := by omega
            have e1 : l.length - 1 + 1 = l.length := by omega
            rw [e1, List.take_length] at HQ
            obtain ⟨c0, e0, d0, f0, z0⟩ := HQ.out.two 0 w1.heap.size rfl
            obtain ⟨c1, e1, d1, f1, z1⟩ := HQ.out.two 1 w.heap.size rfl
            go_wp2_with fail
            refine bodyPost_ret (by simp [results, Try.results25, go_sem, c1, e1, d1, f1, z1]; try rfl) rfl ?_
            refine ⟨rfl, ?_⟩
            have hb := HQ.out.below
            go_grown
    · rw [allB_false hall] at HA
      have hj : joiB l = false ∧ joiL l = 0 ∧ joiH l = 0 := by
        rcases joi_cases l with ⟨-, -, h, -⟩ | ⟨a, -, b, c⟩
        · exact absurd h hall
        · exact ⟨a, b, c⟩
      rw [hj.1, hj.2.1, hj.2.2]
      clear hall hj
      go_enter Try.func25, Try.ntmps25
      go_wp2_with fail
      refine (HA.out _ (H.out.below)).mono ?_
      rintro e w1 ⟨rfl, hb1⟩
      replace H := Lib.hid (H.out.call hb1)
      clear hb1
      obtain ⟨c0, e0, d0, f0, z0⟩ := H.out.two 0 w.heap.size rfl
      go_wp2_with fail
      refine bodyPost_ret (by simp [results, Try.results25, go_sem, c0, e0, d0, f0, z0]; try rfl) rfl ?_
      refine ⟨rfl, ?_⟩
      have hb := H.out.below
      go_grown
end Go.Proofs.Ytaoldfndidngbaa
