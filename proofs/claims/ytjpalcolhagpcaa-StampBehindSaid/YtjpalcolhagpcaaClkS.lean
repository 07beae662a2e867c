/- Contracts of the program's calls at layer 5 that layer 6 needs: Check, Around, Widen, Drift. (Made out of XSpanX by clkspan.py.) -/
import Derived.Test.YtjpalcolhagpcaaClkR
import Derived.Test.YtjpalcolhagpcaaTail
namespace Go.Proofs.Ytjpalcolhagpcaa
open Go.RowKit Go.Sp Go.Fl
set_option maxRecDepth 100000
set_option linter.unusedVariables false
set_option linter.unusedSimpArgs false

/-- It is an int64. -/
def R64 (n : Int) : Prop := -9223372036854775808 ≤ n ∧ n < 9223372036854775808
def spanV (lo hi : Int) : Value := .agg #[.int .i64 lo, .int .i64 hi]

/-- The time next to a number. -/
def cutT (n : Int) : Int := if n ≤ 0 then 0 else if n ≤ 1125899906842624 then n else 1125899906842624
theorem cutT_cases (n : Int) : (n < 0 ∧ cutT n = 0) ∨ (0 ≤ n ∧ n ≤ 1125899906842624 ∧ cutT n = n) ∨ (1125899906842624 < n ∧ cutT n = 1125899906842624) := by
  unfold cutT
  split
  · omega
  · split <;> omega

theorem cuttime_any (n : Int) (w : World) : Calls Try.prog 40 #[.int .i64 n] w fun e w' => e = .returned (.int .i64 (cutT n)) ∧ w' = w := by
  rcases cutT_cases n with ⟨h, e⟩ | ⟨h, h2, e⟩ | ⟨h, e⟩
  all_goals
    have HE := Lib.hid e
    clear e
    go_enter Try.func40, Try.ntmps40
    go_wp2_with fail
    go_ret
    refine ⟨?_, rfl⟩
    rw [HE.out]
    first | rfl | (simp [go_sem]; try omega)

set_option maxHeartbeats 1000000 in
theorem cut_any (lo hi : Int) (w : World) : Calls Try.prog 33 #[.agg #[.int .i64 lo, .int .i64 hi]] w fun e w' => e = .returned (.agg #[.int .i64 (cutT lo), .int .i64 (cutT hi)]) ∧ Below w.heap.size w w' := by
  have H := Lib.hid (((St.start w).alloc w.heap.size rfl 28 #[.int .i64 lo, .int .i64 hi]).alloc (w.heap.size + 1) (by simp) 28 #[.int .i64 0, .int .i64 0])
  go_enter Try.func33, Try.ntmps33
  obtain ⟨C, hC, HCc, HCf⟩ := H.out.class
  clear H
  go_wp2_with fail
  refine region_inT 7 C hC (by kernel_rfl) (by kernel_rfl) ?_
  simp only [List.take_succ_cons, List.take_zero, List.drop_succ_cons, List.drop_zero]
  iterate 7
    (refine WQ.step (fun K hK => ?_)
     go_simp
     first
       | (refine hK _ ?_; clear hK K)
       | (apply Exists.intro
          refine ⟨fun x hx => ?_, hK _ ?_⟩
          · first
              | rfl
              | (go_at_call 40; refine (cuttime_any _ _).mono ?_; rintro e x1 ⟨rfl, rfl⟩; exact ⟨rfl, hx⟩)
              | (have HX := HCf.out _ hx
                 obtain ⟨c0, e0, d0, f0, z0⟩ := HX.two 0 (w.heap.size + 1) rfl
                 obtain ⟨c1, e1, d1, f1, z1⟩ := HX.two 1 w.heap.size rfl
                 clear HX
                 go_simp
                 rfl)
          clear hK K))
  refine WQ.nil ?_
  intro w7 hw
  have H7 := Lib.hid (HCf.out _ hw)
  clear hw hC HCc HCf C
  obtain ⟨c0, e0, d0, f0, z0⟩ := H7.out.two 0 (w.heap.size + 1) rfl
  go_wp2_with fail
  refine bodyPost_ret (by simp [results, Try.results33, go_sem, c0, e0, d0, f0, z0]; try rfl) rfl ?_
  refine ⟨rfl, ?_⟩
  have hb := H7.out.below
  go_grown

theorem cut_is (lo hi : Int) (h : isS lo hi = true) : cutT lo = lo ∧ cutT hi = hi := by
  have := (isS_iff _ _).1 h
  rcases cutT_cases lo with h1 | h1 | h1 <;> rcases cutT_cases hi with h2 | h2 | h2 <;> omega
theorem cut_not (lo hi : Int) (h : isS lo hi = false) : cutT lo ≠ lo ∨ cutT hi ≠ hi ∨ (cutT lo = lo ∧ cutT hi = hi ∧ hi < lo) := by
  have := (isS_no _ _).1 h
  rcases cutT_cases lo with h1 | h1 | h1 <;> rcases cutT_cases hi with h2 | h2 | h2 <;> omega

set_option maxHeartbeats 2000000 in
theorem scheck_any (lo hi : Int) (w : World) (h0 : R64 lo) (h1 : R64 hi) : Calls Try.prog 23 #[.agg #[.int .i64 lo, .int .i64 hi]] w fun e w' => e = .returned (.int .i64 (chkS lo hi)) ∧ Below w.heap.size w w' := by
  clear h0 h1
  have H := Lib.hid ((St.start w).alloc w.heap.size rfl 28 #[.int .i64 lo, .int .i64 hi])
  have key : (chkS lo hi = 0 ∧ cutT lo = lo ∧ cutT hi = hi ∧ lo ≤ hi) ∨ (chkS lo hi = 50 ∧ ((cutT lo = lo ∧ cutT hi = hi ∧ hi < lo) ∨ cutT lo ≠ lo ∨ (cutT lo = lo ∧ cutT hi ≠ hi))) := by
    rcases chk_cases lo hi with ⟨h, e, h2⟩ | ⟨h, e, -⟩
    · have := cut_is lo hi h
      exact .inl ⟨e, this.1, this.2, h2.2.1⟩
    · refine .inr ⟨e, ?_⟩
      have := cut_not lo hi h
      omega
  have HC := Lib.hid (fun w0 => cut_any lo hi w0)
  generalize cutT lo = L at *
  generalize cutT hi = M at *
  rcases key with ⟨e, rfl, rfl, k⟩ | ⟨e, ⟨rfl, rfl, k⟩ | k | ⟨rfl, k⟩⟩
  · have HE := Lib.hid e
    clear e
    go_enter Try.func23, Try.ntmps23
    obtain ⟨C, hC, HCc, HCf⟩ := H.out.class
    clear H
    go_wp2_with fail
    refine region_in C hC (by kernel_rfl) (by kernel_rfl) ?_
    iterate 11
      (refine WQ.step (fun K hK => ?_)
       go_simp
       first
         | (refine hK _ ?_; clear hK K)
         | (apply Exists.intro
            refine ⟨fun x hx => ?_, hK _ ?_⟩
            · first
                | rfl
                | (go_at_call 33; refine (HC.out _).mono ?_; rintro e x1 ⟨rfl, hb⟩; exact ⟨rfl, HCc.out _ _ hx hb⟩)
                | (have HX := HCf.out _ hx
                   obtain ⟨c0, e0, d0, f0, z0⟩ := HX.two 0 w.heap.size rfl
                   clear HX
                   go_simp
                   rfl)
            clear hK K))
    refine WQ.nil ?_
    intro w7 hw
    have H7 := Lib.hid (HCf.out _ hw)
    clear hw hC HCc HCf C
    go_wp2_with fail
    go_ret
    exact ⟨by rw [HE.out]; first | rfl | (simp [go_sem]; done) | (simp [go_sem]; omega), H7.out.below⟩
  · have HE := Lib.hid e
    clear e
    go_enter Try.func23, Try.ntmps23
    obtain ⟨C, hC, HCc, HCf⟩ := H.out.class
    clear H
    go_wp2_with fail
    refine region_in C hC (by kernel_rfl) (by kernel_rfl) ?_
    iterate 11
      (refine WQ.step (fun K hK => ?_)
       go_simp
       first
         | (refine hK _ ?_; clear hK K)
         | (apply Exists.intro
            refine ⟨fun x hx => ?_, hK _ ?_⟩
            · first
                | rfl
                | (go_at_call 33; refine (HC.out _).mono ?_; rintro e x1 ⟨rfl, hb⟩; exact ⟨rfl, HCc.out _ _ hx hb⟩)
                | (have HX := HCf.out _ hx
                   obtain ⟨c0, e0, d0, f0, z0⟩ := HX.two 0 w.heap.size rfl
                   clear HX
                   go_simp
                   rfl)
            clear hK K))
    refine WQ.nil ?_
    intro w7 hw
    have H7 := Lib.hid (HCf.out _ hw)
    clear hw hC HCc HCf C
    go_wp2_with fail
    go_ret
    exact ⟨by rw [HE.out]; first | rfl | (simp [go_sem]; done) | (simp [go_sem]; omega), H7.out.below⟩
  · have HE := Lib.hid e
    clear e
    have k1 : (lo == L) = false := by simpa using (fun h => k (Eq.symm h))
    go_enter Try.func23, Try.ntmps23
    obtain ⟨C, hC, HCc, HCf⟩ := H.out.class
    clear H
    go_wp2_with fail
    refine region_in C hC (by kernel_rfl) (by kernel_rfl) ?_
    iterate 11
      (refine WQ.step (fun K hK => ?_)
       go_simp
       first
         | (refine hK _ ?_; clear hK K)
         | (apply Exists.intro
            refine ⟨fun x hx => ?_, hK _ ?_⟩
            · first
                | rfl
                | (go_at_call 33; refine (HC.out _).mono ?_; rintro e x1 ⟨rfl, hb⟩; exact ⟨rfl, HCc.out _ _ hx hb⟩)
                | (have HX := HCf.out _ hx
                   obtain ⟨c0, e0, d0, f0, z0⟩ := HX.two 0 w.heap.size rfl
                   clear HX
                   go_simp
                   rfl)
            clear hK K))
    refine WQ.nil ?_
    intro w7 hw
    have H7 := Lib.hid (HCf.out _ hw)
    clear hw hC HCc HCf C
    go_wp2_with fail
    go_ret
    exact ⟨by rw [HE.out]; first | rfl | (simp [go_sem]; done) | (simp [go_sem]; omega), H7.out.below⟩
  · have HE := Lib.hid e
    clear e
    have k2 : (hi == M) = false := by simpa using (fun h => k (Eq.symm h))
    go_enter Try.func23, Try.ntmps23
    obtain ⟨C, hC, HCc, HCf⟩ := H.out.class
    clear H
    go_wp2_with fail
    refine region_in C hC (by kernel_rfl) (by kernel_rfl) ?_
    iterate 11
      (refine WQ.step (fun K hK => ?_)
       go_simp
       first
         | (refine hK _ ?_; clear hK K)
         | (apply Exists.intro
            refine ⟨fun x hx => ?_, hK _ ?_⟩
            · first
                | rfl
                | (go_at_call 33; refine (HC.out _).mono ?_; rintro e x1 ⟨rfl, hb⟩; exact ⟨rfl, HCc.out _ _ hx hb⟩)
                | (have HX := HCf.out _ hx
                   obtain ⟨c0, e0, d0, f0, z0⟩ := HX.two 0 w.heap.size rfl
                   clear HX
                   go_simp
                   rfl)
            clear hK K))
    refine WQ.nil ?_
    intro w7 hw
    have H7 := Lib.hid (HCf.out _ hw)
    clear hw hC HCc HCf C
    go_wp2_with fail
    go_ret
    exact ⟨by rw [HE.out]; first | rfl | (simp [go_sem]; done) | (simp [go_sem]; omega), H7.out.below⟩

set_option maxHeartbeats 1000000 in
theorem checkwidth_any (lo hi b : Int) (w : World) (h0 : R64 lo) (h1 : R64 hi) : Calls Try.prog 44 #[.agg #[.int .i64 lo, .int .i64 hi], .int .i64 b] w fun e w' => e = .returned (.int .i64 (widE lo hi b)) ∧ Below w.heap.size w w' := by
  have HC := Lib.hid (fun w0 => scheck_any lo hi w0 h0 h1)
  have HT := Lib.hid (fun w0 => cuttime_any b w0)
  have key : (widE lo hi b = 0 ∧ chkS lo hi = 0 ∧ cutT b = b) ∨ (widE lo hi b = 52 ∧ chkS lo hi = 0 ∧ cutT b ≠ b) ∨ (widE lo hi b = 50 ∧ chkS lo hi = 50) := by
    rcases wid_cases lo hi b with ⟨e, h, -, -, h2, -⟩ | ⟨e, h, -, -, h2, -⟩ | ⟨e, h, -⟩
    all_goals
      rcases chk_cases lo hi with ⟨g, g2, -⟩ | ⟨g, g2, -⟩
      all_goals rw [h] at g
      all_goals (try cases g)
    all_goals (first | exact .inr (.inr ⟨e, g2⟩) | skip)
    all_goals rcases cutT_cases b with k | k | k <;> omega
  have H := Lib.hid ((Below.refl w.heap.size w).alloc (Nat.le_refl _) (.cells #[.int .i64 lo, .int .i64 hi] 28))
  clear h0 h1
  generalize cutT b = B at *
  generalize chkS lo hi = E at *
  rcases key with ⟨e, rfl, rfl⟩ | ⟨e, rfl, k⟩ | ⟨e, rfl⟩
  · have HE := Lib.hid e
    clear e
    go_enter Try.func44, Try.ntmps44
    go_wp2_with fail
    refine (HC.out _).mono ?_
    rintro e w1 ⟨rfl, hb1⟩
    have HB1 := Lib.hid (H.out.trans (hb1.mono H.out.size))
    clear hb1
    go_wp2_with fail
    refine (HT.out _).mono ?_
    rintro e w2 ⟨rfl, rfl⟩
    go_wp2_with fail
    go_ret
    exact ⟨by rw [HE.out]; first | rfl | (simp [go_sem]; done), HB1.out⟩
  · have HE := Lib.hid e
    clear e
    have k1 : (b == B) = false := by simpa using (fun h => k (Eq.symm h))
    have k2 : (b != B) = true := by simpa using (fun h => k (Eq.symm h))
    go_enter Try.func44, Try.ntmps44
    go_wp2_with fail
    refine (HC.out _).mono ?_
    rintro e w1 ⟨rfl, hb1⟩
    have HB1 := Lib.hid (H.out.trans (hb1.mono H.out.size))
    clear hb1
    go_wp2_with fail
    refine (HT.out _).mono ?_
    rintro e w2 ⟨rfl, rfl⟩
    go_wp2_with fail
    go_ret
    exact ⟨by rw [HE.out]; first | rfl | (simp [go_sem]; done), HB1.out⟩
  · have HE := Lib.hid e
    clear e
    go_enter Try.func44, Try.ntmps44
    go_wp2_with fail
    refine (HC.out _).mono ?_
    rintro e w1 ⟨rfl, hb1⟩
    have HB1 := Lib.hid (H.out.trans (hb1.mono H.out.size))
    clear hb1
    go_wp2_with fail
    go_ret
    exact ⟨by rw [HE.out]; first | rfl | (simp [go_sem]; done), HB1.out⟩

theorem cut_low (lo b : Int) (h0 : 0 ≤ lo) (h1 : lo ≤ 1125899906842624) (h2 : 0 ≤ b) : cutT (lo - b) = if lo ≤ b then 0 else lo - b := by
  unfold cutT; split <;> split <;> first | omega | (split <;> omega)
theorem cut_high (hi b : Int) (h0 : 0 ≤ hi) (h2 : 0 ≤ b) : cutT (hi + b) = if hi + b ≤ 1125899906842624 then hi + b else 1125899906842624 := by
  unfold cutT; split <;> split <;> first | omega | (split <;> omega)

set_option maxHeartbeats 1000000 in
theorem swiden_any (lo hi b : Int) (w : World) (h0 : R64 lo) (h1 : R64 hi) (h2 : R64 b) : Calls Try.prog 43 #[.agg #[.int .i64 lo, .int .i64 hi], .int .i64 b] w fun e w' => e = .returned (.tuple #[.agg #[.int .i64 (widL lo hi b), .int .i64 (widH lo hi b)], .int .i64 (widE lo hi b)]) ∧ Below w.heap.size w w' := by
  have HC := Lib.hid (fun w0 => checkwidth_any lo hi b w0 h0 h1)
  have H := Lib.hid (((St.start w).alloc w.heap.size rfl 28 #[.int .i64 lo, .int .i64 hi]).alloc (w.heap.size + 1) (by simp) 28 #[.int .i64 0, .int .i64 0])
  clear h0 h1 h2
  have key : (widE lo hi b = 0 ∧ (0 ≤ lo ∧ lo ≤ 1125899906842624 ∧ 0 ≤ hi ∧ hi ≤ 1125899906842624 ∧ 0 ≤ b ∧ b ≤ 1125899906842624) ∧ cutT (lo - b) = widL lo hi b ∧ cutT (hi + b) = widH lo hi b) ∨ (widE lo hi b = 52 ∧ widL lo hi b = 0 ∧ widH lo hi b = 0) ∨ (widE lo hi b = 50 ∧ widL lo hi b = 0 ∧ widH lo hi b = 0) := by
    rcases wid_cases lo hi b with ⟨e, -, -, h, h2, hL, hH⟩ | ⟨e, -, -, -, h2, hL, hH⟩ | ⟨e, -, -, hL, hH⟩
    · refine .inl ⟨e, by omega, ?_, ?_⟩
      · rw [hL, cut_low _ _ (by omega) (by omega) (by omega)]
      · rw [hH, cut_high _ _ (by omega) (by omega)]
    · exact .inr (.inl ⟨e, hL, hH⟩)
    · exact .inr (.inr ⟨e, hL, hH⟩)
  generalize widE lo hi b = E at *
  generalize widL lo hi b = L at *
  generalize widH lo hi b = M at *
  rcases key with ⟨rfl, k, hL, hH⟩ | ⟨rfl, rfl, rfl⟩ | ⟨rfl, rfl, rfl⟩
  · obtain ⟨k1, k2, k3, k4, k5, k6⟩ := k
    go_enter Try.func43, Try.ntmps43
    go_wp2_with fail
    refine (HC.out _).mono ?_
    rintro e w1 ⟨rfl, hb1⟩
    replace H := Lib.hid (H.out.call hb1)
    clear hb1
    obtain ⟨c1, e1, d1, f1, z1⟩ := H.out.two 1 w.heap.size rfl
    go_wp2_with fail
    refine (cut_any _ _ _).mono ?_
    rintro e w2 ⟨rfl, hb2⟩
    rw [hL, hH]
    replace H := Lib.hid (H.out.call hb2)
    clear hb2 c1 e1 d1 f1 z1
    obtain ⟨c0, e0, d0, f0, z0⟩ := H.out.two 0 (w.heap.size + 1) rfl
    go_wp2_with fail
    refine bodyPost_ret (by simp [results, Try.results43, go_sem, c0, e0, d0, f0, z0]; try rfl) rfl ?_
    refine ⟨rfl, ?_⟩
    have hb := H.out.below
    go_grown
  · go_enter Try.func43, Try.ntmps43
    go_wp2_with fail
    refine (HC.out _).mono ?_
    rintro e w1 ⟨rfl, hb1⟩
    replace H := Lib.hid (H.out.call hb1)
    clear hb1
    obtain ⟨c0, e0, d0, f0, z0⟩ := H.out.two 0 (w.heap.size + 1) rfl
    go_wp2_with fail
    refine bodyPost_ret (by simp [results, Try.results43, go_sem, c0, e0, d0, f0, z0]; try rfl) rfl ?_
    refine ⟨rfl, ?_⟩
    have hb := H.out.below
    go_grown
  · go_enter Try.func43, Try.ntmps43
    go_wp2_with fail
    refine (HC.out _).mono ?_
    rintro e w1 ⟨rfl, hb1⟩
    replace H := Lib.hid (H.out.call hb1)
    clear hb1
    obtain ⟨c0, e0, d0, f0, z0⟩ := H.out.two 0 (w.heap.size + 1) rfl
    go_wp2_with fail
    refine bodyPost_ret (by simp [results, Try.results43, go_sem, c0, e0, d0, f0, z0]; try rfl) rfl ?_
    refine ⟨rfl, ?_⟩
    have hb := H.out.below
    go_grown

theorem saround_any (t b : Int) (w : World) (h0 : R64 t) (h2 : R64 b) : Calls Try.prog 37 #[.int .i64 t, .int .i64 b] w fun e w' => e = .returned (.tuple #[.agg #[.int .i64 (widL t t b), .int .i64 (widH t t b)], .int .i64 (widE t t b)]) ∧ Below w.heap.size w w' := by
  have HC := Lib.hid (fun w0 => swiden_any t t b w0 h0 h0 h2)
  have H := Lib.hid ((St.start w).alloc w.heap.size rfl 28 #[.int .i64 0, .int .i64 0])
  clear h0 h2
  generalize widE t t b = E at *
  generalize widL t t b = L at *
  generalize widH t t b = M at *
  go_enter Try.func37, Try.ntmps37
  go_wp2_with fail
  refine (HC.out _).mono ?_
  rintro e w1 ⟨rfl, hb1⟩
  replace H := Lib.hid (H.out.call hb1)
  clear hb1
  obtain ⟨c0, e0, d0, f0, z0⟩ := H.out.two 0 w.heap.size rfl
  go_wp2_with fail
  refine bodyPost_ret (by simp [results, Try.results37, go_sem, c0, e0, d0, f0, z0]; try rfl) rfl ?_
  refine ⟨rfl, ?_⟩
  have hb := H.out.below
  go_grown

@[go_sem] theorem w_lt1 (x : Nat) (h : x < 18446744073709551616) : (FloatKind.f64.format.order x 4607182418800017408 == some .lt) = decide (x < 4607182418800017408 ∨ 9223372036854775808 ≤ x ∧ x ≤ 18442240474082181120) := by
  rw [order_lt, nan_dec x h, nan_dec 4607182418800017408 (by decide), val_lt (x := 4607182418800017408) (by decide)]
  by_cases g : x < 9223372036854775808
  · rw [val_lt g, Bool.eq_iff_iff]; simp; omega
  · rw [val_ge (by omega) h, Bool.eq_iff_iff]; simp; omega
@[go_sem] theorem w_eq1 (x : Nat) (h : x < 18446744073709551616) : (FloatKind.f64.format.order x 4607182418800017408 == some .eq) = decide (x = 4607182418800017408) := by
  rw [order_eqs, nan_dec x h, nan_dec 4607182418800017408 (by decide), val_lt (x := 4607182418800017408) (by decide)]
  by_cases g : x < 9223372036854775808
  · rw [val_lt g, Bool.eq_iff_iff]; simp; omega
  · rw [val_ge (by omega) h, Bool.eq_iff_iff]; simp; omega
theorem israte_any (x : Nat) (hx : x < 18446744073709551616) (w : World) : Calls Try.prog 45 #[.float .f64 x] w fun e w' => e = .returned (.bool (rated x)) ∧ w' = w := by
  go_enter Try.func45, Try.ntmps45
  go_wp2
  all_goals go_ret
  all_goals
    refine ⟨ret_bool ?_, rfl⟩
    unfold rated
    rw [Bool.eq_iff_iff]
    simp
    omega

theorem timesT_value {n : Int} {x : Nat} (hn : isT n = true) (hr : rated x = true) : timesR (-n) x = .tuple #[.int .i64 (-moreT n x), .int .i64 0] := by
  obtain ⟨h1, h2⟩ := (isT_iff n).1 hn
  obtain ⟨h3, h4⟩ := more_range n x h1 hr
  rw [timesR_num (rated_nan hr).1 (rated_nan hr).2]
  have e : prodF (-n) x = -moreT n x := by unfold moreT; omega
  rw [e]
  have hf : fits (-moreT n x) = true := by unfold fits; simp only [decide_eq_true_eq]; omega
  unfold fitV
  rw [hf]; rfl
theorem upwards_any (n : Int) (x : Nat) (hx : x < 18446744073709551616) (hn : isT n = true) (hr : rated x = true) (w : World) : Calls Try.prog 46 #[.int .i64 n, .float .f64 x] w fun e w' => e = .returned (.int .i64 (moreT n x)) ∧ Below w.heap.size w w' := by
  obtain ⟨h1, h2⟩ := (isT_iff n).1 hn
  obtain ⟨h3, h4⟩ := more_range n x h1 hr
  have HT := Lib.hid (fun w0 => times_any (-n) x hx (by omega) (by omega) w0)
  rw [timesT_value hn hr] at HT
  generalize moreT n x = m at *
  clear hn hr hx
  go_enter Try.func46, Try.ntmps46
  go_wp2_with fail
  refine (HT.out _).mono ?_
  rintro e w1 ⟨rfl, hb1⟩
  go_wp2_with fail
  go_ret
  exact ⟨by first | rfl | (simp [go_sem]; omega), hb1⟩

set_option maxHeartbeats 2000000 in
theorem sdrift_any (lo hi n : Int) (x : Nat) (hx : x < 18446744073709551616) (w : World) (h0 : R64 lo) (h1 : R64 hi) (h2 : R64 n) : Calls Try.prog 38 #[.agg #[.int .i64 lo, .int .i64 hi], .int .i64 n, .float .f64 x] w fun e w' => e = .returned (.tuple #[.agg #[.int .i64 (driL lo hi n x), .int .i64 (driH lo hi n x)], .int .i64 (driE lo hi n x)]) ∧ Below w.heap.size w w' := by
  have HC := Lib.hid (fun w0 => checkwidth_any lo hi n w0 h0 h1)
  have HR := Lib.hid (fun w0 => israte_any x hx w0)
  have H := Lib.hid (((St.start w).alloc w.heap.size rfl 28 #[.int .i64 lo, .int .i64 hi]).alloc (w.heap.size + 1) (by simp) 28 #[.int .i64 0, .int .i64 0])
  have wide : ∀ b, widE lo hi b = if isS lo hi then (if isT b then 0 else 52) else 50 := fun _ => rfl
  rcases dri_cases lo hi n x with ⟨e, g1, g2, g3, hL, hH, hE⟩ | ⟨e, g1, g2, g3, hL, hH⟩ | ⟨e, g1, g2, hL, hH⟩ | ⟨e, g1, hL, hH⟩
  · rw [e, hL, hH]
    rw [wide, g1, g2] at HC
    clear wide e hL hH
    have HU := Lib.hid (fun w0 => upwards_any n x hx g2 g3 w0)
    have HW := Lib.hid (fun w0 => swiden_any lo hi (moreT n x) w0 h0 h1 (by have := more_range n x ((isT_iff n).1 g2).1 g3; have := (isT_iff n).1 g2; exact ⟨by omega, by omega⟩))
    rw [hE] at HW
    generalize moreT n x = m at *
    generalize widL lo hi m = L at *
    generalize widH lo hi m = M at *
    clear hE
    rw [g3] at HR
    clear h0 h1 h2 g1 g2 g3
    go_enter Try.func38, Try.ntmps38
    go_wp2_with fail
    refine (HC.out _).mono ?_
    rintro e w1 ⟨rfl, hb1⟩
    replace H := Lib.hid (H.out.call hb1)
    clear hb1
    go_wp2_with fail
    refine (HR.out _).mono ?_
    rintro e w2 ⟨rfl, rfl⟩
    obtain ⟨C, hC, HCc, HCf⟩ := H.out.class
    clear H
    go_wp2_with fail
    refine region_inT 7 C hC (by kernel_rfl) (by kernel_rfl) ?_
    simp only [List.take_succ_cons, List.take_zero, List.drop_succ_cons, List.drop_zero]
    iterate 7
      (refine WQ.step (fun K hK => ?_)
       go_simp
       first
         | (refine hK _ ?_; clear hK K)
         | (apply Exists.intro
            refine ⟨fun x hx => ?_, hK _ ?_⟩
            · first
                | rfl
                | (go_at_call 46; refine (HU.out _).mono ?_; rintro e x1 ⟨rfl, hb⟩; exact ⟨rfl, HCc.out _ _ hx hb⟩)
                | (go_at_call 43; refine (HW.out _).mono ?_; rintro e x1 ⟨rfl, hb⟩; exact ⟨rfl, HCc.out _ _ hx hb⟩)
                | (have HX := HCf.out _ hx
                   obtain ⟨c0, e0, d0, f0, z0⟩ := HX.two 0 (w.heap.size + 1) rfl
                   obtain ⟨c1, e1, d1, f1, z1⟩ := HX.two 1 w.heap.size rfl
                   clear HX
                   go_simp
                   rfl)
            clear hK K))
    refine WQ.nil ?_
    intro w7 hw
    have H7 := Lib.hid (HCf.out _ hw)
    clear hw hC HCc HCf C
    obtain ⟨c0, e0, d0, f0, z0⟩ := H7.out.two 0 (w.heap.size + 1) rfl
    go_wp2_with fail
    refine bodyPost_ret (by simp [results, Try.results38, go_sem, c0, e0, d0, f0, z0]; try rfl) rfl ?_
    refine ⟨rfl, ?_⟩
    have hb := H7.out.below
    go_grown
  · rw [e, hL, hH]
    rw [wide, g1, g2] at HC
    clear wide e hL hH
    rw [g3] at HR
    clear h0 h1 h2 g1 g2 g3
    go_enter Try.func38, Try.ntmps38
    go_wp2_with fail
    refine (HC.out _).mono ?_
    rintro e w1 ⟨rfl, hb1⟩
    replace H := Lib.hid (H.out.call hb1)
    clear hb1
    obtain ⟨c0, e0, d0, f0, z0⟩ := H.out.two 0 (w.heap.size + 1) rfl
    go_wp2_with fail
    refine (HR.out _).mono ?_
    rintro e w2 ⟨rfl, rfl⟩
    go_wp2_with fail
    refine bodyPost_ret (by simp [results, Try.results38, go_sem, c0, e0, d0, f0, z0]; try rfl) rfl ?_
    refine ⟨rfl, ?_⟩
    have hb := H.out.below
    go_grown
  · rw [e, hL, hH]
    rw [wide, g1, g2] at HC
    clear wide e hL hH
    clear h0 h1 h2 g1  g2
    go_enter Try.func38, Try.ntmps38
    go_wp2_with fail
    refine (HC.out _).mono ?_
    rintro e w1 ⟨rfl, hb1⟩
    replace H := Lib.hid (H.out.call hb1)
    clear hb1
    obtain ⟨c0, e0, d0, f0, z0⟩ := H.out.two 0 (w.heap.size + 1) rfl
    go_wp2_with fail
    refine bodyPost_ret (by simp [results, Try.results38, go_sem, c0, e0, d0, f0, z0]; try rfl) rfl ?_
    refine ⟨rfl, ?_⟩
    have hb := H.out.below
    go_grown
  · rw [e, hL, hH]
    rw [wide, g1] at HC
    clear wide e hL hH
    clear h0 h1 h2 g1 
    go_enter Try.func38, Try.ntmps38
    go_wp2_with fail
    refine (HC.out _).mono ?_
    rintro e w1 ⟨rfl, hb1⟩
    replace H := Lib.hid (H.out.call hb1)
    clear hb1
    obtain ⟨c0, e0, d0, f0, z0⟩ := H.out.two 0 (w.heap.size + 1) rfl
    go_wp2_with fail
    refine bodyPost_ret (by simp [results, Try.results38, go_sem, c0, e0, d0, f0, z0]; try rfl) rfl ?_
    refine ⟨rfl, ?_⟩
    have hb := H.out.below
    go_grown

end Go.Proofs.Ytjpalcolhagpcaa
