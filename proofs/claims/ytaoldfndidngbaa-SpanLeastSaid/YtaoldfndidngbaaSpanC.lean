/- Contracts of the document's answers at layer 5: Time, Is, Widen, Rated, Drift, Has, Meet. -/
import Derived.Test.YtaoldfndidngbaaMem
import Derived.Test.YtaoldfndidngbaaAmtO
import Derived.Test.YtaoldfndidngbaaSpanM
namespace Go.Proofs.Ytaoldfndidngbaa
open Go.RowKit Go.Sp Go.Fl
set_option linter.unusedVariables false
set_option linter.unusedSimpArgs false

theorem rtime_any (n : Int) (w : World) : Calls Try.prog 29 #[.int .i64 n] w fun e w' => e = .returned (.bool (isT n)) ∧ w' = w := by
  cases h : isT n with
  | true =>
    obtain ⟨h0, h1⟩ := (isT_iff n).1 h
    clear h
    go_enter Try.func29, Try.ntmps29
    go_wp2_with fail
    go_ret
    exact ⟨by first | rfl | (simp [*]; try omega), rfl⟩
  | false =>
    have h1 := (isT_no n).1 h
    clear h
    by_cases h0 : 0 ≤ n
    · have h2 : 1125899906842624 < n := by omega
      clear h1
      go_enter Try.func29, Try.ntmps29
      go_wp2_with fail
      all_goals
        go_ret
        exact ⟨by first | rfl | (simp [*]; try omega), rfl⟩
    · have h2 : n < 0 := by omega
      clear h1
      go_enter Try.func29, Try.ntmps29
      go_wp2_with fail
      all_goals
        go_ret
        exact ⟨by first | rfl | (simp [*]; try omega), rfl⟩

theorem ris_any (lo hi : Int) (w : World) : Calls Try.prog 17 #[.agg #[.int .i64 lo, .int .i64 hi]] w fun e w' => e = .returned (.bool (isS lo hi)) ∧ Below w.heap.size w w' := by
  have HA := Lib.hid (fun w0 => rtime_any lo w0)
  have HB := Lib.hid (fun w0 => rtime_any hi w0)
  have HK := Lib.hid ((Knows.nil w).alloc w.heap.size rfl 23 #[.int .i64 lo, .int .i64 hi])
  have HZ := Lib.hid ((Below.refl w.heap.size w).alloc (Nat.le_refl _) (.cells #[.int .i64 lo, .int .i64 hi] 23))
  cases h1 : isT lo with
  | false =>
    have HE : Hid (isS lo hi = false) := Lib.hid ((isS_no lo hi).2 (by have := (isT_no lo).1 h1; omega))
    rw [h1] at HA
    clear h1
    go_enter Try.func17, Try.ntmps17
    go_wp2_with fail
    refine (HA.out _).mono ?_
    rintro e w1 ⟨rfl, rfl⟩
    go_wp2_with fail
    go_ret
    exact ⟨by rw [HE.out]; rfl, HZ.out⟩
  | true =>
    rw [h1] at HA
    cases h2 : isT hi with
    | false =>
      have HE : Hid (isS lo hi = false) := Lib.hid ((isS_no lo hi).2 (by have := (isT_no hi).1 h2; have := (isT_iff lo).1 h1; omega))
      rw [h2] at HB
      clear h1 h2
      go_enter Try.func17, Try.ntmps17
      go_wp2_with fail
      refine (HA.out _).mono ?_
      rintro e w1 ⟨rfl, rfl⟩
      go_wp2_with fail
      refine (HB.out _).mono ?_
      rintro e w1 ⟨rfl, rfl⟩
      go_wp2_with fail
      go_ret
      exact ⟨by rw [HE.out]; rfl, HZ.out⟩
    | true =>
      rw [h2] at HB
      have HE : Hid (isS lo hi = decide (lo ≤ hi)) := Lib.hid (by
        have := (isT_iff hi).1 h2
        have := (isT_iff lo).1 h1
        unfold isS; rw [decide_eq_decide]; omega)
      clear h1 h2
      go_enter Try.func17, Try.ntmps17
      go_wp2_with fail
      refine (HA.out _).mono ?_
      rintro e w1 ⟨rfl, rfl⟩
      go_wp2_with fail
      refine (HB.out _).mono ?_
      rintro e w1 ⟨rfl, rfl⟩
      go_wp2_with fail
      go_ret
      exact ⟨by rw [HE.out]; first | rfl | simp, HZ.out⟩

theorem rwiden_any (lo hi b : Int) (w : World) : Calls Try.prog 13 #[.agg #[.int .i64 lo, .int .i64 hi], .int .i64 b] w fun e w' => e = .returned (.tuple #[.agg #[.int .i64 (widL lo hi b), .int .i64 (widH lo hi b)], .int .i64 (widE lo hi b)]) ∧ Below w.heap.size w w' := by
  have HS := Lib.hid (fun w0 => ris_any lo hi w0)
  have HT := Lib.hid (fun w0 => rtime_any b w0)
  have HK := Lib.hid (((Knows.nil w).alloc w.heap.size rfl 23 #[.int .i64 lo, .int .i64 hi]).alloc (w.heap.size + 1) (by simp) 23 #[.int .i64 0, .int .i64 0])
  have HZ := Lib.hid (((Below.refl w.heap.size w).alloc (Nat.le_refl _) (.cells #[.int .i64 lo, .int .i64 hi] 23)).alloc (by simp) (.cells #[.int .i64 0, .int .i64 0] 23))
  rcases wid_cases lo hi b with ⟨hE, h1, h2, ⟨l0, l1, l2⟩, ⟨b0, b1⟩, hL, hH⟩ | ⟨hE, h1, h2, ⟨l0, l1, l2⟩, b0, hL, hH⟩ | ⟨hE, h1, h0, hL, hH⟩
  · have HE := Lib.hid hE
    have HL := Lib.hid hL
    have HH := Lib.hid hH
    rw [h1] at HS
    rw [h2] at HT
    clear h1 h2 hE hL hH
    have key : (lo ≤ b ∨ b < lo) ∧ (hi + b ≤ 1125899906842624 ∧ b ≤ 1125899906842624 - hi ∨ 1125899906842624 < hi + b ∧ 1125899906842624 - hi < b) := by omega
    obtain ⟨k1 | k1, ⟨k2, k3⟩ | ⟨k2, k3⟩⟩ := key
    all_goals
      go_enter Try.func13, Try.ntmps13
      go_wp2_with fail
      refine (HS.out _).mono ?_
      rintro e w1 ⟨rfl, hb1⟩
      have HK1 := Lib.hid (HK.out.keep hb1)
      have HB1 := Lib.hid (HZ.out.trans (hb1.mono HZ.out.size))
      obtain ⟨g0, g1, f0, f1, z0⟩ := HK1.out.two 0 (w.heap.size + 1) rfl
      obtain ⟨g2, g3, f2, f3, z2⟩ := HK1.out.two 1 w.heap.size rfl
      have hz1 := HB1.out.size
      clear hb1
      go_wp2_with fail
      refine (HT.out _).mono ?_
      rintro e w2 ⟨rfl, rfl⟩
      go_wp2_with fail
      refine bodyPost_ret (by simp [results, Try.results13, go_sem, g0, g1, f0, f1, g2, g3, f2, f3, z0, z2]; try rfl) rfl ?_
      refine ⟨?_, ?_⟩
      · rw [HE.out, HL.out, HH.out]
        (repeat' split) <;> first | rfl | omega
      · have hb := HB1.out
        go_grown
  · have HE := Lib.hid hE
    have HL := Lib.hid hL
    have HH := Lib.hid hH
    rw [h1] at HS
    rw [h2] at HT
    clear h1 h2 b0 hE hL hH
    go_enter Try.func13, Try.ntmps13
    go_wp2_with fail
    refine (HS.out _).mono ?_
    rintro e w1 ⟨rfl, hb1⟩
    have HK1 := Lib.hid (HK.out.keep hb1)
    have HB1 := Lib.hid (HZ.out.trans (hb1.mono HZ.out.size))
    obtain ⟨g0, g1, f0, f1, z0⟩ := HK1.out.two 0 (w.heap.size + 1) rfl
    clear hb1
    go_wp2_with fail
    refine (HT.out _).mono ?_
    rintro e w2 ⟨rfl, rfl⟩
    go_wp2_with fail
    refine bodyPost_ret (by simp [results, Try.results13, go_sem, g0, g1, f0, f1]; try rfl) rfl ?_
    refine ⟨by rw [HE.out, HL.out, HH.out], ?_⟩
    have hb := HB1.out
    go_grown
  · have HE := Lib.hid hE
    have HL := Lib.hid hL
    have HH := Lib.hid hH
    rw [h1] at HS
    clear h1 h0 hE hL hH
    go_enter Try.func13, Try.ntmps13
    go_wp2_with fail
    refine (HS.out _).mono ?_
    rintro e w1 ⟨rfl, hb1⟩
    have HK1 := Lib.hid (HK.out.keep hb1)
    have HB1 := Lib.hid (HZ.out.trans (hb1.mono HZ.out.size))
    obtain ⟨g0, g1, f0, f1, z0⟩ := HK1.out.two 0 (w.heap.size + 1) rfl
    clear hb1
    go_wp2_with fail
    refine bodyPost_ret (by simp [results, Try.results13, go_sem, g0, g1, f0, f1]; try rfl) rfl ?_
    refine ⟨by rw [HE.out, HL.out, HH.out], ?_⟩
    have hb := HB1.out
    go_grown
theorem rated_of (x : Nat) (hx : x < 18446744073709551616) : (cls x = 3 → rated x = true) ∧ (cls x = 4 → rated x = true) ∧
    (cls x = 5 → rated x = ((FloatKind.f64.format.order x 4607182418800017408 == some .lt) || (FloatKind.f64.format.order x 4607182418800017408 == some .eq))) ∧ (cls x ≠ 3 → cls x ≠ 4 → cls x ≠ 5 → rated x = false) := by
  have hr : rated x = decide (x ≤ 4607182418800017408 ∨ x = 9223372036854775808) := rfl
  refine ⟨fun h => ?_, fun h => ?_, fun h => ?_, fun h3 h4 h5 => ?_⟩
  · rw [hr, decide_eq_true_eq]; unfold cls at h; (repeat' split at h) <;> omega
  · rw [hr, decide_eq_true_eq]; unfold cls at h; (repeat' split at h) <;> omega
  · have hb : 0 < x ∧ x < 9218868437227405312 := by unfold cls at h; (repeat' split at h) <;> omega
    have hn : nan x = false := by rw [nan_dec x hx, decide_eq_false_iff_not]; omega
    have h1 : nan 4607182418800017408 = false := by rw [nan_dec _ (by omega), decide_eq_false_iff_not]; omega
    rw [order_lt, order_eqs, hn, h1, val_lt (x := x) (by omega), val_lt (x := 4607182418800017408) (by omega), hr]
    simp only [Bool.not_false, Bool.true_and]
    rw [← Bool.decide_or, decide_eq_decide]
    omega
  · rw [hr, decide_eq_false_iff_not]; unfold cls at h3 h4 h5; (repeat' split at h3) <;> omega
theorem rrated_any (x : Nat) (hx : x < 18446744073709551616) (w : World) : Calls Try.prog 32 #[.float .f64 x] w fun e w' => e = .returned (.bool (rated x)) ∧ w' = w := by
  obtain ⟨r3, r4, r5, r0⟩ := rated_of x hx
  have HC := Lib.hid (fun w0 => rcls_any x hx w0)
  by_cases h3 : cls x = 3
  · have HR := Lib.hid (r3 h3)
    rw [h3] at HC
    clear r3 r4 r5 r0 h3
    go_enter Try.func32, Try.ntmps32
    go_wp2_with fail
    refine (HC.out _).mono ?_
    rintro e w1 ⟨rfl, rfl⟩
    go_wp2_with fail
    go_ret
    exact ⟨by rw [HR.out]; rfl, rfl⟩
  · by_cases h4 : cls x = 4
    · have HR := Lib.hid (r4 h4)
      rw [h4] at HC
      clear r3 r4 r5 r0 h3 h4
      go_enter Try.func32, Try.ntmps32
      go_wp2_with fail
      refine (HC.out _).mono ?_
      rintro e w1 ⟨rfl, rfl⟩
      go_wp2_with fail
      go_ret
      exact ⟨by rw [HR.out]; rfl, rfl⟩
    · by_cases h5 : cls x = 5
      · have HR := Lib.hid (r5 h5)
        rw [h5] at HC
        clear r3 r4 r5 r0 h3 h4 h5
        go_enter Try.func32, Try.ntmps32
        go_wp2_with fail
        refine (HC.out _).mono ?_
        rintro e w1 ⟨rfl, rfl⟩
        go_wp2_with fail
        go_ret
        exact ⟨by rw [HR.out]; rfl, rfl⟩
      · have HR := Lib.hid (r0 h3 h4 h5)
        clear r3 r4 r5 r0
        generalize cls x = q at *
        have e3 : (q == 3) = false := by simpa using h3
        have e4 : (q == 4) = false := by simpa using h4
        have e5 : (q == 5) = false := by simpa using h5
        clear h3 h4 h5
        go_enter Try.func32, Try.ntmps32
        go_wp2_with fail
        refine (HC.out _).mono ?_
        rintro e w1 ⟨rfl, rfl⟩
        go_wp2_with fail
        go_ret
        exact ⟨by rw [HR.out]; rfl, rfl⟩


theorem prodT_value {n : Int} {x : Nat} (hn : isT n = true) (hr : rated x = true) : prodR n x true = .tuple #[.int .i64 (moreT n x), .int .i64 0] := by
  obtain ⟨h1, h2⟩ := (isT_iff n).1 hn
  obtain ⟨h3, h4⟩ := more_range n x h1 hr
  rw [prodR_num (rated_nan hr).1 (rated_nan hr).2]
  show fitV (-prodF (-n) x) = _
  have e : -prodF (-n) x = moreT n x := rfl
  rw [e]
  have hf : fits (moreT n x) = true := by unfold fits; simp only [decide_eq_true_eq]; omega
  unfold fitV
  rw [hf]; rfl

theorem rdrift_any (lo hi n : Int) (x : Nat) (hx : x < 18446744073709551616) (w : World) : Calls Try.prog 19 #[.agg #[.int .i64 lo, .int .i64 hi], .int .i64 n, .float .f64 x] w fun e w' => e = .returned (.tuple #[.agg #[.int .i64 (driL lo hi n x), .int .i64 (driH lo hi n x)], .int .i64 (driE lo hi n x)]) ∧ Below w.heap.size w w' := by
  have HS := Lib.hid (fun w0 => ris_any lo hi w0)
  have HT := Lib.hid (fun w0 => rtime_any n w0)
  have HR := Lib.hid (fun w0 => rrated_any x hx w0)
  have HK := Lib.hid (((Knows.nil w).alloc w.heap.size rfl 23 #[.int .i64 lo, .int .i64 hi]).alloc (w.heap.size + 1) (by simp) 23 #[.int .i64 0, .int .i64 0])
  have HZ := Lib.hid (((Below.refl w.heap.size w).alloc (Nat.le_refl _) (.cells #[.int .i64 lo, .int .i64 hi] 23)).alloc (by simp) (.cells #[.int .i64 0, .int .i64 0] 23))
  rcases dri_cases lo hi n x with ⟨hE, h1, h2, h3, hL, hH, hW⟩ | ⟨hE, h1, h2, h3, hL, hH⟩ | ⟨hE, h1, h2, hL, hH⟩ | ⟨hE, h1, hL, hH⟩
  · have HE := Lib.hid hE
    have HL := Lib.hid hL
    have HH := Lib.hid hH
    have hn := (isT_iff n).1 h2
    have HP := Lib.hid (fun w0 => rprod_any n x true hx (by omega) (by omega) w0)
    rw [prodT_value h2 h3] at HP
    have HW := Lib.hid (fun w0 => rwiden_any lo hi (moreT n x) w0)
    rw [hW] at HW
    rw [h1] at HS
    rw [h2] at HT
    rw [h3] at HR
    generalize moreT n x = m at *
    clear h1 h2 h3 hn hE hL hH hW
    go_enter Try.func19, Try.ntmps19
    go_wp2_with fail
    refine (HS.out _).mono ?_
    rintro e w1 ⟨rfl, hb1⟩
    have HK1 := Lib.hid (HK.out.keep hb1)
    have HB1 := Lib.hid (HZ.out.trans (hb1.mono HZ.out.size))
    clear hb1
    go_wp2_with fail
    refine (HT.out _).mono ?_
    rintro e w2 ⟨rfl, rfl⟩
    go_wp2_with fail
    refine (HR.out _).mono ?_
    rintro e w3 ⟨rfl, rfl⟩
    go_wp2_with fail
    refine (HP.out _).mono ?_
    rintro e w4 ⟨rfl, hb4⟩
    have HK4 := Lib.hid (HK1.out.keep hb4)
    have HB4 := Lib.hid (HB1.out.trans (hb4.mono HB1.out.size))
    obtain ⟨g2, g3, f2, f3, z2⟩ := HK4.out.two 1 w.heap.size rfl
    clear hb4
    go_wp2_with fail
    refine (HW.out _).mono ?_
    rintro e w5 ⟨rfl, hb5⟩
    have HK5 := Lib.hid (HK4.out.keep hb5)
    have HB5 := Lib.hid (HB4.out.trans (hb5.mono HB4.out.size))
    clear hb5 g2 g3 f2 f3 z2
    obtain ⟨g0, g1, f0, f1, z0⟩ := HK5.out.two 0 (w.heap.size + 1) rfl
    go_wp2_with fail
    refine bodyPost_ret (by simp [results, Try.results19, go_sem, g0, g1, f0, f1, z0]; try rfl) rfl ?_
    refine ⟨by rw [HE.out, HL.out, HH.out], ?_⟩
    have hb := HB5.out
    go_grown
  · have HE := Lib.hid hE
    have HL := Lib.hid hL
    have HH := Lib.hid hH
    rw [h1] at HS
    rw [h2] at HT
    rw [h3] at HR
    clear h1 h2 h3 hE hL hH
    go_enter Try.func19, Try.ntmps19
    go_wp2_with fail
    refine (HS.out _).mono ?_
    rintro e w1 ⟨rfl, hb1⟩
    have HK1 := Lib.hid (HK.out.keep hb1)
    have HB1 := Lib.hid (HZ.out.trans (hb1.mono HZ.out.size))
    obtain ⟨g0, g1, f0, f1, z0⟩ := HK1.out.two 0 (w.heap.size + 1) rfl
    clear hb1
    go_wp2_with fail
    refine (HT.out _).mono ?_
    rintro e w2 ⟨rfl, rfl⟩
    go_wp2_with fail
    refine (HR.out _).mono ?_
    rintro e w3 ⟨rfl, rfl⟩
    go_wp2_with fail
    refine bodyPost_ret (by simp [results, Try.results19, go_sem, g0, g1, f0, f1, z0]; try rfl) rfl ?_
    refine ⟨by rw [HE.out, HL.out, HH.out], ?_⟩
    have hb := HB1.out
    go_grown
  · have HE := Lib.hid hE
    have HL := Lib.hid hL
    have HH := Lib.hid hH
    rw [h1] at HS
    rw [h2] at HT
    clear h1 h2 hE hL hH
    go_enter Try.func19, Try.ntmps19
    go_wp2_with fail
    refine (HS.out _).mono ?_
    rintro e w1 ⟨rfl, hb1⟩
    have HK1 := Lib.hid (HK.out.keep hb1)
    have HB1 := Lib.hid (HZ.out.trans (hb1.mono HZ.out.size))
    obtain ⟨g0, g1, f0, f1, z0⟩ := HK1.out.two 0 (w.heap.size + 1) rfl
    clear hb1
    go_wp2_with fail
    refine (HT.out _).mono ?_
    rintro e w2 ⟨rfl, rfl⟩
    go_wp2_with fail
    refine bodyPost_ret (by simp [results, Try.results19, go_sem, g0, g1, f0, f1, z0]; try rfl) rfl ?_
    refine ⟨by rw [HE.out, HL.out, HH.out], ?_⟩
    have hb := HB1.out
    go_grown
  · have HE := Lib.hid hE
    have HL := Lib.hid hL
    have HH := Lib.hid hH
    rw [h1] at HS
    clear h1 hE hL hH
    go_enter Try.func19, Try.ntmps19
    go_wp2_with fail
    refine (HS.out _).mono ?_
    rintro e w1 ⟨rfl, hb1⟩
    have HK1 := Lib.hid (HK.out.keep hb1)
    have HB1 := Lib.hid (HZ.out.trans (hb1.mono HZ.out.size))
    obtain ⟨g0, g1, f0, f1, z0⟩ := HK1.out.two 0 (w.heap.size + 1) rfl
    clear hb1
    go_wp2_with fail
    refine bodyPost_ret (by simp [results, Try.results19, go_sem, g0, g1, f0, f1, z0]; try rfl) rfl ?_
    refine ⟨by rw [HE.out, HL.out, HH.out], ?_⟩
    have hb := HB1.out
    go_grown
end Go.Proofs.Ytaoldfndidngbaa
