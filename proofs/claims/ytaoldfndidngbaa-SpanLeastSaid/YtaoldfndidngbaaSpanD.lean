/- Contracts of the document's answers at layer 5: Has, Meet, Join; spans as cells. -/
import Derived.Test.YtaoldfndidngbaaSpanC
namespace Go.Proofs.Ytaoldfndidngbaa
open Go.RowKit Go.Sp Go.Fl
set_option linter.unusedVariables false
set_option linter.unusedSimpArgs false

theorem rhas_any (lo hi t : Int) (w : World) : Calls Try.prog 23 #[.agg #[.int .i64 lo, .int .i64 hi], .int .i64 t] w fun e w' => e = .returned (.bool (hasB lo hi t)) ∧ Below w.heap.size w w' := by
  have HS := Lib.hid (fun w0 => ris_any lo hi w0)
  have HK := Lib.hid ((Knows.nil w).alloc w.heap.size rfl 23 #[.int .i64 lo, .int .i64 hi])
  have HZ := Lib.hid ((Below.refl w.heap.size w).alloc (Nat.le_refl _) (.cells #[.int .i64 lo, .int .i64 hi] 23))
  have key : (isS lo hi = false ∧ hasB lo hi t = false) ∨ (isS lo hi = true ∧ t < lo ∧ hasB lo hi t = false) ∨ (isS lo hi = true ∧ lo ≤ t ∧ hi < t ∧ hasB lo hi t = false) ∨ (isS lo hi = true ∧ lo ≤ t ∧ t ≤ hi ∧ hasB lo hi t = true) := by
    unfold hasB
    cases isS lo hi with
    | false => exact .inl ⟨rfl, rfl⟩
    | true =>
      right
      simp
      omega
  rcases key with ⟨h1, hE⟩ | ⟨h1, h2, hE⟩ | ⟨h1, h2, h3, hE⟩ | ⟨h1, h2, h3, hE⟩
  all_goals
    have HE := Lib.hid hE
    rw [h1] at HS
    clear h1 hE
    go_enter Try.func23, Try.ntmps23
    go_wp2_with fail
    refine (HS.out _).mono ?_
    rintro e w1 ⟨rfl, hb1⟩
    have HK1 := Lib.hid (HK.out.keep hb1)
    have HB1 := Lib.hid (HZ.out.trans (hb1.mono HZ.out.size))
    obtain ⟨g0, g1, f0, f1, z0⟩ := HK1.out.two 0 w.heap.size rfl
    clear hb1
    go_wp2_with fail
    go_ret
    exact ⟨by rw [HE.out]; first | rfl | (simp; omega), HB1.out⟩

theorem met_cases (lo hi lo' hi' : Int) : (isS lo hi = false ∧ metB lo hi lo' hi' = false ∧ mL lo hi lo' hi' = 0 ∧ mH lo hi lo' hi' = 0) ∨ (isS lo hi = true ∧ isS lo' hi' = false ∧ metB lo hi lo' hi' = false ∧ mL lo hi lo' hi' = 0 ∧ mH lo hi lo' hi' = 0) ∨
    (isS lo hi = true ∧ isS lo' hi' = true ∧ metB lo hi lo' hi' = false ∧ metH hi hi' < metL lo lo' ∧ mL lo hi lo' hi' = 0 ∧ mH lo hi lo' hi' = 0) ∨
    (isS lo hi = true ∧ isS lo' hi' = true ∧ metB lo hi lo' hi' = true ∧ metL lo lo' ≤ metH hi hi' ∧ mL lo hi lo' hi' = metL lo lo' ∧ mH lo hi lo' hi' = metH hi hi') := by
  unfold mL mH metB
  cases isS lo hi with
  | false => exact .inl ⟨rfl, rfl, rfl, rfl⟩
  | true =>
    cases isS lo' hi' with
    | false => exact .inr (.inl ⟨rfl, rfl, rfl, rfl, rfl⟩)
    | true =>
      by_cases h : metL lo lo' ≤ metH hi hi'
      · exact .inr (.inr (.inr ⟨rfl, rfl, by simp [h], h, by simp [h], by simp [h]⟩))
      · exact .inr (.inr (.inl ⟨rfl, rfl, by simp [h], by omega, by simp [h], by simp [h]⟩))

set_option maxHeartbeats 2000000 in
theorem rmeet_any (lo hi lo' hi' : Int) (w : World) : Calls Try.prog 21 #[.agg #[.int .i64 lo, .int .i64 hi], .agg #[.int .i64 lo', .int .i64 hi']] w fun e w' => e = .returned (.tuple #[.agg #[.int .i64 (mL lo hi lo' hi'), .int .i64 (mH lo hi lo' hi')], .bool (metB lo hi lo' hi')]) ∧ Below w.heap.size w w' := by
  have HS := Lib.hid (fun w0 => ris_any lo hi w0)
  have HT := Lib.hid (fun w0 => ris_any lo' hi' w0)
  have HK := Lib.hid ((((Knows.nil w).alloc w.heap.size rfl 23 #[.int .i64 lo, .int .i64 hi]).alloc (w.heap.size + 1) (by simp) 23 #[.int .i64 lo', .int .i64 hi']).alloc (w.heap.size + 2) (by simp) 23 #[.int .i64 0, .int .i64 0])
  have HZ := Lib.hid ((((Below.refl w.heap.size w).alloc (Nat.le_refl _) (.cells #[.int .i64 lo, .int .i64 hi] 23)).alloc (by simp) (.cells #[.int .i64 lo', .int .i64 hi'] 23)).alloc (by simp; omega) (.cells #[.int .i64 0, .int .i64 0] 23))
  rcases met_cases lo hi lo' hi' with ⟨h1, hE, hL, hH⟩ | ⟨h1, h2, hE, hL, hH⟩ | ⟨h1, h2, hE, h3, hL, hH⟩ | ⟨h1, h2, hE, h3, hL, hH⟩
  · have HE := Lib.hid hE
    have HL := Lib.hid hL
    have HH := Lib.hid hH
    rw [h1] at HS
    clear h1 hE hL hH
    go_enter Try.func21, Try.ntmps21
    go_wp2_with fail
    refine (HS.out _).mono ?_
    rintro e w1 ⟨rfl, hb1⟩
    have HK1 := Lib.hid (HK.out.keep hb1)
    have HB1 := Lib.hid (HZ.out.trans (hb1.mono HZ.out.size))
    obtain ⟨g0, g1, f0, f1, z0⟩ := HK1.out.two 0 (w.heap.size + 2) rfl
    clear hb1
    go_wp2_with fail
    refine bodyPost_ret (by simp [results, Try.results21, go_sem, g0, g1, f0, f1, z0]; try rfl) rfl ?_
    refine ⟨by rw [HE.out, HL.out, HH.out], ?_⟩
    have hb := HB1.out
    go_grown
  · have HE := Lib.hid hE
    have HL := Lib.hid hL
    have HH := Lib.hid hH
    rw [h1] at HS
    rw [h2] at HT
    clear h1 h2 hE hL hH
    go_enter Try.func21, Try.ntmps21
    go_wp2_with fail
    refine (HS.out _).mono ?_
    rintro e w1 ⟨rfl, hb1⟩
    have HK1 := Lib.hid (HK.out.keep hb1)
    have HB1 := Lib.hid (HZ.out.trans (hb1.mono HZ.out.size))
    obtain ⟨g2, g3, f2, f3, z2⟩ := HK1.out.two 1 (w.heap.size + 1) rfl
    clear hb1
    go_wp2_with fail
    refine (HT.out _).mono ?_
    rintro e w2 ⟨rfl, hb2⟩
    have HK2 := Lib.hid (HK1.out.keep hb2)
    have HB2 := Lib.hid (HB1.out.trans (hb2.mono HB1.out.size))
    clear hb2 g2 g3 f2 f3 z2
    obtain ⟨g0, g1, f0, f1, z0⟩ := HK2.out.two 0 (w.heap.size + 2) rfl
    go_wp2_with fail
    refine bodyPost_ret (by simp [results, Try.results21, go_sem, g0, g1, f0, f1, z0]; try rfl) rfl ?_
    refine ⟨by rw [HE.out, HL.out, HH.out], ?_⟩
    have hb := HB2.out
    go_grown
  · have HE := Lib.hid hE
    have HL := Lib.hid hL
    have HH := Lib.hid hH
    rw [h1] at HS
    rw [h2] at HT
    have p1 := (isS_iff _ _).1 h1
    have p2 := (isS_iff _ _).1 h2
    have key : (lo < lo' ∧ hi ≤ hi' ∧ hi < lo') ∨ (lo' ≤ lo ∧ hi' < hi ∧ hi' < lo) ∨ (lo' ≤ lo ∧ hi ≤ hi' ∧ hi < lo) := by
      unfold metL metH at h3
      split at h3 <;> split at h3 <;> omega
    clear h1 h2 hE hL hH h3 p1 p2
    rcases key with ⟨k1, k2, k3⟩ | ⟨k1, k2, k3⟩ | ⟨k1, k2, k3⟩
    all_goals
      go_enter Try.func21, Try.ntmps21
      go_wp2_with fail
      refine (HS.out _).mono ?_
      rintro e w1 ⟨rfl, hb1⟩
      have HK1 := Lib.hid (HK.out.keep hb1)
      have HB1 := Lib.hid (HZ.out.trans (hb1.mono HZ.out.size))
      obtain ⟨g2, g3, f2, f3, z2⟩ := HK1.out.two 1 (w.heap.size + 1) rfl
      clear hb1
      go_wp2_with fail
      refine (HT.out _).mono ?_
      rintro e w2 ⟨rfl, hb2⟩
      have HK2 := Lib.hid (HK1.out.keep hb2)
      have HB2 := Lib.hid (HB1.out.trans (hb2.mono HB1.out.size))
      clear hb2 g2 g3 f2 f3 z2
      obtain ⟨g0, g1, f0, f1, z0⟩ := HK2.out.two 0 (w.heap.size + 2) rfl
      obtain ⟨g2, g3, f2, f3, z2⟩ := HK2.out.two 1 (w.heap.size + 1) rfl
      obtain ⟨g4, g5, f4, f5, z4⟩ := HK2.out.two 2 w.heap.size rfl
      go_wp2_with fail
      refine bodyPost_ret (by simp [results, Try.results21, go_sem, g0, g1, f0, f1, z0]; try rfl) rfl ?_
      refine ⟨by rw [HE.out, HL.out, HH.out], ?_⟩
      have hb := HB2.out
      go_grown
  · have HE := Lib.hid hE
    rw [h1] at HS
    rw [h2] at HT
    have key : (lo < lo' ∧ hi' < hi ∧ lo' ≤ hi' ∧ metL lo lo' = lo' ∧ metH hi hi' = hi') ∨ (lo < lo' ∧ hi ≤ hi' ∧ lo' ≤ hi ∧ metL lo lo' = lo' ∧ metH hi hi' = hi) ∨ (lo' ≤ lo ∧ hi' < hi ∧ lo ≤ hi' ∧ metL lo lo' = lo ∧ metH hi hi' = hi') ∨ (lo' ≤ lo ∧ hi ≤ hi' ∧ lo ≤ hi ∧ metL lo lo' = lo ∧ metH hi hi' = hi) := by
      unfold metL metH at *
      split at h3 <;> split at h3 <;> simp [*] <;> omega
    clear h1 h2 hE h3
    rcases key with ⟨k1, k2, k3, k4, k5⟩ | ⟨k1, k2, k3, k4, k5⟩ | ⟨k1, k2, k3, k4, k5⟩ | ⟨k1, k2, k3, k4, k5⟩
    all_goals
      rw [k4] at hL
      rw [k5] at hH
      have HL := Lib.hid hL
      have HH := Lib.hid hH
      clear hL hH k4 k5
      go_enter Try.func21, Try.ntmps21
      go_wp2_with fail
      refine (HS.out _).mono ?_
      rintro e w1 ⟨rfl, hb1⟩
      have HK1 := Lib.hid (HK.out.keep hb1)
      have HB1 := Lib.hid (HZ.out.trans (hb1.mono HZ.out.size))
      obtain ⟨g2, g3, f2, f3, z2⟩ := HK1.out.two 1 (w.heap.size + 1) rfl
      clear hb1
      go_wp2_with fail
      refine (HT.out _).mono ?_
      rintro e w2 ⟨rfl, hb2⟩
      have HK2 := Lib.hid (HK1.out.keep hb2)
      have HB2 := Lib.hid (HB1.out.trans (hb2.mono HB1.out.size))
      clear hb2 g2 g3 f2 f3 z2
      obtain ⟨g0, g1, f0, f1, z0⟩ := HK2.out.two 0 (w.heap.size + 2) rfl
      obtain ⟨g2, g3, f2, f3, z2⟩ := HK2.out.two 1 (w.heap.size + 1) rfl
      obtain ⟨g4, g5, f4, f5, z4⟩ := HK2.out.two 2 w.heap.size rfl
      go_wp2_with fail
      refine bodyPost_ret (by simp [results, Try.results21, go_sem, g0, g1, f0, f1, z0]; try rfl) rfl ?_
      refine ⟨by rw [HE.out, HL.out, HH.out], ?_⟩
      have hb := HB2.out
      go_grown
end Go.Proofs.Ytaoldfndidngbaa
