/- What two spans have both are just the times in both; they meet, or one is before the other one: SpanMeets answers true at every two spans and every number. No condition. -/
import Derived.Test.YtaoldfndidngbaaSpanZ
namespace Go.Proofs.Ytaoldfndidngbaa.spanMeets
open Go.ChangeShapes Go.WideShapes Go.ChangeAt Go.RowKit Go.Sp Go.Fl
set_option linter.unusedVariables false
set_option linter.unusedSimpArgs false

theorem meet_facts (lo hi lo' hi' t : Int) : (isS lo hi = false ∧ metB lo hi lo' hi' = false ∧ hasB lo hi t = false) ∨ (isS lo hi = true ∧ isS lo' hi' = false ∧ metB lo hi lo' hi' = false ∧ hasB lo' hi' t = false) ∨
    (isS lo hi = true ∧ isS lo' hi' = true ∧ metB lo hi lo' hi' = true ∧ befB lo hi lo' hi' = false ∧ befB lo' hi' lo hi = false ∧ hasB (mL lo hi lo' hi') (mH lo hi lo' hi') t = (hasB lo hi t && hasB lo' hi' t)) ∨
    (isS lo hi = true ∧ isS lo' hi' = true ∧ metB lo hi lo' hi' = false ∧ befB lo hi lo' hi' = true ∧ befB lo' hi' lo hi = false ∧ (hasB lo hi t && hasB lo' hi' t) = false) ∨
    (isS lo hi = true ∧ isS lo' hi' = true ∧ metB lo hi lo' hi' = false ∧ befB lo hi lo' hi' = false ∧ befB lo' hi' lo hi = true ∧ (hasB lo hi t && hasB lo' hi' t) = false) := by
  cases h1 : isS lo hi with
  | false => exact .inl ⟨rfl, by unfold metB; rw [h1]; rfl, by unfold hasB; rw [h1]; rfl⟩
  | true =>
    cases h2 : isS lo' hi' with
    | false => exact .inr (.inl ⟨rfl, rfl, by unfold metB; rw [h1, h2]; rfl, by unfold hasB; rw [h2]; rfl⟩)
    | true =>
      have p1 := (isS_iff _ _).1 h1
      have p2 := (isS_iff _ _).1 h2
      right; right
      by_cases hm : metL lo lo' ≤ metH hi hi'
      · left
        have hM : metB lo hi lo' hi' = true := by unfold metB; rw [h1, h2]; simpa using hm
        have e1 : mL lo hi lo' hi' = metL lo lo' := by unfold mL; rw [hM]; rfl
        have e2 : mH lo hi lo' hi' = metH hi hi' := by unfold mH; rw [hM]; rfl
        rw [e1, e2]
        have b1 : (lo ≤ metL lo lo' ∧ lo' ≤ metL lo lo' ∧ (metL lo lo' = lo ∨ metL lo lo' = lo')) ∧ (metH hi hi' ≤ hi ∧ metH hi hi' ≤ hi' ∧ (metH hi hi' = hi ∨ metH hi hi' = hi')) := by
          unfold metL metH; constructor <;> split <;> omega
        generalize metL lo lo' = x at *
        generalize metH hi hi' = y at *
        have h3 : isS x y = true := (isS_iff _ _).2 (by omega)
        refine ⟨rfl, rfl, hM, ?_, ?_, ?_⟩
        · unfold befB; rw [h1, h2]; simp; omega
        · unfold befB; rw [h1, h2]; simp; omega
        · unfold hasB
          rw [h1, h2, h3, Bool.eq_iff_iff]
          simp only [Bool.true_and, Bool.and_eq_true, decide_eq_true_eq]
          omega
      · right
        have hM : metB lo hi lo' hi' = false := by unfold metB; rw [h1, h2]; simpa using hm
        have hb : hi < lo' ∨ hi' < lo := by
          unfold metL metH at hm; split at hm <;> split at hm <;> omega
        have hh : (hasB lo hi t && hasB lo' hi' t) = false := by
          unfold hasB; rw [h1, h2, Bool.eq_false_iff]
          simp only [Bool.true_and, ne_eq, Bool.and_eq_true, decide_eq_true_eq]
          omega
        rcases hb with hb | hb
        · left
          refine ⟨rfl, rfl, hM, ?_, ?_, hh⟩
          · unfold befB; rw [h1, h2]; simp; omega
          · unfold befB; rw [h1, h2]; simp; omega
        · right
          refine ⟨rfl, rfl, hM, ?_, ?_, hh⟩
          · unfold befB; rw [h1, h2]; simp; omega
          · unfold befB; rw [h1, h2]; simp; omega
theorem met_r64 (lo hi lo' hi' : Int) : R64 (mL lo hi lo' hi') ∧ R64 (mH lo hi lo' hi') := by
  rcases met_cases lo hi lo' hi' with ⟨-, -, e1, e2⟩ | ⟨-, -, -, e1, e2⟩ | ⟨-, -, -, -, e1, e2⟩ | ⟨h1, h2, -, -, e1, e2⟩
  · rw [e1, e2]; exact ⟨r64 _ (by omega), r64 _ (by omega)⟩
  · rw [e1, e2]; exact ⟨r64 _ (by omega), r64 _ (by omega)⟩
  · rw [e1, e2]; exact ⟨r64 _ (by omega), r64 _ (by omega)⟩
  · have p1 := (isS_iff _ _).1 h1
    have p2 := (isS_iff _ _).1 h2
    rw [e1, e2]
    unfold metL metH
    refine ⟨r64 _ ?_, r64 _ ?_⟩ <;> split <;> omega
theorem chk_yes {lo hi : Int} (h : isS lo hi = true) : chkS lo hi = 0 := by unfold chkS; rw [h]; rfl
theorem chk_no {lo hi : Int} (h : isS lo hi = false) : chkS lo hi = 50 := by unfold chkS; rw [h]; rfl
set_option maxHeartbeats 16000000 in
theorem walk (lo hi : Int) (hs : R64 lo ∧ R64 hi) (lo' hi' : Int) (hs' : R64 lo' ∧ R64 hi') (t : Int) (ht : -9223372036854775808 ≤ t ∧ t ≤ 9223372036854775807) (w : World) :
    Calls Try.prog 8 #[.agg #[.int .i64 lo, .int .i64 hi], .agg #[.int .i64 lo', .int .i64 hi'], .int .i64 t] w fun e w' => e = .returned (.bool true) ∧ Below w.heap.size w w' := by
  have HM := Lib.hid (fun w0 => smeet_any lo hi lo' hi' w0 hs.1 hs.2 hs'.1 hs'.2)
  have HA := Lib.hid (fun w0 => shas_any lo hi t w0 hs.1 hs.2 (r64 t (by omega)))
  have HB := Lib.hid (fun w0 => shas_any lo' hi' t w0 hs'.1 hs'.2 (r64 t (by omega)))
  have HC := Lib.hid (fun w0 => shas_any (mL lo hi lo' hi') (mH lo hi lo' hi') t w0 (met_r64 lo hi lo' hi').1 (met_r64 lo hi lo' hi').2 (r64 t (by omega)))
  have HX := Lib.hid (fun w0 => scheck_any lo hi w0 hs.1 hs.2)
  have HY := Lib.hid (fun w0 => scheck_any lo' hi' w0 hs'.1 hs'.2)
  have HAB := Lib.hid (fun w0 => sbefore_any lo hi lo' hi' w0 hs.1 hs.2 hs'.1 hs'.2)
  have HBA := Lib.hid (fun w0 => sbefore_any lo' hi' lo hi w0 hs'.1 hs'.2 hs.1 hs.2)
  have H0 := Lib.hid (((St.start w).alloc w.heap.size rfl 23 #[.int .i64 lo, .int .i64 hi]).alloc (w.heap.size + 1) (by simp) 23 #[.int .i64 lo', .int .i64 hi'])
  have key := meet_facts lo hi lo' hi' t
  clear hs hs' ht
  generalize hL : mL lo hi lo' hi' = L at *
  generalize hM : mH lo hi lo' hi' = M at *
  clear hL hM
  rcases key with ⟨k1, k2, k3⟩ | ⟨k1, k2, k3, k4⟩ | ⟨k1, k2, k3, k4, k5, k6⟩ | ⟨k1, k2, k3, k4, k5, k6⟩ | ⟨k1, k2, k3, k4, k5, k6⟩
  · rw [chk_no k1] at HX
    rw [k2] at HM
    rw [k3] at HA
    clear k1 k2 k3
    go_enter Try.func8, Try.ntmps8
    go_wp2_with fail
    refine (HM.out _).mono ?_
    rintro e w1 ⟨rfl, hb⟩
    replace H0 := Lib.hid (H0.out.call hb)
    clear hb
    obtain ⟨c0, e0, d0, f0, z0⟩ := H0.out.two 0 (w.heap.size + 1) rfl
    obtain ⟨c1, e1, d1, f1, z1⟩ := H0.out.two 1 w.heap.size rfl
    go_wp2_with fail
    refine (HA.out _).mono ?_
    rintro e x ⟨rfl, hb⟩
    replace H0 := Lib.hid ((H0.out.alloc w1.heap.size rfl 23 #[.int .i64 L, .int .i64 M]).call hb)
    clear hb c0 e0 d0 f0 z0 c1 e1 d1 f1 z1
    obtain ⟨c0, e0, d0, f0, z0⟩ := H0.out.two 0 w1.heap.size rfl
    obtain ⟨c1, e1, d1, f1, z1⟩ := H0.out.two 1 (w.heap.size + 1) rfl
    obtain ⟨c2, e2, d2, f2, z2⟩ := H0.out.two 2 w.heap.size rfl
    go_wp2_with fail
    refine (awake_any _).mono ?_
    rintro e x ⟨rfl, hb⟩
    replace H0 := Lib.hid (H0.out.call hb)
    clear hb c0 e0 d0 f0 z0 c1 e1 d1 f1 z1 c2 e2 d2 f2 z2
    obtain ⟨c0, e0, d0, f0, z0⟩ := H0.out.two 0 w1.heap.size rfl
    obtain ⟨c1, e1, d1, f1, z1⟩ := H0.out.two 1 (w.heap.size + 1) rfl
    obtain ⟨c2, e2, d2, f2, z2⟩ := H0.out.two 2 w.heap.size rfl
    go_wp2_with fail
    refine (HX.out _).mono ?_
    rintro e x ⟨rfl, hb⟩
    replace H0 := Lib.hid (H0.out.call hb)
    clear hb c0 e0 d0 f0 z0 c1 e1 d1 f1 z1 c2 e2 d2 f2 z2
    obtain ⟨c0, e0, d0, f0, z0⟩ := H0.out.two 0 w1.heap.size rfl
    obtain ⟨c1, e1, d1, f1, z1⟩ := H0.out.two 1 (w.heap.size + 1) rfl
    obtain ⟨c2, e2, d2, f2, z2⟩ := H0.out.two 2 w.heap.size rfl
    go_wp2_with fail
    refine (awake_any _).mono ?_
    rintro e x ⟨rfl, hb⟩
    replace H0 := Lib.hid (H0.out.call hb)
    clear hb c0 e0 d0 f0 z0 c1 e1 d1 f1 z1 c2 e2 d2 f2 z2
    obtain ⟨c0, e0, d0, f0, z0⟩ := H0.out.two 0 w1.heap.size rfl
    obtain ⟨c1, e1, d1, f1, z1⟩ := H0.out.two 1 (w.heap.size + 1) rfl
    obtain ⟨c2, e2, d2, f2, z2⟩ := H0.out.two 2 w.heap.size rfl
    go_wp2_with fail
    go_ret
    exact ⟨rfl, H0.out.below⟩
  · rw [chk_yes k1] at HX
    rw [chk_no k2] at HY
    rw [k3] at HM
    rw [k4] at HB
    cases hp : hasB lo hi t with
    | false =>
      rw [hp] at HA
      clear k1 k2 k3 k4 hp
      go_enter Try.func8, Try.ntmps8
      go_wp2_with fail
      refine (HM.out _).mono ?_
      rintro e w1 ⟨rfl, hb⟩
      replace H0 := Lib.hid (H0.out.call hb)
      clear hb
      obtain ⟨c0, e0, d0, f0, z0⟩ := H0.out.two 0 (w.heap.size + 1) rfl
      obtain ⟨c1, e1, d1, f1, z1⟩ := H0.out.two 1 w.heap.size rfl
      go_wp2_with fail
      refine (HA.out _).mono ?_
      rintro e x ⟨rfl, hb⟩
      replace H0 := Lib.hid ((H0.out.alloc w1.heap.size rfl 23 #[.int .i64 L, .int .i64 M]).call hb)
      clear hb c0 e0 d0 f0 z0 c1 e1 d1 f1 z1
      obtain ⟨c0, e0, d0, f0, z0⟩ := H0.out.two 0 w1.heap.size rfl
      obtain ⟨c1, e1, d1, f1, z1⟩ := H0.out.two 1 (w.heap.size + 1) rfl
      obtain ⟨c2, e2, d2, f2, z2⟩ := H0.out.two 2 w.heap.size rfl
      go_wp2_with fail
      refine (awake_any _).mono ?_
      rintro e x ⟨rfl, hb⟩
      replace H0 := Lib.hid (H0.out.call hb)
      clear hb c0 e0 d0 f0 z0 c1 e1 d1 f1 z1 c2 e2 d2 f2 z2
      obtain ⟨c0, e0, d0, f0, z0⟩ := H0.out.two 0 w1.heap.size rfl
      obtain ⟨c1, e1, d1, f1, z1⟩ := H0.out.two 1 (w.heap.size + 1) rfl
      obtain ⟨c2, e2, d2, f2, z2⟩ := H0.out.two 2 w.heap.size rfl
      go_wp2_with fail
      refine (HX.out _).mono ?_
      rintro e x ⟨rfl, hb⟩
      replace H0 := Lib.hid (H0.out.call hb)
      clear hb c0 e0 d0 f0 z0 c1 e1 d1 f1 z1 c2 e2 d2 f2 z2
      obtain ⟨c0, e0, d0, f0, z0⟩ := H0.out.two 0 w1.heap.size rfl
      obtain ⟨c1, e1, d1, f1, z1⟩ := H0.out.two 1 (w.heap.size + 1) rfl
      obtain ⟨c2, e2, d2, f2, z2⟩ := H0.out.two 2 w.heap.size rfl
      go_wp2_with fail
      refine (HY.out _).mono ?_
      rintro e x ⟨rfl, hb⟩
      replace H0 := Lib.hid (H0.out.call hb)
      clear hb c0 e0 d0 f0 z0 c1 e1 d1 f1 z1 c2 e2 d2 f2 z2
      obtain ⟨c0, e0, d0, f0, z0⟩ := H0.out.two 0 w1.heap.size rfl
      obtain ⟨c1, e1, d1, f1, z1⟩ := H0.out.two 1 (w.heap.size + 1) rfl
      obtain ⟨c2, e2, d2, f2, z2⟩ := H0.out.two 2 w.heap.size rfl
      go_wp2_with fail
      refine (awake_any _).mono ?_
      rintro e x ⟨rfl, hb⟩
      replace H0 := Lib.hid (H0.out.call hb)
      clear hb c0 e0 d0 f0 z0 c1 e1 d1 f1 z1 c2 e2 d2 f2 z2
      obtain ⟨c0, e0, d0, f0, z0⟩ := H0.out.two 0 w1.heap.size rfl
      obtain ⟨c1, e1, d1, f1, z1⟩ := H0.out.two 1 (w.heap.size + 1) rfl
      obtain ⟨c2, e2, d2, f2, z2⟩ := H0.out.two 2 w.heap.size rfl
      go_wp2_with fail
      go_ret
      exact ⟨rfl, H0.out.below⟩
    | true =>
      rw [hp] at HA
      clear k1 k2 k3 k4 hp
      go_enter Try.func8, Try.ntmps8
      go_wp2_with fail
      refine (HM.out _).mono ?_
      rintro e w1 ⟨rfl, hb⟩
      replace H0 := Lib.hid (H0.out.call hb)
      clear hb
      obtain ⟨c0, e0, d0, f0, z0⟩ := H0.out.two 0 (w.heap.size + 1) rfl
      obtain ⟨c1, e1, d1, f1, z1⟩ := H0.out.two 1 w.heap.size rfl
      go_wp2_with fail
      refine (HA.out _).mono ?_
      rintro e x ⟨rfl, hb⟩
      replace H0 := Lib.hid ((H0.out.alloc w1.heap.size rfl 23 #[.int .i64 L, .int .i64 M]).call hb)
      clear hb c0 e0 d0 f0 z0 c1 e1 d1 f1 z1
      obtain ⟨c0, e0, d0, f0, z0⟩ := H0.out.two 0 w1.heap.size rfl
      obtain ⟨c1, e1, d1, f1, z1⟩ := H0.out.two 1 (w.heap.size + 1) rfl
      obtain ⟨c2, e2, d2, f2, z2⟩ := H0.out.two 2 w.heap.size rfl
      go_wp2_with fail
      refine (HB.out _).mono ?_
      rintro e x ⟨rfl, hb⟩
      replace H0 := Lib.hid (H0.out.call hb)
      clear hb c0 e0 d0 f0 z0 c1 e1 d1 f1 z1 c2 e2 d2 f2 z2
      obtain ⟨c0, e0, d0, f0, z0⟩ := H0.out.two 0 w1.heap.size rfl
      obtain ⟨c1, e1, d1, f1, z1⟩ := H0.out.two 1 (w.heap.size + 1) rfl
      obtain ⟨c2, e2, d2, f2, z2⟩ := H0.out.two 2 w.heap.size rfl
      go_wp2_with fail
      refine (awake_any _).mono ?_
      rintro e x ⟨rfl, hb⟩
      replace H0 := Lib.hid (H0.out.call hb)
      clear hb c0 e0 d0 f0 z0 c1 e1 d1 f1 z1 c2 e2 d2 f2 z2
      obtain ⟨c0, e0, d0, f0, z0⟩ := H0.out.two 0 w1.heap.size rfl
      obtain ⟨c1, e1, d1, f1, z1⟩ := H0.out.two 1 (w.heap.size + 1) rfl
      obtain ⟨c2, e2, d2, f2, z2⟩ := H0.out.two 2 w.heap.size rfl
      go_wp2_with fail
      refine (HX.out _).mono ?_
      rintro e x ⟨rfl, hb⟩
      replace H0 := Lib.hid (H0.out.call hb)
      clear hb c0 e0 d0 f0 z0 c1 e1 d1 f1 z1 c2 e2 d2 f2 z2
      obtain ⟨c0, e0, d0, f0, z0⟩ := H0.out.two 0 w1.heap.size rfl
      obtain ⟨c1, e1, d1, f1, z1⟩ := H0.out.two 1 (w.heap.size + 1) rfl
      obtain ⟨c2, e2, d2, f2, z2⟩ := H0.out.two 2 w.heap.size rfl
      go_wp2_with fail
      refine (HY.out _).mono ?_
      rintro e x ⟨rfl, hb⟩
      replace H0 := Lib.hid (H0.out.call hb)
      clear hb c0 e0 d0 f0 z0 c1 e1 d1 f1 z1 c2 e2 d2 f2 z2
      obtain ⟨c0, e0, d0, f0, z0⟩ := H0.out.two 0 w1.heap.size rfl
      obtain ⟨c1, e1, d1, f1, z1⟩ := H0.out.two 1 (w.heap.size + 1) rfl
      obtain ⟨c2, e2, d2, f2, z2⟩ := H0.out.two 2 w.heap.size rfl
      go_wp2_with fail
      refine (awake_any _).mono ?_
      rintro e x ⟨rfl, hb⟩
      replace H0 := Lib.hid (H0.out.call hb)
      clear hb c0 e0 d0 f0 z0 c1 e1 d1 f1 z1 c2 e2 d2 f2 z2
      obtain ⟨c0, e0, d0, f0, z0⟩ := H0.out.two 0 w1.heap.size rfl
      obtain ⟨c1, e1, d1, f1, z1⟩ := H0.out.two 1 (w.heap.size + 1) rfl
      obtain ⟨c2, e2, d2, f2, z2⟩ := H0.out.two 2 w.heap.size rfl
      go_wp2_with fail
      go_ret
      exact ⟨rfl, H0.out.below⟩
  · rw [chk_yes k1] at HX
    rw [chk_yes k2] at HY
    rw [k3] at HM
    rw [k4] at HAB
    rw [k5] at HBA
    cases hp : hasB lo hi t with
    | false =>
      rw [hp] at HA k6
      rw [k6] at HC
      clear k1 k2 k3 k4 k5 k6 hp
      go_enter Try.func8, Try.ntmps8
      go_wp2_with fail
      refine (HM.out _).mono ?_
      rintro e w1 ⟨rfl, hb⟩
      replace H0 := Lib.hid (H0.out.call hb)
      clear hb
      obtain ⟨c0, e0, d0, f0, z0⟩ := H0.out.two 0 (w.heap.size + 1) rfl
      obtain ⟨c1, e1, d1, f1, z1⟩ := H0.out.two 1 w.heap.size rfl
      go_wp2_with fail
      refine (HA.out _).mono ?_
      rintro e x ⟨rfl, hb⟩
      replace H0 := Lib.hid ((H0.out.alloc w1.heap.size rfl 23 #[.int .i64 L, .int .i64 M]).call hb)
      clear hb c0 e0 d0 f0 z0 c1 e1 d1 f1 z1
      obtain ⟨c0, e0, d0, f0, z0⟩ := H0.out.two 0 w1.heap.size rfl
      obtain ⟨c1, e1, d1, f1, z1⟩ := H0.out.two 1 (w.heap.size + 1) rfl
      obtain ⟨c2, e2, d2, f2, z2⟩ := H0.out.two 2 w.heap.size rfl
      go_wp2_with fail
      refine (awake_any _).mono ?_
      rintro e x ⟨rfl, hb⟩
      replace H0 := Lib.hid (H0.out.call hb)
      clear hb c0 e0 d0 f0 z0 c1 e1 d1 f1 z1 c2 e2 d2 f2 z2
      obtain ⟨c0, e0, d0, f0, z0⟩ := H0.out.two 0 w1.heap.size rfl
      obtain ⟨c1, e1, d1, f1, z1⟩ := H0.out.two 1 (w.heap.size + 1) rfl
      obtain ⟨c2, e2, d2, f2, z2⟩ := H0.out.two 2 w.heap.size rfl
      go_wp2_with fail
      refine (HX.out _).mono ?_
      rintro e x ⟨rfl, hb⟩
      replace H0 := Lib.hid (H0.out.call hb)
      clear hb c0 e0 d0 f0 z0 c1 e1 d1 f1 z1 c2 e2 d2 f2 z2
      obtain ⟨c0, e0, d0, f0, z0⟩ := H0.out.two 0 w1.heap.size rfl
      obtain ⟨c1, e1, d1, f1, z1⟩ := H0.out.two 1 (w.heap.size + 1) rfl
      obtain ⟨c2, e2, d2, f2, z2⟩ := H0.out.two 2 w.heap.size rfl
      go_wp2_with fail
      refine (HY.out _).mono ?_
      rintro e x ⟨rfl, hb⟩
      replace H0 := Lib.hid (H0.out.call hb)
      clear hb c0 e0 d0 f0 z0 c1 e1 d1 f1 z1 c2 e2 d2 f2 z2
      obtain ⟨c0, e0, d0, f0, z0⟩ := H0.out.two 0 w1.heap.size rfl
      obtain ⟨c1, e1, d1, f1, z1⟩ := H0.out.two 1 (w.heap.size + 1) rfl
      obtain ⟨c2, e2, d2, f2, z2⟩ := H0.out.two 2 w.heap.size rfl
      go_wp2_with fail
      refine (HC.out _).mono ?_
      rintro e x ⟨rfl, hb⟩
      replace H0 := Lib.hid (H0.out.call hb)
      clear hb c0 e0 d0 f0 z0 c1 e1 d1 f1 z1 c2 e2 d2 f2 z2
      obtain ⟨c0, e0, d0, f0, z0⟩ := H0.out.two 0 w1.heap.size rfl
      obtain ⟨c1, e1, d1, f1, z1⟩ := H0.out.two 1 (w.heap.size + 1) rfl
      obtain ⟨c2, e2, d2, f2, z2⟩ := H0.out.two 2 w.heap.size rfl
      go_wp2_with fail
      refine (HAB.out _).mono ?_
      rintro e x ⟨rfl, hb⟩
      replace H0 := Lib.hid (H0.out.call hb)
      clear hb c0 e0 d0 f0 z0 c1 e1 d1 f1 z1 c2 e2 d2 f2 z2
      obtain ⟨c0, e0, d0, f0, z0⟩ := H0.out.two 0 w1.heap.size rfl
      obtain ⟨c1, e1, d1, f1, z1⟩ := H0.out.two 1 (w.heap.size + 1) rfl
      obtain ⟨c2, e2, d2, f2, z2⟩ := H0.out.two 2 w.heap.size rfl
      go_wp2_with fail
      refine (HBA.out _).mono ?_
      rintro e x ⟨rfl, hb⟩
      replace H0 := Lib.hid (H0.out.call hb)
      clear hb c0 e0 d0 f0 z0 c1 e1 d1 f1 z1 c2 e2 d2 f2 z2
      obtain ⟨c0, e0, d0, f0, z0⟩ := H0.out.two 0 w1.heap.size rfl
      obtain ⟨c1, e1, d1, f1, z1⟩ := H0.out.two 1 (w.heap.size + 1) rfl
      obtain ⟨c2, e2, d2, f2, z2⟩ := H0.out.two 2 w.heap.size rfl
      go_wp2_with fail
      refine (HAB.out _).mono ?_
      rintro e x ⟨rfl, hb⟩
      replace H0 := Lib.hid (H0.out.call hb)
      clear hb c0 e0 d0 f0 z0 c1 e1 d1 f1 z1 c2 e2 d2 f2 z2
      obtain ⟨c0, e0, d0, f0, z0⟩ := H0.out.two 0 w1.heap.size rfl
      obtain ⟨c1, e1, d1, f1, z1⟩ := H0.out.two 1 (w.heap.size + 1) rfl
      obtain ⟨c2, e2, d2, f2, z2⟩ := H0.out.two 2 w.heap.size rfl
      go_wp2_with fail
      go_ret
      exact ⟨rfl, H0.out.below⟩
    | true =>
      rw [hp] at HA k6
      simp only [Bool.true_and] at k6
      rw [k6] at HC
      cases hq : hasB lo' hi' t with
      | false =>
        rw [hq] at HB HC
        clear k1 k2 k3 k4 k5 k6 hp hq
        go_enter Try.func8, Try.ntmps8
        go_wp2_with fail
        refine (HM.out _).mono ?_
        rintro e w1 ⟨rfl, hb⟩
        replace H0 := Lib.hid (H0.out.call hb)
        clear hb
        obtain ⟨c0, e0, d0, f0, z0⟩ := H0.out.two 0 (w.heap.size + 1) rfl
        obtain ⟨c1, e1, d1, f1, z1⟩ := H0.out.two 1 w.heap.size rfl
        go_wp2_with fail
        refine (HA.out _).mono ?_
        rintro e x ⟨rfl, hb⟩
        replace H0 := Lib.hid ((H0.out.alloc w1.heap.size rfl 23 #[.int .i64 L, .int .i64 M]).call hb)
        clear hb c0 e0 d0 f0 z0 c1 e1 d1 f1 z1
        obtain ⟨c0, e0, d0, f0, z0⟩ := H0.out.two 0 w1.heap.size rfl
        obtain ⟨c1, e1, d1, f1, z1⟩ := H0.out.two 1 (w.heap.size + 1) rfl
        obtain ⟨c2, e2, d2, f2, z2⟩ := H0.out.two 2 w.heap.size rfl
        go_wp2_with fail
        refine (HB.out _).mono ?_
        rintro e x ⟨rfl, hb⟩
        replace H0 := Lib.hid (H0.out.call hb)
        clear hb c0 e0 d0 f0 z0 c1 e1 d1 f1 z1 c2 e2 d2 f2 z2
        obtain ⟨c0, e0, d0, f0, z0⟩ := H0.out.two 0 w1.heap.size rfl
        obtain ⟨c1, e1, d1, f1, z1⟩ := H0.out.two 1 (w.heap.size + 1) rfl
        obtain ⟨c2, e2, d2, f2, z2⟩ := H0.out.two 2 w.heap.size rfl
        go_wp2_with fail
        refine (awake_any _).mono ?_
        rintro e x ⟨rfl, hb⟩
        replace H0 := Lib.hid (H0.out.call hb)
        clear hb c0 e0 d0 f0 z0 c1 e1 d1 f1 z1 c2 e2 d2 f2 z2
        obtain ⟨c0, e0, d0, f0, z0⟩ := H0.out.two 0 w1.heap.size rfl
        obtain ⟨c1, e1, d1, f1, z1⟩ := H0.out.two 1 (w.heap.size + 1) rfl
        obtain ⟨c2, e2, d2, f2, z2⟩ := H0.out.two 2 w.heap.size rfl
        go_wp2_with fail
        refine (HX.out _).mono ?_
        rintro e x ⟨rfl, hb⟩
        replace H0 := Lib.hid (H0.out.call hb)
        clear hb c0 e0 d0 f0 z0 c1 e1 d1 f1 z1 c2 e2 d2 f2 z2
        obtain ⟨c0, e0, d0, f0, z0⟩ := H0.out.two 0 w1.heap.size rfl
        obtain ⟨c1, e1, d1, f1, z1⟩ := H0.out.two 1 (w.heap.size + 1) rfl
        obtain ⟨c2, e2, d2, f2, z2⟩ := H0.out.two 2 w.heap.size rfl
        go_wp2_with fail
        refine (HY.out _).mono ?_
        rintro e x ⟨rfl, hb⟩
        replace H0 := Lib.hid (H0.out.call hb)
        clear hb c0 e0 d0 f0 z0 c1 e1 d1 f1 z1 c2 e2 d2 f2 z2
        obtain ⟨c0, e0, d0, f0, z0⟩ := H0.out.two 0 w1.heap.size rfl
        obtain ⟨c1, e1, d1, f1, z1⟩ := H0.out.two 1 (w.heap.size + 1) rfl
        obtain ⟨c2, e2, d2, f2, z2⟩ := H0.out.two 2 w.heap.size rfl
        go_wp2_with fail
        refine (HC.out _).mono ?_
        rintro e x ⟨rfl, hb⟩
        replace H0 := Lib.hid (H0.out.call hb)
        clear hb c0 e0 d0 f0 z0 c1 e1 d1 f1 z1 c2 e2 d2 f2 z2
        obtain ⟨c0, e0, d0, f0, z0⟩ := H0.out.two 0 w1.heap.size rfl
        obtain ⟨c1, e1, d1, f1, z1⟩ := H0.out.two 1 (w.heap.size + 1) rfl
        obtain ⟨c2, e2, d2, f2, z2⟩ := H0.out.two 2 w.heap.size rfl
        go_wp2_with fail
        refine (HAB.out _).mono ?_
        rintro e x ⟨rfl, hb⟩
        replace H0 := Lib.hid (H0.out.call hb)
        clear hb c0 e0 d0 f0 z0 c1 e1 d1 f1 z1 c2 e2 d2 f2 z2
        obtain ⟨c0, e0, d0, f0, z0⟩ := H0.out.two 0 w1.heap.size rfl
        obtain ⟨c1, e1, d1, f1, z1⟩ := H0.out.two 1 (w.heap.size + 1) rfl
        obtain ⟨c2, e2, d2, f2, z2⟩ := H0.out.two 2 w.heap.size rfl
        go_wp2_with fail
        refine (HBA.out _).mono ?_
        rintro e x ⟨rfl, hb⟩
        replace H0 := Lib.hid (H0.out.call hb)
        clear hb c0 e0 d0 f0 z0 c1 e1 d1 f1 z1 c2 e2 d2 f2 z2
        obtain ⟨c0, e0, d0, f0, z0⟩ := H0.out.two 0 w1.heap.size rfl
        obtain ⟨c1, e1, d1, f1, z1⟩ := H0.out.two 1 (w.heap.size + 1) rfl
        obtain ⟨c2, e2, d2, f2, z2⟩ := H0.out.two 2 w.heap.size rfl
        go_wp2_with fail
        refine (HAB.out _).mono ?_
        rintro e x ⟨rfl, hb⟩
        replace H0 := Lib.hid (H0.out.call hb)
        clear hb c0 e0 d0 f0 z0 c1 e1 d1 f1 z1 c2 e2 d2 f2 z2
        obtain ⟨c0, e0, d0, f0, z0⟩ := H0.out.two 0 w1.heap.size rfl
        obtain ⟨c1, e1, d1, f1, z1⟩ := H0.out.two 1 (w.heap.size + 1) rfl
        obtain ⟨c2, e2, d2, f2, z2⟩ := H0.out.two 2 w.heap.size rfl
        go_wp2_with fail
        go_ret
        exact ⟨rfl, H0.out.below⟩
      | true =>
        rw [hq] at HB HC
        clear k1 k2 k3 k4 k5 k6 hp hq
        go_enter Try.func8, Try.ntmps8
        go_wp2_with fail
        refine (HM.out _).mono ?_
        rintro e w1 ⟨rfl, hb⟩
        replace H0 := Lib.hid (H0.out.call hb)
        clear hb
        obtain ⟨c0, e0, d0, f0, z0⟩ := H0.out.two 0 (w.heap.size + 1) rfl
        obtain ⟨c1, e1, d1, f1, z1⟩ := H0.out.two 1 w.heap.size rfl
        go_wp2_with fail
        refine (HA.out _).mono ?_
        rintro e x ⟨rfl, hb⟩
        replace H0 := Lib.hid ((H0.out.alloc w1.heap.size rfl 23 #[.int .i64 L, .int .i64 M]).call hb)
        clear hb c0 e0 d0 f0 z0 c1 e1 d1 f1 z1
        obtain ⟨c0, e0, d0, f0, z0⟩ := H0.out.two 0 w1.heap.size rfl
        obtain ⟨c1, e1, d1, f1, z1⟩ := H0.out.two 1 (w.heap.size + 1) rfl
        obtain ⟨c2, e2, d2, f2, z2⟩ := H0.out.two 2 w.heap.size rfl
        go_wp2_with fail
        refine (HB.out _).mono ?_
        rintro e x ⟨rfl, hb⟩
        replace H0 := Lib.hid (H0.out.call hb)
        clear hb c0 e0 d0 f0 z0 c1 e1 d1 f1 z1 c2 e2 d2 f2 z2
        obtain ⟨c0, e0, d0, f0, z0⟩ := H0.out.two 0 w1.heap.size rfl
        obtain ⟨c1, e1, d1, f1, z1⟩ := H0.out.two 1 (w.heap.size + 1) rfl
        obtain ⟨c2, e2, d2, f2, z2⟩ := H0.out.two 2 w.heap.size rfl
        go_wp2_with fail
        refine (awake_any _).mono ?_
        rintro e x ⟨rfl, hb⟩
        replace H0 := Lib.hid (H0.out.call hb)
        clear hb c0 e0 d0 f0 z0 c1 e1 d1 f1 z1 c2 e2 d2 f2 z2
        obtain ⟨c0, e0, d0, f0, z0⟩ := H0.out.two 0 w1.heap.size rfl
        obtain ⟨c1, e1, d1, f1, z1⟩ := H0.out.two 1 (w.heap.size + 1) rfl
        obtain ⟨c2, e2, d2, f2, z2⟩ := H0.out.two 2 w.heap.size rfl
        go_wp2_with fail
        refine (HX.out _).mono ?_
        rintro e x ⟨rfl, hb⟩
        replace H0 := Lib.hid (H0.out.call hb)
        clear hb c0 e0 d0 f0 z0 c1 e1 d1 f1 z1 c2 e2 d2 f2 z2
        obtain ⟨c0, e0, d0, f0, z0⟩ := H0.out.two 0 w1.heap.size rfl
        obtain ⟨c1, e1, d1, f1, z1⟩ := H0.out.two 1 (w.heap.size + 1) rfl
        obtain ⟨c2, e2, d2, f2, z2⟩ := H0.out.two 2 w.heap.size rfl
        go_wp2_with fail
        refine (HY.out _).mono ?_
        rintro e x ⟨rfl, hb⟩
        replace H0 := Lib.hid (H0.out.call hb)
        clear hb c0 e0 d0 f0 z0 c1 e1 d1 f1 z1 c2 e2 d2 f2 z2
        obtain ⟨c0, e0, d0, f0, z0⟩ := H0.out.two 0 w1.heap.size rfl
        obtain ⟨c1, e1, d1, f1, z1⟩ := H0.out.two 1 (w.heap.size + 1) rfl
        obtain ⟨c2, e2, d2, f2, z2⟩ := H0.out.two 2 w.heap.size rfl
        go_wp2_with fail
        refine (HC.out _).mono ?_
        rintro e x ⟨rfl, hb⟩
        replace H0 := Lib.hid (H0.out.call hb)
        clear hb c0 e0 d0 f0 z0 c1 e1 d1 f1 z1 c2 e2 d2 f2 z2
        obtain ⟨c0, e0, d0, f0, z0⟩ := H0.out.two 0 w1.heap.size rfl
        obtain ⟨c1, e1, d1, f1, z1⟩ := H0.out.two 1 (w.heap.size + 1) rfl
        obtain ⟨c2, e2, d2, f2, z2⟩ := H0.out.two 2 w.heap.size rfl
        go_wp2_with fail
        refine (HAB.out _).mono ?_
        rintro e x ⟨rfl, hb⟩
        replace H0 := Lib.hid (H0.out.call hb)
        clear hb c0 e0 d0 f0 z0 c1 e1 d1 f1 z1 c2 e2 d2 f2 z2
        obtain ⟨c0, e0, d0, f0, z0⟩ := H0.out.two 0 w1.heap.size rfl
        obtain ⟨c1, e1, d1, f1, z1⟩ := H0.out.two 1 (w.heap.size + 1) rfl
        obtain ⟨c2, e2, d2, f2, z2⟩ := H0.out.two 2 w.heap.size rfl
        go_wp2_with fail
        refine (HBA.out _).mono ?_
        rintro e x ⟨rfl, hb⟩
        replace H0 := Lib.hid (H0.out.call hb)
        clear hb c0 e0 d0 f0 z0 c1 e1 d1 f1 z1 c2 e2 d2 f2 z2
        obtain ⟨c0, e0, d0, f0, z0⟩ := H0.out.two 0 w1.heap.size rfl
        obtain ⟨c1, e1, d1, f1, z1⟩ := H0.out.two 1 (w.heap.size + 1) rfl
        obtain ⟨c2, e2, d2, f2, z2⟩ := H0.out.two 2 w.heap.size rfl
        go_wp2_with fail
        refine (HAB.out _).mono ?_
        rintro e x ⟨rfl, hb⟩
        replace H0 := Lib.hid (H0.out.call hb)
        clear hb c0 e0 d0 f0 z0 c1 e1 d1 f1 z1 c2 e2 d2 f2 z2
        obtain ⟨c0, e0, d0, f0, z0⟩ := H0.out.two 0 w1.heap.size rfl
        obtain ⟨c1, e1, d1, f1, z1⟩ := H0.out.two 1 (w.heap.size + 1) rfl
        obtain ⟨c2, e2, d2, f2, z2⟩ := H0.out.two 2 w.heap.size rfl
        go_wp2_with fail
        go_ret
        exact ⟨rfl, H0.out.below⟩
  · rw [chk_yes k1] at HX
    rw [chk_yes k2] at HY
    rw [k3] at HM
    rw [k4] at HAB
    rw [k5] at HBA
    cases hp : hasB lo hi t with
    | false =>
      rw [hp] at HA k6
      clear k1 k2 k3 k4 k5 k6 hp
      go_enter Try.func8, Try.ntmps8
      go_wp2_with fail
      refine (HM.out _).mono ?_
      rintro e w1 ⟨rfl, hb⟩
      replace H0 := Lib.hid (H0.out.call hb)
      clear hb
      obtain ⟨c0, e0, d0, f0, z0⟩ := H0.out.two 0 (w.heap.size + 1) rfl
      obtain ⟨c1, e1, d1, f1, z1⟩ := H0.out.two 1 w.heap.size rfl
      go_wp2_with fail
      refine (HA.out _).mono ?_
      rintro e x ⟨rfl, hb⟩
      replace H0 := Lib.hid ((H0.out.alloc w1.heap.size rfl 23 #[.int .i64 L, .int .i64 M]).call hb)
      clear hb c0 e0 d0 f0 z0 c1 e1 d1 f1 z1
      obtain ⟨c0, e0, d0, f0, z0⟩ := H0.out.two 0 w1.heap.size rfl
      obtain ⟨c1, e1, d1, f1, z1⟩ := H0.out.two 1 (w.heap.size + 1) rfl
      obtain ⟨c2, e2, d2, f2, z2⟩ := H0.out.two 2 w.heap.size rfl
      go_wp2_with fail
      refine (awake_any _).mono ?_
      rintro e x ⟨rfl, hb⟩
      replace H0 := Lib.hid (H0.out.call hb)
      clear hb c0 e0 d0 f0 z0 c1 e1 d1 f1 z1 c2 e2 d2 f2 z2
      obtain ⟨c0, e0, d0, f0, z0⟩ := H0.out.two 0 w1.heap.size rfl
      obtain ⟨c1, e1, d1, f1, z1⟩ := H0.out.two 1 (w.heap.size + 1) rfl
      obtain ⟨c2, e2, d2, f2, z2⟩ := H0.out.two 2 w.heap.size rfl
      go_wp2_with fail
      refine (HX.out _).mono ?_
      rintro e x ⟨rfl, hb⟩
      replace H0 := Lib.hid (H0.out.call hb)
      clear hb c0 e0 d0 f0 z0 c1 e1 d1 f1 z1 c2 e2 d2 f2 z2
      obtain ⟨c0, e0, d0, f0, z0⟩ := H0.out.two 0 w1.heap.size rfl
      obtain ⟨c1, e1, d1, f1, z1⟩ := H0.out.two 1 (w.heap.size + 1) rfl
      obtain ⟨c2, e2, d2, f2, z2⟩ := H0.out.two 2 w.heap.size rfl
      go_wp2_with fail
      refine (HY.out _).mono ?_
      rintro e x ⟨rfl, hb⟩
      replace H0 := Lib.hid (H0.out.call hb)
      clear hb c0 e0 d0 f0 z0 c1 e1 d1 f1 z1 c2 e2 d2 f2 z2
      obtain ⟨c0, e0, d0, f0, z0⟩ := H0.out.two 0 w1.heap.size rfl
      obtain ⟨c1, e1, d1, f1, z1⟩ := H0.out.two 1 (w.heap.size + 1) rfl
      obtain ⟨c2, e2, d2, f2, z2⟩ := H0.out.two 2 w.heap.size rfl
      go_wp2_with fail
      refine (HAB.out _).mono ?_
      rintro e x ⟨rfl, hb⟩
      replace H0 := Lib.hid (H0.out.call hb)
      clear hb c0 e0 d0 f0 z0 c1 e1 d1 f1 z1 c2 e2 d2 f2 z2
      obtain ⟨c0, e0, d0, f0, z0⟩ := H0.out.two 0 w1.heap.size rfl
      obtain ⟨c1, e1, d1, f1, z1⟩ := H0.out.two 1 (w.heap.size + 1) rfl
      obtain ⟨c2, e2, d2, f2, z2⟩ := H0.out.two 2 w.heap.size rfl
      go_wp2_with fail
      refine (HAB.out _).mono ?_
      rintro e x ⟨rfl, hb⟩
      replace H0 := Lib.hid (H0.out.call hb)
      clear hb c0 e0 d0 f0 z0 c1 e1 d1 f1 z1 c2 e2 d2 f2 z2
      obtain ⟨c0, e0, d0, f0, z0⟩ := H0.out.two 0 w1.heap.size rfl
      obtain ⟨c1, e1, d1, f1, z1⟩ := H0.out.two 1 (w.heap.size + 1) rfl
      obtain ⟨c2, e2, d2, f2, z2⟩ := H0.out.two 2 w.heap.size rfl
      go_wp2_with fail
      refine (HBA.out _).mono ?_
      rintro e x ⟨rfl, hb⟩
      replace H0 := Lib.hid (H0.out.call hb)
      clear hb c0 e0 d0 f0 z0 c1 e1 d1 f1 z1 c2 e2 d2 f2 z2
      obtain ⟨c0, e0, d0, f0, z0⟩ := H0.out.two 0 w1.heap.size rfl
      obtain ⟨c1, e1, d1, f1, z1⟩ := H0.out.two 1 (w.heap.size + 1) rfl
      obtain ⟨c2, e2, d2, f2, z2⟩ := H0.out.two 2 w.heap.size rfl
      go_wp2_with fail
      go_ret
      exact ⟨rfl, H0.out.below⟩
    | true =>
      rw [hp] at HA k6
      simp only [Bool.true_and] at k6
      rw [k6] at HB
      clear k1 k2 k3 k4 k5 k6 hp
      go_enter Try.func8, Try.ntmps8
      go_wp2_with fail
      refine (HM.out _).mono ?_
      rintro e w1 ⟨rfl, hb⟩
      replace H0 := Lib.hid (H0.out.call hb)
      clear hb
      obtain ⟨c0, e0, d0, f0, z0⟩ := H0.out.two 0 (w.heap.size + 1) rfl
      obtain ⟨c1, e1, d1, f1, z1⟩ := H0.out.two 1 w.heap.size rfl
      go_wp2_with fail
      refine (HA.out _).mono ?_
      rintro e x ⟨rfl, hb⟩
      replace H0 := Lib.hid ((H0.out.alloc w1.heap.size rfl 23 #[.int .i64 L, .int .i64 M]).call hb)
      clear hb c0 e0 d0 f0 z0 c1 e1 d1 f1 z1
      obtain ⟨c0, e0, d0, f0, z0⟩ := H0.out.two 0 w1.heap.size rfl
      obtain ⟨c1, e1, d1, f1, z1⟩ := H0.out.two 1 (w.heap.size + 1) rfl
      obtain ⟨c2, e2, d2, f2, z2⟩ := H0.out.two 2 w.heap.size rfl
      go_wp2_with fail
      refine (HB.out _).mono ?_
      rintro e x ⟨rfl, hb⟩
      replace H0 := Lib.hid (H0.out.call hb)
      clear hb c0 e0 d0 f0 z0 c1 e1 d1 f1 z1 c2 e2 d2 f2 z2
      obtain ⟨c0, e0, d0, f0, z0⟩ := H0.out.two 0 w1.heap.size rfl
      obtain ⟨c1, e1, d1, f1, z1⟩ := H0.out.two 1 (w.heap.size + 1) rfl
      obtain ⟨c2, e2, d2, f2, z2⟩ := H0.out.two 2 w.heap.size rfl
      go_wp2_with fail
      refine (awake_any _).mono ?_
      rintro e x ⟨rfl, hb⟩
      replace H0 := Lib.hid (H0.out.call hb)
      clear hb c0 e0 d0 f0 z0 c1 e1 d1 f1 z1 c2 e2 d2 f2 z2
      obtain ⟨c0, e0, d0, f0, z0⟩ := H0.out.two 0 w1.heap.size rfl
      obtain ⟨c1, e1, d1, f1, z1⟩ := H0.out.two 1 (w.heap.size + 1) rfl
      obtain ⟨c2, e2, d2, f2, z2⟩ := H0.out.two 2 w.heap.size rfl
      go_wp2_with fail
      refine (HX.out _).mono ?_
      rintro e x ⟨rfl, hb⟩
      replace H0 := Lib.hid (H0.out.call hb)
      clear hb c0 e0 d0 f0 z0 c1 e1 d1 f1 z1 c2 e2 d2 f2 z2
      obtain ⟨c0, e0, d0, f0, z0⟩ := H0.out.two 0 w1.heap.size rfl
      obtain ⟨c1, e1, d1, f1, z1⟩ := H0.out.two 1 (w.heap.size + 1) rfl
      obtain ⟨c2, e2, d2, f2, z2⟩ := H0.out.two 2 w.heap.size rfl
      go_wp2_with fail
      refine (HY.out _).mono ?_
      rintro e x ⟨rfl, hb⟩
      replace H0 := Lib.hid (H0.out.call hb)
      clear hb c0 e0 d0 f0 z0 c1 e1 d1 f1 z1 c2 e2 d2 f2 z2
      obtain ⟨c0, e0, d0, f0, z0⟩ := H0.out.two 0 w1.heap.size rfl
      obtain ⟨c1, e1, d1, f1, z1⟩ := H0.out.two 1 (w.heap.size + 1) rfl
      obtain ⟨c2, e2, d2, f2, z2⟩ := H0.out.two 2 w.heap.size rfl
      go_wp2_with fail
      refine (HAB.out _).mono ?_
      rintro e x ⟨rfl, hb⟩
      replace H0 := Lib.hid (H0.out.call hb)
      clear hb c0 e0 d0 f0 z0 c1 e1 d1 f1 z1 c2 e2 d2 f2 z2
      obtain ⟨c0, e0, d0, f0, z0⟩ := H0.out.two 0 w1.heap.size rfl
      obtain ⟨c1, e1, d1, f1, z1⟩ := H0.out.two 1 (w.heap.size + 1) rfl
      obtain ⟨c2, e2, d2, f2, z2⟩ := H0.out.two 2 w.heap.size rfl
      go_wp2_with fail
      refine (HAB.out _).mono ?_
      rintro e x ⟨rfl, hb⟩
      replace H0 := Lib.hid (H0.out.call hb)
      clear hb c0 e0 d0 f0 z0 c1 e1 d1 f1 z1 c2 e2 d2 f2 z2
      obtain ⟨c0, e0, d0, f0, z0⟩ := H0.out.two 0 w1.heap.size rfl
      obtain ⟨c1, e1, d1, f1, z1⟩ := H0.out.two 1 (w.heap.size + 1) rfl
      obtain ⟨c2, e2, d2, f2, z2⟩ := H0.out.two 2 w.heap.size rfl
      go_wp2_with fail
      refine (HBA.out _).mono ?_
      rintro e x ⟨rfl, hb⟩
      replace H0 := Lib.hid (H0.out.call hb)
      clear hb c0 e0 d0 f0 z0 c1 e1 d1 f1 z1 c2 e2 d2 f2 z2
      obtain ⟨c0, e0, d0, f0, z0⟩ := H0.out.two 0 w1.heap.size rfl
      obtain ⟨c1, e1, d1, f1, z1⟩ := H0.out.two 1 (w.heap.size + 1) rfl
      obtain ⟨c2, e2, d2, f2, z2⟩ := H0.out.two 2 w.heap.size rfl
      go_wp2_with fail
      go_ret
      exact ⟨rfl, H0.out.below⟩
  · rw [chk_yes k1] at HX
    rw [chk_yes k2] at HY
    rw [k3] at HM
    rw [k4] at HAB
    rw [k5] at HBA
    cases hp : hasB lo hi t with
    | false =>
      rw [hp] at HA k6
      clear k1 k2 k3 k4 k5 k6 hp
      go_enter Try.func8, Try.ntmps8
      go_wp2_with fail
      refine (HM.out _).mono ?_
      rintro e w1 ⟨rfl, hb⟩
      replace H0 := Lib.hid (H0.out.call hb)
      clear hb
      obtain ⟨c0, e0, d0, f0, z0⟩ := H0.out.two 0 (w.heap.size + 1) rfl
      obtain ⟨c1, e1, d1, f1, z1⟩ := H0.out.two 1 w.heap.size rfl
      go_wp2_with fail
      refine (HA.out _).mono ?_
      rintro e x ⟨rfl, hb⟩
      replace H0 := Lib.hid ((H0.out.alloc w1.heap.size rfl 23 #[.int .i64 L, .int .i64 M]).call hb)
      clear hb c0 e0 d0 f0 z0 c1 e1 d1 f1 z1
      obtain ⟨c0, e0, d0, f0, z0⟩ := H0.out.two 0 w1.heap.size rfl
      obtain ⟨c1, e1, d1, f1, z1⟩ := H0.out.two 1 (w.heap.size + 1) rfl
      obtain ⟨c2, e2, d2, f2, z2⟩ := H0.out.two 2 w.heap.size rfl
      go_wp2_with fail
      refine (awake_any _).mono ?_
      rintro e x ⟨rfl, hb⟩
      replace H0 := Lib.hid (H0.out.call hb)
      clear hb c0 e0 d0 f0 z0 c1 e1 d1 f1 z1 c2 e2 d2 f2 z2
      obtain ⟨c0, e0, d0, f0, z0⟩ := H0.out.two 0 w1.heap.size rfl
      obtain ⟨c1, e1, d1, f1, z1⟩ := H0.out.two 1 (w.heap.size + 1) rfl
      obtain ⟨c2, e2, d2, f2, z2⟩ := H0.out.two 2 w.heap.size rfl
      go_wp2_with fail
      refine (HX.out _).mono ?_
      rintro e x ⟨rfl, hb⟩
      replace H0 := Lib.hid (H0.out.call hb)
      clear hb c0 e0 d0 f0 z0 c1 e1 d1 f1 z1 c2 e2 d2 f2 z2
      obtain ⟨c0, e0, d0, f0, z0⟩ := H0.out.two 0 w1.heap.size rfl
      obtain ⟨c1, e1, d1, f1, z1⟩ := H0.out.two 1 (w.heap.size + 1) rfl
      obtain ⟨c2, e2, d2, f2, z2⟩ := H0.out.two 2 w.heap.size rfl
      go_wp2_with fail
      refine (HY.out _).mono ?_
      rintro e x ⟨rfl, hb⟩
      replace H0 := Lib.hid (H0.out.call hb)
      clear hb c0 e0 d0 f0 z0 c1 e1 d1 f1 z1 c2 e2 d2 f2 z2
      obtain ⟨c0, e0, d0, f0, z0⟩ := H0.out.two 0 w1.heap.size rfl
      obtain ⟨c1, e1, d1, f1, z1⟩ := H0.out.two 1 (w.heap.size + 1) rfl
      obtain ⟨c2, e2, d2, f2, z2⟩ := H0.out.two 2 w.heap.size rfl
      go_wp2_with fail
      refine (HAB.out _).mono ?_
      rintro e x ⟨rfl, hb⟩
      replace H0 := Lib.hid (H0.out.call hb)
      clear hb c0 e0 d0 f0 z0 c1 e1 d1 f1 z1 c2 e2 d2 f2 z2
      obtain ⟨c0, e0, d0, f0, z0⟩ := H0.out.two 0 w1.heap.size rfl
      obtain ⟨c1, e1, d1, f1, z1⟩ := H0.out.two 1 (w.heap.size + 1) rfl
      obtain ⟨c2, e2, d2, f2, z2⟩ := H0.out.two 2 w.heap.size rfl
      go_wp2_with fail
      refine (HBA.out _).mono ?_
      rintro e x ⟨rfl, hb⟩
      replace H0 := Lib.hid (H0.out.call hb)
      clear hb c0 e0 d0 f0 z0 c1 e1 d1 f1 z1 c2 e2 d2 f2 z2
      obtain ⟨c0, e0, d0, f0, z0⟩ := H0.out.two 0 w1.heap.size rfl
      obtain ⟨c1, e1, d1, f1, z1⟩ := H0.out.two 1 (w.heap.size + 1) rfl
      obtain ⟨c2, e2, d2, f2, z2⟩ := H0.out.two 2 w.heap.size rfl
      go_wp2_with fail
      refine (HAB.out _).mono ?_
      rintro e x ⟨rfl, hb⟩
      replace H0 := Lib.hid (H0.out.call hb)
      clear hb c0 e0 d0 f0 z0 c1 e1 d1 f1 z1 c2 e2 d2 f2 z2
      obtain ⟨c0, e0, d0, f0, z0⟩ := H0.out.two 0 w1.heap.size rfl
      obtain ⟨c1, e1, d1, f1, z1⟩ := H0.out.two 1 (w.heap.size + 1) rfl
      obtain ⟨c2, e2, d2, f2, z2⟩ := H0.out.two 2 w.heap.size rfl
      go_wp2_with fail
      go_ret
      exact ⟨rfl, H0.out.below⟩
    | true =>
      rw [hp] at HA k6
      simp only [Bool.true_and] at k6
      rw [k6] at HB
      clear k1 k2 k3 k4 k5 k6 hp
      go_enter Try.func8, Try.ntmps8
      go_wp2_with fail
      refine (HM.out _).mono ?_
      rintro e w1 ⟨rfl, hb⟩
      replace H0 := Lib.hid (H0.out.call hb)
      clear hb
      obtain ⟨c0, e0, d0, f0, z0⟩ := H0.out.two 0 (w.heap.size + 1) rfl
      obtain ⟨c1, e1, d1, f1, z1⟩ := H0.out.two 1 w.heap.size rfl
      go_wp2_with fail
      refine (HA.out _).mono ?_
      rintro e x ⟨rfl, hb⟩
      replace H0 := Lib.hid ((H0.out.alloc w1.heap.size rfl 23 #[.int .i64 L, .int .i64 M]).call hb)
      clear hb c0 e0 d0 f0 z0 c1 e1 d1 f1 z1
      obtain ⟨c0, e0, d0, f0, z0⟩ := H0.out.two 0 w1.heap.size rfl
      obtain ⟨c1, e1, d1, f1, z1⟩ := H0.out.two 1 (w.heap.size + 1) rfl
      obtain ⟨c2, e2, d2, f2, z2⟩ := H0.out.two 2 w.heap.size rfl
      go_wp2_with fail
      refine (HB.out _).mono ?_
      rintro e x ⟨rfl, hb⟩
      replace H0 := Lib.hid (H0.out.call hb)
      clear hb c0 e0 d0 f0 z0 c1 e1 d1 f1 z1 c2 e2 d2 f2 z2
      obtain ⟨c0, e0, d0, f0, z0⟩ := H0.out.two 0 w1.heap.size rfl
      obtain ⟨c1, e1, d1, f1, z1⟩ := H0.out.two 1 (w.heap.size + 1) rfl
      obtain ⟨c2, e2, d2, f2, z2⟩ := H0.out.two 2 w.heap.size rfl
      go_wp2_with fail
      refine (awake_any _).mono ?_
      rintro e x ⟨rfl, hb⟩
      replace H0 := Lib.hid (H0.out.call hb)
      clear hb c0 e0 d0 f0 z0 c1 e1 d1 f1 z1 c2 e2 d2 f2 z2
      obtain ⟨c0, e0, d0, f0, z0⟩ := H0.out.two 0 w1.heap.size rfl
      obtain ⟨c1, e1, d1, f1, z1⟩ := H0.out.two 1 (w.heap.size + 1) rfl
      obtain ⟨c2, e2, d2, f2, z2⟩ := H0.out.two 2 w.heap.size rfl
      go_wp2_with fail
      refine (HX.out _).mono ?_
      rintro e x ⟨rfl, hb⟩
      replace H0 := Lib.hid (H0.out.call hb)
      clear hb c0 e0 d0 f0 z0 c1 e1 d1 f1 z1 c2 e2 d2 f2 z2
      obtain ⟨c0, e0, d0, f0, z0⟩ := H0.out.two 0 w1.heap.size rfl
      obtain ⟨c1, e1, d1, f1, z1⟩ := H0.out.two 1 (w.heap.size + 1) rfl
      obtain ⟨c2, e2, d2, f2, z2⟩ := H0.out.two 2 w.heap.size rfl
      go_wp2_with fail
      refine (HY.out _).mono ?_
      rintro e x ⟨rfl, hb⟩
      replace H0 := Lib.hid (H0.out.call hb)
      clear hb c0 e0 d0 f0 z0 c1 e1 d1 f1 z1 c2 e2 d2 f2 z2
      obtain ⟨c0, e0, d0, f0, z0⟩ := H0.out.two 0 w1.heap.size rfl
      obtain ⟨c1, e1, d1, f1, z1⟩ := H0.out.two 1 (w.heap.size + 1) rfl
      obtain ⟨c2, e2, d2, f2, z2⟩ := H0.out.two 2 w.heap.size rfl
      go_wp2_with fail
      refine (HAB.out _).mono ?_
      rintro e x ⟨rfl, hb⟩
      replace H0 := Lib.hid (H0.out.call hb)
      clear hb c0 e0 d0 f0 z0 c1 e1 d1 f1 z1 c2 e2 d2 f2 z2
      obtain ⟨c0, e0, d0, f0, z0⟩ := H0.out.two 0 w1.heap.size rfl
      obtain ⟨c1, e1, d1, f1, z1⟩ := H0.out.two 1 (w.heap.size + 1) rfl
      obtain ⟨c2, e2, d2, f2, z2⟩ := H0.out.two 2 w.heap.size rfl
      go_wp2_with fail
      refine (HBA.out _).mono ?_
      rintro e x ⟨rfl, hb⟩
      replace H0 := Lib.hid (H0.out.call hb)
      clear hb c0 e0 d0 f0 z0 c1 e1 d1 f1 z1 c2 e2 d2 f2 z2
      obtain ⟨c0, e0, d0, f0, z0⟩ := H0.out.two 0 w1.heap.size rfl
      obtain ⟨c1, e1, d1, f1, z1⟩ := H0.out.two 1 (w.heap.size + 1) rfl
      obtain ⟨c2, e2, d2, f2, z2⟩ := H0.out.two 2 w.heap.size rfl
      go_wp2_with fail
      refine (HAB.out _).mono ?_
      rintro e x ⟨rfl, hb⟩
      replace H0 := Lib.hid (H0.out.call hb)
      clear hb c0 e0 d0 f0 z0 c1 e1 d1 f1 z1 c2 e2 d2 f2 z2
      obtain ⟨c0, e0, d0, f0, z0⟩ := H0.out.two 0 w1.heap.size rfl
      obtain ⟨c1, e1, d1, f1, z1⟩ := H0.out.two 1 (w.heap.size + 1) rfl
      obtain ⟨c2, e2, d2, f2, z2⟩ := H0.out.two 2 w.heap.size rfl
      go_wp2_with fail
      go_ret
      exact ⟨rfl, H0.out.below⟩

set_option maxRecDepth 100000 in
theorem lifted (os : Os) (started : os.Started) (H : Type) (enc : TypeId × Value → H) :
    ReturnsInHanded {} Try.checked os 8 .any (Rows.spanMeetsSpec.pre6 enc Try.prog Try.f8 Rows.spanMeetsRow.domain false) (Rows.spanMeetsSpec.post enc Try.prog Try.f8 false true false false) := by
  refine returnsInHanded_of_change (C := Try.checked) own started (by kernel_rfl) Try.func8
    (ChangeSpec.witness6 (enc := enc) (C := Try.checked) false ⟨#[], #[.agg #[.int .i64 0, .int .i64 0], .agg #[.int .i64 0, .int .i64 0], .int .i64 0], []⟩ 8 (by kernel_rfl) (by kernel_rfl) (by kernel_rfl) (by kernel_rfl)) ?_
  intro W base args ds gs before hval0 hW hcnd _
  have hval : ∀ (j : Nat) t v, Try.f8.params[j]? = some t → args[j]? = some v → Value.okWide Try.prog W .any base t v := hval0
  have hW' := hW
  obtain ⟨p, q, hA0, hV, rfl, hfz, hnd⟩ := hW
  have hA : DataW.TrodAll enc Try.prog W 0 (fun _ => true) true Try.f8.params.toList args.toList ds p := hA0
  rw [Try.params8] at hA hval
  obtain ⟨v0, vs0, d0, ds0, p0, q0, hargs, rfl, rfl, h0, r0⟩ := trodAll_cons hA
  obtain ⟨v1, vs1, d1, ds1, p1, q1, rfl, rfl, rfl, h1, r1⟩ := trodAll_cons r0
  obtain ⟨v2, vs2, d2, ds2, p2, q2, rfl, rfl, rfl, h2, r2⟩ := trodAll_cons r1
  obtain ⟨rfl, rfl, rfl⟩ := trodAll_nil r2
  obtain rfl : args = #[v0, v1, v2] := by cases args; simp_all
  obtain ⟨rfl, rfl⟩ := trodVars_none hV
  obtain ⟨a0, b0, rfl, w0⟩ := open_span (hval 0 23 v0 rfl rfl) h0
  have lt0 : ∀ x ∈ p0, x.block < W.heap.size := by obtain ⟨m, hm⟩ := h0; exact DataW.trod_lt m _ _ _ hm
  obtain ⟨a1, b1, rfl, w1⟩ := open_span (hval 1 23 v1 rfl rfl) h1
  have lt1 : ∀ x ∈ p1, x.block < W.heap.size := by obtain ⟨m, hm⟩ := h1; exact DataW.trod_lt m _ _ _ hm
  obtain ⟨a2, rfl⟩ := okWide_int Try.underlying2 (hval 2 2 v2 rfl rfl)
  have w2 : -9223372036854775808 ≤ a2 ∧ a2 ≤ 9223372036854775807 := by
    obtain ⟨m, hm⟩ := h2
    obtain ⟨s, hs, _, hl⟩ := DataW.trod_int Try.underlying2 hm
    simp [Value.cells] at hs
    rw [hs]; have := bounds_i64 hl; omega
  have lt2 : ∀ x ∈ p2, x.block < W.heap.size := by obtain ⟨m, hm⟩ := h2; exact DataW.trod_lt m _ _ _ hm
  clear hA0 hval0
  simp only [List.append_nil] at hW'
  refine (walk a0 b0 w0 a1 b1 w1 a2 w2 W ).mono fun e W' ⟨he, bel⟩ => ?_
  subst he
  exact ⟨_, rfl, _, _, _, [], _, [], hW', trodAll_mk1 (shut_bool Try.underlying4 _), (trodAll_cons_mk (Below.trod laidOut (by kernel_rfl) (of_decide_eq_true (by kernel_rfl)) h0 bel lt0) (trodAll_cons_mk (Below.trod laidOut (by kernel_rfl) (of_decide_eq_true (by kernel_rfl)) h1 bel lt1) (trodAll_cons_mk (Below.trod laidOut (by kernel_rfl) (of_decide_eq_true (by kernel_rfl)) h2 bel lt2) trodAll_mk0))), rfl, bel.frame _, fun h => by cases h⟩

theorem proved : Rows.SpanMeetsSaid :=
  OpenClaim.holds_of_wide 8 Try.f8 rfl rfl rfl rfl rfl rfl rfl ⟨rfl, rfl, rfl, rfl, rfl⟩ rfl rfl rfl rfl rfl (by kernel_rfl) Try.func8 (by kernel_rfl)
    (of_decide_eq_true (by kernel_rfl)) (by unfold Func.isWrapper; first | (rw [if_pos (by decide +kernel)]; kernel_rfl) | (rw [if_neg (by decide +kernel)]; exact ⟨rfl, rfl⟩))
    (fun os started H enc _ => lifted os started H enc)
#print axioms proved
end Go.Proofs.Ytaoldfndidngbaa.spanMeets
