/- Contracts of the document's answers at layer 4: Is, Total, Sub, Split, Rated, Fee; and of same. -/
import Derived.Test.YtggmbkmkjkllkaaAmtB
namespace Go.Proofs.Ytggmbkmkjkllkaa
open Go.RowKit Go.Am Go.Fl
set_option linter.unusedVariables false
set_option linter.unusedSimpArgs false

theorem ris_any (n : Int) (w : World) : Calls Try.prog 17 #[.int .i64 n] w fun e w' => e = .returned (.bool (isA n)) ∧ w' = w := by
  by_cases h0 : 0 ≤ n
  · by_cases h1 : n ≤ 1000000000000000
    · have H : Hid (isA n = true) := Lib.hid ((isA_iff n).2 ⟨h0, h1⟩)
      go_enter Try.func17, Try.ntmps17
      go_wp2_with fail
      go_ret
      exact ⟨by rw [H.out]; rfl, rfl⟩
    · have H : Hid (isA n = false) := Lib.hid (by unfold isA; rw [decide_eq_false_iff_not]; omega)
      go_enter Try.func17, Try.ntmps17
      go_wp2_with fail
      all_goals
        go_ret
        exact ⟨by rw [H.out]; first | rfl | (simp [*]; try omega), rfl⟩
  · have H : Hid (isA n = false) := Lib.hid (by unfold isA; rw [decide_eq_false_iff_not]; omega)
    go_enter Try.func17, Try.ntmps17
    go_wp2_with fail
    all_goals
      go_ret
      exact ⟨by rw [H.out]; first | rfl | (simp [*]; try omega), rfl⟩

theorem rtotal_any (B : Nat) (A : Option Addr) (cap : Nat) (l : List Int) (w : World) (hs : Sees w B 1 A l.length (vals l)) (hl : l.length ≤ 1000000) :
    Calls Try.prog 12 #[.slice A l.length cap] w fun e w' => e = .returned (.tuple #[.int .i64 (totV l), .bool (totOk l)]) ∧ w' = w := by
  have HS := Lib.hid hs
  clear hs
  go_enter Try.func12, Try.ntmps12
  go_wp2_with fail
  go_loop [4, 5] (fun v i => ∃ k : Nat, k ≤ l.length ∧ i = .int .i64 (k : Int) ∧ v = .int .i64 (1000000000000000 - sum (l.take k)) ∧ Fit (l.take k)) (fun _ i => l.length - (intOf i).toNat)
  case atStart => exact ⟨0, by omega, rfl, by simp [sum], Fit.nil⟩
  case round =>
    obtain ⟨k, hk, rfl, rfl, hfit⟩ := hrel
    have hpos := hfit.sum_pos
    have hle := hfit.2
    have HF := Lib.hid hfit
    clear hfit
    by_cases hlt : k < l.length
    · obtain ⟨n, hn⟩ : ∃ n, l[k]? = some n := ⟨_, List.getElem?_eq_getElem hlt⟩
      obtain ⟨b0, off, rfl, hb, hcell⟩ := HS.out.2 (by omega)
      have g0 := hcell k _ (vals_at l k n hn)
      have HI := Lib.hid (fun w0 => ris_any n w0)
      have HSN := Lib.hid (sum_snoc l k n hn)
      have hkl : (k : Int) < (l.length : Int) := by omega
      by_cases hgood : 0 ≤ n ∧ sum (l.take k) + n ≤ 1000000000000000
      · obtain ⟨hn0, hn1⟩ := hgood
        have HM := Lib.hid (HF.out.more hn hn0 hn1)
        rw [(isA_iff n).2 ⟨hn0, by omega⟩] at HI
        generalize sum (l.take k) = S at *
        clear hcell hn
        go_wp2_with fail
        refine (HI.out _).mono ?_
        rintro e w1 ⟨rfl, rfl⟩
        go_wp2_with fail
        go_round
        case rel => exact ⟨k + 1, by omega, by go_num, by rw [HSN.out]; go_num, HM.out⟩
        case measure => simp [intOf]; omega
      · have HX := Lib.hid (Fit.stop hn hgood)
        have HV : Hid (totV l = 0) := Lib.hid (by unfold totV; rw [if_neg HX.out])
        have HO : Hid (totOk l = false) := Lib.hid (by unfold totOk; rw [decide_eq_false_iff_not]; exact HX.out)
        cases hi : isA n with
        | false =>
          rw [hi] at HI
          clear hcell hn hgood hi
          generalize sum (l.take k) = S at *
          go_wp2_with fail
          refine (HI.out _).mono ?_
          rintro e w1 ⟨rfl, rfl⟩
          go_wp2_with fail
          go_ret2
          exact ⟨by rw [HV.out, HO.out]; rfl, rfl⟩
        | true =>
          have h2 := (isA_iff n).1 hi
          have h3 : 1000000000000000 - sum (l.take k) < n := by
            rcases Int.lt_or_le 1000000000000000 (sum (l.take k) + n) with h | h
            · omega
            · exact absurd ⟨h2.1, h⟩ hgood
          rw [hi] at HI
          clear hcell hn hgood hi
          generalize sum (l.take k) = S at *
          go_wp2_with fail
          refine (HI.out _).mono ?_
          rintro e w1 ⟨rfl, rfl⟩
          go_wp2_with fail
          go_ret2
          exact ⟨by rw [HV.out, HO.out]; rfl, rfl⟩
    · obtain rfl : k = l.length := by omega
      rw [List.take_length] at HF hpos hle ⊢
      have HV : Hid (totV l = sum l) := Lib.hid (by unfold totV; rw [if_pos HF.out])
      have HO : Hid (totOk l = true) := Lib.hid (by unfold totOk; rw [decide_eq_true_eq]; exact HF.out)
      generalize sum l = S at *
      go_wp2_with fail
      go_ret2
      exact ⟨by rw [HV.out, HO.out]; first | rfl | (simp; omega), rfl⟩

theorem rsub_any (a b : Int) (ha : -9223372036854775808 ≤ a ∧ a < 9223372036854775808) (hb : -9223372036854775808 ≤ b ∧ b < 9223372036854775808) (w : World) :
    Calls Try.prog 14 #[.int .i64 a, .int .i64 b] w fun e w' => e = .returned (.tuple #[.int .i64 (subV a b), .int .i64 (subE a b)]) ∧ w' = w := by
  have HA := Lib.hid (fun w0 => ris_any a w0)
  have HB := Lib.hid (fun w0 => ris_any b w0)
  cases h1 : isA a with
  | false =>
    have HE : Hid (subE a b = 40 ∧ subV a b = 0) := Lib.hid (by unfold subE subV; rw [h1]; exact ⟨rfl, rfl⟩)
    rw [h1] at HA
    clear h1
    go_enter Try.func14, Try.ntmps14
    go_wp2_with fail
    refine (HA.out _).mono ?_
    rintro e w1 ⟨rfl, rfl⟩
    go_wp2_with fail
    go_ret2
    exact ⟨by rw [HE.out.1, HE.out.2]; rfl, rfl⟩
  | true =>
    cases h2 : isA b with
    | false =>
      have HE : Hid (subE a b = 40 ∧ subV a b = 0) := Lib.hid (by unfold subE subV; rw [h1, h2]; exact ⟨rfl, rfl⟩)
      rw [h1] at HA
      rw [h2] at HB
      clear h1 h2
      go_enter Try.func14, Try.ntmps14
      go_wp2_with fail
      refine (HA.out _).mono ?_
      rintro e w1 ⟨rfl, rfl⟩
      go_wp2_with fail
      refine (HB.out _).mono ?_
      rintro e w1 ⟨rfl, rfl⟩
      go_wp2_with fail
      go_ret2
      exact ⟨by rw [HE.out.1, HE.out.2]; rfl, rfl⟩
    | true =>
      have ra := (isA_iff a).1 h1
      have rb := (isA_iff b).1 h2
      by_cases hlt : a < b
      · have HE : Hid (subE a b = 41 ∧ subV a b = 0) := Lib.hid (by unfold subE subV; rw [h1, h2]; simp [hlt])
        rw [h1] at HA
        rw [h2] at HB
        clear h1 h2
        go_enter Try.func14, Try.ntmps14
        go_wp2_with fail
        refine (HA.out _).mono ?_
        rintro e w1 ⟨rfl, rfl⟩
        go_wp2_with fail
        refine (HB.out _).mono ?_
        rintro e w1 ⟨rfl, rfl⟩
        go_wp2_with fail
        go_ret2
        exact ⟨by rw [HE.out.1, HE.out.2]; rfl, rfl⟩
      · have HE : Hid (subE a b = 0 ∧ subV a b = a - b) := Lib.hid (by unfold subE subV; rw [h1, h2]; simp [hlt])
        rw [h1] at HA
        rw [h2] at HB
        clear h1 h2
        go_enter Try.func14, Try.ntmps14
        go_wp2_with fail
        refine (HA.out _).mono ?_
        rintro e w1 ⟨rfl, rfl⟩
        go_wp2_with fail
        refine (HB.out _).mono ?_
        rintro e w1 ⟨rfl, rfl⟩
        go_wp2_with fail
        go_ret2
        exact ⟨by rw [HE.out.1, HE.out.2]; rfl, rfl⟩
end Go.Proofs.Ytggmbkmkjkllkaa
