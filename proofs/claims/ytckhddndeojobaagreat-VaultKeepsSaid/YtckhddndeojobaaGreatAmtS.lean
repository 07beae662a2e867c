/- The contract of num.wide.shift, and of num.Times. -/
import Derived.Test.YtckhddndeojobaaGreatAmtT
namespace Go.Proofs.YtckhddndeojobaaGreat
open Go.RowKit Go.Fl

theorem ret_ub2 {a b : Int} {p q : Bool} (h : a = b) (h2 : p = q) : Ending.returned (.tuple #[.int .u64 a, .bool p]) = .returned (.tuple #[.int .u64 b, .bool q]) := by rw [h, h2]

/-- What was there is as it was. -/
abbrev Kp (w w' : World) : Prop := Below w.heap.size w w'
theorem grown_drewN {W w' : World} (h : Kp W w') (n : Nat) : Kp W (w'.drewN n) := below_drewN h n
theorem or_low (hi lo : Nat) (s : Nat) (s1 : 1 ≤ s) (s2 : s < 64) (h2 : lo < 2 ^ 64) (h : (hi * 2 ^ 64 + lo) / 2 ^ s < 2 ^ 64) :
    bits .or .u64 (IntKind.u64.wrap ((hi : Int) * 2 ^ (64 - s))) ((lo : Int) / 2 ^ s) = (((hi * 2 ^ 64 + lo) / 2 ^ s : Nat) : Int) := by
  have g := shift_low hi lo s h2 s1 s2
  rw [g.1] at h ⊢
  have lA : hi * 2 ^ (64 - s) < 18446744073709551616 := Nat.lt_of_le_of_lt (Nat.le_add_right _ _) h
  have lB : lo / 2 ^ s < 18446744073709551616 := Nat.lt_of_le_of_lt (Nat.le_add_left _ _) h
  have e : IntKind.u64.wrap ((hi : Int) * 2 ^ (64 - s)) = ((hi * 2 ^ (64 - s) : Nat) : Int) := by
    rw [pow_cast, ← Int.natCast_mul, IntKind.wrap_u64]
    generalize hi * 2 ^ (64 - s) = A at lA
    omega
  have e2 : (lo : Int) / 2 ^ s = ((lo / 2 ^ s : Nat) : Int) := by simp
  rw [e, e2, u64_or_nat _ _ lA lB, nat_join (64 - s) _ _ (Nat.mul_mod_left _ _) g.2.2]

set_option maxHeartbeats 400000 in
theorem shift_any (hi lo : Nat) (e : Int) (h1 : hi < 18446744073709551616) (h3 : lo < 18446744073709551616) (e0 : -2000 ≤ e) (e1 : e ≤ 63)
    (hP : hi * 18446744073709551616 + lo ≠ 0) (hw : wholeOf (hi * 18446744073709551616 + lo) e < 18446744073709551616) (w : World) :
    Calls Tryz.prog 93 #[.agg #[.int .u64 hi, .int .u64 lo], .int .i64 e] w fun e' w' =>
      e' = .returned (.tuple #[.int .u64 (wholeOf (hi * 18446744073709551616 + lo) e), .bool (cutOf (hi * 18446744073709551616 + lo) e)]) ∧ Kp w w' := by
  have HW := Lib.hid hw
  have HP := Lib.hid hP
  clear hw hP
  by_cases c1 : 0 ≤ e
  · go_enter Tryz.func93, Tryz.ntmps93
    go_wp2
    go_ret2
    refine ⟨ret_ub2 ?_ ?_, by first | (refine grown_drewN ?_ _; go_grown) | go_grown⟩
    · have hw := HW.out
      unfold wholeOf at hw ⊢
      rw [if_pos c1] at hw ⊢
      have hp := Nat.two_pow_pos e.toNat
      have hz : hi = 0 := by
        rcases Nat.eq_zero_or_pos hi with z | z
        · exact z
        · have : (hi * 18446744073709551616 + lo) * 1 ≤ (hi * 18446744073709551616 + lo) * 2 ^ e.toNat := Nat.mul_le_mul_left _ hp
          omega
      subst hz
      rw [Nat.zero_mul, Nat.zero_add] at hw ⊢
      rw [pow_cast, ← Int.natCast_mul, IntKind.wrap_u64, Int.emod_eq_of_lt (by omega) (by omega)]
    · unfold cutOf; rw [if_pos c1]
  · by_cases c2 : -64 < e
    · go_enter Tryz.func93, Tryz.ntmps93
      go_wp2
      go_quiet (fail)
      go_wp2
      go_ret2
      refine ⟨ret_ub2 ?_ ?_, by first | (refine grown_drewN ?_ _; go_grown) | go_grown⟩
      · have hw := HW.out
        unfold wholeOf at hw ⊢
        rw [if_neg (by omega)] at hw ⊢
        have o := or_low hi lo (-e).toNat (by omega) (by omega) h3 hw
        rw [show 64 - (-e).toNat = (64 + e).toNat by omega] at o
        exact o
      · unfold cutOf
        rw [if_neg (by omega)]
        have o := wrap_shl lo (-e).toNat (by omega)
        rw [show 64 - (-e).toNat = (64 + e).toNat by omega] at o
        rw [(shift_low hi lo (-e).toNat h3 (by omega) (by omega)).2.1]
        exact o
    · by_cases c3 : -128 < e
      · have H := Lib.hid (shift_high hi lo (-e).toNat h3 (by omega))
        by_cases c4 : lo = 0
        · subst c4
          go_enter Tryz.func93, Tryz.ntmps93
          go_wp2
          go_quiet (fail)
          go_wp2
          go_ret2
          refine ⟨ret_ub2 ?_ ?_, by first | (refine grown_drewN ?_ _; go_grown) | go_grown⟩
          · have h := H.out
            unfold wholeOf
            rw [if_neg (by omega), show 18446744073709551616 = 2 ^ 64 from rfl, h.1, show (-e).toNat - 64 = (-e - 64).toNat by omega]
            simp
          · have h := H.out
            unfold cutOf
            have o := wrap_shl hi ((-e).toNat - 64) (by omega)
            rw [show 64 - ((-e).toNat - 64) = (128 + e).toNat by omega] at o
            have q : decide (¬ hi % 2 ^ ((-e).toNat - 64) = 0) = decide (¬ (hi * 2 ^ 64 + 0) % 2 ^ (-e).toNat = 0) := by
              rw [Bool.eq_iff_iff, decide_eq_true_eq, decide_eq_true_eq, h.2]; simp
            rw [if_neg (by omega)]
            exact o.trans q
        · have c5 : ((lo : Int) != 0) = true := by simpa using c4
          have C := Lib.hid c4
          clear c4
          go_enter Tryz.func93, Tryz.ntmps93
          go_wp2
          go_quiet (fail)
          go_wp2
          go_ret2
          refine ⟨ret_ub2 ?_ ?_, by first | (refine grown_drewN ?_ _; go_grown) | go_grown⟩
          · have h := H.out
            unfold wholeOf
            rw [if_neg (by omega), show 18446744073709551616 = 2 ^ 64 from rfl, h.1, show (-e).toNat - 64 = (-e - 64).toNat by omega]
            simp
          · have h := H.out
            unfold cutOf
            rw [if_neg (by omega)]
            symm
            rw [show 18446744073709551616 = 2 ^ 64 from rfl]
            first | (simp only [decide_eq_true_eq, ne_eq]; rw [h.2]; exact fun g => C.out g.1) | (rw [decide_eq_true_eq, ne_eq, h.2]; exact fun g => C.out g.1)
      · go_enter Tryz.func93, Tryz.ntmps93
        go_wp2
        go_ret2
        have hs : hi * 18446744073709551616 + lo < 2 ^ (-e).toNat :=
          Nat.lt_of_lt_of_le (by omega : hi * 18446744073709551616 + lo < 2 ^ 128) (Nat.pow_le_pow_right (by omega) (by omega))
        refine ⟨ret_ub2 ?_ ?_, by first | (refine grown_drewN ?_ _; go_grown) | go_grown⟩
        · unfold wholeOf
          rw [if_neg (by omega), Nat.div_eq_of_lt hs]; rfl
        · have hp := HP.out
          unfold cutOf
          rw [if_neg (by omega), Nat.mod_eq_of_lt hs]
          symm; exact decide_eq_true hp
theorem grown_trans {a b c : World} (h : Kp a b) (g : Kp b c) : Kp a c := h.trans (g.mono h.size)
@[go_sem] theorem w_gtmaxa (x : Nat) (h : x < 18446744073709551616) : (FloatKind.f64.format.order (x % 9223372036854775808) 9218868437227405311 == some .gt) = decide (x = 9218868437227405312 ∨ x = 18442240474082181120) := gtmax_abs x h
theorem isnan_any (x : Nat) (hx : x < 18446744073709551616) (w : World) : Calls Tryz.prog 88 #[.float .f64 x] w fun e w' => e = .returned (.bool (nan x)) ∧ w' = w := by
  go_enter Tryz.func88, Tryz.ntmps88
  go_wp2
  go_ret
  exact ⟨ret_bool (by rw [nan_dec x hx, Bool.eq_iff_iff]; simp), rfl⟩
set_option maxRecDepth 100000 in
theorem isinf_any (x : Nat) (hx : x < 18446744073709551616) (w : World) : Calls Tryz.prog 87 #[.float .f64 x, .int .i64 0] w fun e w' => e = .returned (.bool (inf x)) ∧ w' = w := by
  go_enter Tryz.func87, Tryz.ntmps87
  go_wp2
  go_ret
  exact ⟨ret_bool (by unfold inf; rw [Bool.eq_iff_iff]; simp), rfl⟩
def timesR (n : Int) (x : Nat) : Value := if nan x || (inf x && n == 0) then .tuple #[.int .i64 0, .int .i64 10] else if inf x then .tuple #[.int .i64 0, .int .i64 11] else fitV (prodF n x)

theorem timesR_nan {n : Int} {x : Nat} (h : nan x = true) : timesR n x = .tuple #[.int .i64 0, .int .i64 10] := by unfold timesR; rw [h]; rfl
theorem timesR_inf0 {n : Int} {x : Nat} (h : inf x = true) (h2 : (n == 0) = true) : timesR n x = .tuple #[.int .i64 0, .int .i64 10] := by unfold timesR; rw [h, h2]; simp
theorem timesR_inf {n : Int} {x : Nat} (h : nan x = false) (h1 : inf x = true) (h2 : (n == 0) = false) : timesR n x = .tuple #[.int .i64 0, .int .i64 11] := by unfold timesR; rw [h, h1, h2]; rfl
theorem timesR_num {n : Int} {x : Nat} (h : nan x = false) (h1 : inf x = false) : timesR n x = fitV (prodF n x) := by unfold timesR; rw [h, h1]; rfl

theorem times_nan (n : Int) (x : Nat) (hx : x < 18446744073709551616) (h : nan x = true) (w : World) :
    Calls Tryz.prog 72 #[.int .i64 n, .float .f64 x] w fun e w' => e = .returned (timesR n x) ∧ Kp w w' := by
  have H := Lib.hid (timesR_nan (n := n) h)
  go_enter Tryz.func72, Tryz.ntmps72
  go_wp2_with (first | (go_at_call 88; refine (isnan_any x hx _).mono ?_; rintro e w1 ⟨rfl, rfl⟩) | (go_at_call 87; refine (isinf_any x hx _).mono ?_; rintro e w1 ⟨rfl, rfl⟩))
  go_ret2
  exact ⟨by rw [H.out]; rfl, Below.refl _ _⟩
set_option maxHeartbeats 400000 in
set_option maxRecDepth 100000 in
theorem times_num (n : Int) (x : Nat) (hx : x < 18446744073709551616) (hn : nan x = false)
   (hi : inf x = false) (h0 : (n == 0) = false) (hz : ¬ (x = 0 ∨ x = 9223372036854775808))
   (n0 : -9223372036854775808 ≤ n) (n1 : n < 9223372036854775808) (w : World) :
    Calls Tryz.prog 72 #[.int .i64 n, .float .f64 x] w fun e w' => e = .returned (timesR n x) ∧ Kp w w' := by
  have hm := mant_lt (rung x)
  have hu := up_le (rung x) (Nat.mod_lt _ (by decide))
  go_enter Tryz.func72, Tryz.ntmps72
  go_wp2_with (first | (go_at_call 88; refine (isnan_any x hx _).mono ?_; rintro e w1 ⟨rfl, rfl⟩) | (go_at_call 87; refine (isinf_any x hx _).mono ?_; rintro e w1 ⟨rfl, rfl⟩) | (go_at_call 89; refine (split_any x hx _).mono ?_; rintro e w1 ⟨rfl, rfl⟩))
  refine (size_any n n0 n1 _).mono ?_
  rintro e w1 ⟨rfl, rfl⟩
  go_wp2_with fail
  refine (product_any _ _ (by omega) (by omega) (by omega) (by omega) _).mono ?_
  rintro e w1 ⟨rfl, rfl⟩
  go_wp2_with fail
  have hp0 : n.natAbs * mant (rung x) ≠ 0 := by
    intro h
    have h0' : n ≠ 0 := by simpa using h0
    rcases Nat.mul_eq_zero.1 h with g | g
    · exact h0' (Int.natAbs_eq_zero.1 g)
    · have r : rung x = x % 9223372036854775808 := rfl
      rw [mant_zero] at g; omega
  have hp1 : n.natAbs * mant (rung x) / 18446744073709551616 < 18446744073709551616 := by
    have := Nat.mul_lt_mul'' (a := n.natAbs) (c := 18446744073709551616) (b := mant (rung x)) (d := 18446744073709551616) (by omega) (by omega)
    omega
  have HF := Lib.hid (prodF_far n x (n.natAbs * mant (rung x)) rfl hp0 hp1)
  have HW := Lib.hid (whole_near (n.natAbs * mant (rung x)) ((up (rung x) : Int) - 1074) hp1)
  have HE := Lib.hid (prodF_eq n x)
  have HL := Lib.hid (len_pos (n.natAbs * mant (rung x)) hp0 hp1)
  rw [← Int.natCast_mul]
  generalize n.natAbs * mant (rung x) = p at *
  have hl := lenOf_le (p / 18446744073709551616) (p % 18446744073709551616) hp1 (by omega)
  have hpe : p / 18446744073709551616 * 18446744073709551616 + p % 18446744073709551616 = p := by omega
  have hlo : p % 18446744073709551616 < 18446744073709551616 := by omega
  rw [show (p : Int) / 18446744073709551616 = ((p / 18446744073709551616 : Nat) : Int) by omega, show (p : Int) % 18446744073709551616 = ((p % 18446744073709551616 : Nat) : Int) by omega]
  have HP := Lib.hid hp0
  clear hp0
  generalize p / 18446744073709551616 = H at *
  generalize p % 18446744073709551616 = L at *
  have HPE := Lib.hid hpe
  clear hpe
  refine (length_any _ _ (by omega) (by omega) (by omega) (by omega) _).mono ?_
  rintro e w2 ⟨rfl, rfl⟩
  rw [Int.toNat_natCast, Int.toNat_natCast]
  go_wp2_with fail
  · go_ret2
    rename_i hfar
    refine ⟨?_, by go_grown⟩
    rw [timesR_num hn hi]
    exact fitV_no (HF.out hfar)
  · have hnear : (lenOf H L : Int) + ((up (rung x) : Int) - 1074) ≤ 64 := by assumption
    have hw := HW.out hnear
    have hL := HL.out
    have S := shift_any H L ((up (rung x) : Int) - 1074) (by omega) (by omega) (by omega) (by omega) (by rw [HPE.out]; exact HP.out) (by rw [HPE.out]; exact hw)
    rw [HPE.out] at S
    have SH := Lib.hid S
    clear S
    refine (SH.out _).mono ?_
    rintro e w3 ⟨rfl, hg⟩
    go_wp2_with fail
    refine (floored_any _ _ _ (by omega) (by omega) _).mono ?_
    rintro e w4 ⟨rfl, rfl⟩
    have hb := nan_dec x hx
    rw [hn] at hb
    have hb := of_decide_eq_false hb.symm
    rw [Int.toNat_natCast, ← HE.out _ (below_iff n x hb hz)]
    clear hb
    obtain ⟨v, c, hvc⟩ : ∃ v c : Int, fitV (prodF n x) = .tuple #[.int .i64 v, .int .i64 c] := ⟨_, _, rfl⟩
    rw [hvc]
    have HV := Lib.hid hvc
    clear hvc
    go_wp2_with fail
    go_ret2
    refine ⟨?_, ?_⟩
    · rw [timesR_num hn hi, HV.out]; rfl
    · refine grown_trans ?_ hg
      go_grown

set_option maxRecDepth 100000 in
theorem times_any (n : Int) (x : Nat) (hx : x < 18446744073709551616) (n0 : -9223372036854775808 ≤ n) (n1 : n < 9223372036854775808) (w : World) :
    Calls Tryz.prog 72 #[.int .i64 n, .float .f64 x] w fun e w' => e = .returned (timesR n x) ∧ Kp w w' := by
  by_cases hn : nan x = true
  · exact times_nan n x hx hn w
  have hn : nan x = false := by simpa using hn
  by_cases hi : inf x = true
  · by_cases h0 : n = 0
    · subst h0
      have H := Lib.hid (timesR_inf0 (n := 0) hi rfl)
      go_enter Tryz.func72, Tryz.ntmps72
      go_wp2_with (first | (go_at_call 88; refine (isnan_any x hx _).mono ?_; rintro e w1 ⟨rfl, rfl⟩) | (go_at_call 87; refine (isinf_any x hx _).mono ?_; rintro e w1 ⟨rfl, rfl⟩))
      go_ret2
      exact ⟨by rw [H.out]; rfl, Below.refl _ _⟩
    · have h0 : (n == 0) = false := by simpa using h0
      have H := Lib.hid (timesR_inf hn hi h0)
      go_enter Tryz.func72, Tryz.ntmps72
      go_wp2_with (first | (go_at_call 88; refine (isnan_any x hx _).mono ?_; rintro e w1 ⟨rfl, rfl⟩) | (go_at_call 87; refine (isinf_any x hx _).mono ?_; rintro e w1 ⟨rfl, rfl⟩))
      go_ret2
      exact ⟨by rw [H.out]; rfl, Below.refl _ _⟩
  · have hi : inf x = false := by simpa using hi
    by_cases h0 : n = 0
    · subst h0
      have H : Hid (timesR 0 x = .tuple #[.int .i64 0, .int .i64 0]) := Lib.hid (by rw [timesR_num hn hi, prodF_zero 0 x (Or.inl rfl)]; rfl)
      go_enter Tryz.func72, Tryz.ntmps72
      go_wp2_with (first | (go_at_call 88; refine (isnan_any x hx _).mono ?_; rintro e w1 ⟨rfl, rfl⟩) | (go_at_call 87; refine (isinf_any x hx _).mono ?_; rintro e w1 ⟨rfl, rfl⟩))
      go_ret2
      exact ⟨by rw [H.out]; rfl, Below.refl _ _⟩
    · have h0' : (n == 0) = false := by simpa using h0
      by_cases hz : x = 0 ∨ x = 9223372036854775808
      · have H : Hid (timesR n x = .tuple #[.int .i64 0, .int .i64 0]) := Lib.hid (by rw [timesR_num hn hi, prodF_zero n x (Or.inr hz)]; rfl)
        clear h0
        go_enter Tryz.func72, Tryz.ntmps72
        go_wp2_with (first | (go_at_call 88; refine (isnan_any x hx _).mono ?_; rintro e w1 ⟨rfl, rfl⟩) | (go_at_call 87; refine (isinf_any x hx _).mono ?_; rintro e w1 ⟨rfl, rfl⟩))
        go_ret2
        exact ⟨by rw [H.out]; rfl, Below.refl _ _⟩
      · exact times_num n x hx hn hi h0' hz n0 n1 w

end Go.Proofs.YtckhddndeojobaaGreat
