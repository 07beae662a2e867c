/- A half, a quarter and so on of a number is that number shifted, with the sign turned too: NumHalves answers true at every int64 and uint8. No condition. -/
import Derived.Test.YtjicdbkpklikfaaNumA
namespace Go.Proofs.Ytjicdbkpklikfaa.numHalves
open Go.ChangeShapes Go.WideShapes Go.ChangeAt Go.RowKit Go.Fl
set_option linter.unusedVariables false

theorem and63 (a : Int) (h0 : 0 ≤ a) (h1 : a < 256) : bits .and .u8 a 63 = a % 64 := by
  rw [u8_and a 63 h0 h1 (by decide) (by decide), show (63 : Int).toNat = 63 from rfl, nat_mask6]; omega
def halfB (b : Nat) : Nat := (1023 - b) * 4503599627370496
theorem halfB_facts (b : Nat) (h : b < 64) : halfB b < 9223372036854775808 ∧ nan (halfB b) = false ∧ inf (halfB b) = false ∧ nan (halfB b + 9223372036854775808) = false ∧ inf (halfB b + 9223372036854775808) = false ∧
    Op.negFloat .f64 (halfB b) = halfB b + 9223372036854775808 := by
  have l : halfB b < 9218868437227405312 := by unfold halfB; omega
  refine ⟨by omega, ?_, ?_, ?_, ?_, ?_⟩
  · rw [nan_dec _ (by omega), decide_eq_false_iff_not]; omega
  · unfold inf; rw [decide_eq_false_iff_not]; omega
  · rw [nan_dec _ (by omega), decide_eq_false_iff_not]; omega
  · unfold inf; rw [decide_eq_false_iff_not]; omega
  · rw [neg_eq _ (by omega), if_pos (by omega)]
@[irreducible] def halfN (b : Nat) : Nat := halfB b + 9223372036854775808
theorem halfN_eq (b : Nat) : halfN b = halfB b + 9223372036854775808 := by unfold halfN; rfl
theorem halfN_lt (b : Nat) (h : halfB b < 9223372036854775808) : halfN b < 18446744073709551616 := by rw [halfN_eq]; omega
theorem half_size (b : Nat) (h : b < 64) : size (halfB b) * 2 ^ b = unit := by
  have e := size_pow (1023 - b) (by omega)
  have k : halfB b = (1023 - b) * 2 ^ 52 := rfl
  rw [k, e, ← Nat.pow_add, unit_eq, ex_eq]; congr 1; omega
theorem half_div (n : Int) (b : Nat) (h : b < 64) : n * (size (halfB b) : Int) / unit = n / 2 ^ b := by
  have k := half_size b h
  have p := Nat.two_pow_pos b
  have s : 0 < size (halfB b) := by
    rcases Nat.eq_zero_or_pos (size (halfB b)) with z | z
    · rw [z, Nat.zero_mul] at k; have := unit_pos; omega
    · exact z
  rw [← k, pow_cast, Int.natCast_mul, Int.mul_comm n, Int.mul_ediv_mul_of_pos _ _ (by omega)]
theorem prod_half (n : Int) (b : Nat) (h : b < 64) : prodF n (halfB b) = n / 2 ^ b ∧ prodF n (halfB b + 9223372036854775808) = (-n) / 2 ^ b := by
  have f := (halfB_facts b h).1
  unfold prodF
  constructor
  · rw [sz_val, if_neg (by omega), rung_lt f, Int.one_mul]; exact half_div n b h
  · rw [sz_val, if_pos (by omega), rung_ge (by omega) (by omega), Nat.add_sub_cancel, ← half_div (-n) b h]
    congr 1; rw [Int.neg_mul, Int.neg_mul, Int.one_mul, Int.mul_neg]

theorem div_bounds (a M : Int) (p : Nat) (hp : 0 < p) (hM : 0 ≤ M) (h : -M ≤ a) (h2 : a < M) : -M ≤ a / p ∧ a / p < M := by
  have hp' : (1 : Int) ≤ (p : Int) := by omega
  have k : M * 1 ≤ M * p := Int.mul_le_mul_of_nonneg_left hp' hM
  constructor
  · rw [Int.le_ediv_iff_mul_le (by omega), Int.neg_mul]; omega
  · rw [Int.ediv_lt_iff_lt_mul (by omega)]; omega
theorem times_yes (n : Int) (x : Nat) (q : Int) (h : nan x = false) (h1 : inf x = false) (e : prodF n x = q) (f : -9223372036854775808 ≤ q ∧ q < 9223372036854775808) :
    timesR n x = .tuple #[.int .i64 q, .int .i64 0] := by
  rw [timesR_num h h1, e]; unfold fitV fits; rw [if_pos (by simpa using f), if_pos (by simpa using f)]
theorem times_no (n : Int) (x : Nat) (q : Int) (h : nan x = false) (h1 : inf x = false) (e : prodF n x = q) (f : ¬ (-9223372036854775808 ≤ q ∧ q < 9223372036854775808)) :
    timesR n x = .tuple #[.int .i64 0, .int .i64 11] := by
  rw [timesR_num h h1, e]; unfold fitV fits; rw [if_neg (by simpa using f), if_neg (by simpa using f)]
theorem min_div (b : Nat) (h : b < 64) (h0 : b ≠ 0) : (9223372036854775808 : Int) / 2 ^ b = -((-9223372036854775808) / 2 ^ b) ∧ (9223372036854775808 : Int) / 2 ^ b < 9223372036854775808 ∧ 0 ≤ (9223372036854775808 : Int) / 2 ^ b := by
  have p : (2 : Nat) ^ 63 = 2 ^ (63 - b) * 2 ^ b := by rw [← Nat.pow_add]; congr 1; omega
  have q := Nat.two_pow_pos b
  have e : (9223372036854775808 : Int) = ((2 ^ (63 - b) : Nat) : Int) * ((2 ^ b : Nat) : Int) := by rw [← Int.natCast_mul, ← p]; rfl
  have l : 2 ^ (63 - b) ≤ 2 ^ 62 := Nat.pow_le_pow_right (by omega) (by omega)
  rw [pow_cast, e, Int.mul_ediv_cancel _ (by omega), ← Int.neg_mul, Int.mul_ediv_cancel _ (by omega)]
  generalize 2 ^ (63 - b) = A at *
  omega

theorem walk (a0 a1 : Int) (w0 : (Lit.int .i64 a0).wf = true) (w1 : (Lit.int .u8 a1).wf = true) (w : World) :
    Calls Try.prog 12 #[.int .i64 a0, .int .u8 a1] w fun e w' => e = .returned (.bool true) ∧ Kp w w' := by
  have h0 := i64_lt w0
  have h1 := u8_lt w1
  clear w0 w1
  have ha := and63 a1 h1.1 h1.2
  have hb0 : 0 ≤ a1 % 64 := by omega
  have hb1 : a1 % 64 < 64 := by omega
  generalize a1 % 64 = b at *
  have hb : b.toNat < 64 := by omega
  have HB : Hid (((1023 - b) * 4503599627370496).toNat = halfB b.toNat) := Lib.hid (by unfold halfB; omega)
  have F := halfB_facts b.toNat hb
  have P := prod_half a0 b.toNat hb
  have D := div_bounds a0 9223372036854775808 (2 ^ b.toNat) (Nat.two_pow_pos _) (by decide) h0.1 h0.2
  rw [← pow_cast] at D
  have T1 := Lib.hid (times_yes a0 (halfB b.toNat) _ F.2.1 F.2.2.1 P.1 D)
  have NEG : Hid (Op.negFloat .f64 (halfB b.toNat) = halfN b.toNat) := Lib.hid (by rw [halfN_eq]; exact F.2.2.2.2.2)
  have LN := Lib.hid (halfN_lt _ F.1)
  have LT := Lib.hid F.1
  by_cases hm : a0 = -9223372036854775808
  · have HBE : Hid ((a0 == -9223372036854775808) = true) := Lib.hid (by simpa using hm)
    have hle : a0 ≤ -9223372036854775808 := by omega
    by_cases z : b = 0
    · have P2 : prodF a0 (halfB b.toNat + 9223372036854775808) = -a0 := by rw [P.2, z, show (0 : Int).toNat = 0 from rfl, Int.pow_zero, Int.ediv_one]
      have T2 := times_no a0 (halfB b.toNat + 9223372036854775808) _ F.2.2.2.1 F.2.2.2.2.1 P2 (by omega)
      rw [← halfN_eq] at T2
      replace T2 := Lib.hid T2
      have hbz : b ≤ 0 := by omega
      clear F P D hm P2 z hb
      go_enter Try.func12, Try.ntmps12
      go_wp2_with fail
      refine (times_any a0 _ (by have := LT.out; have := HB.out; omega) h0.1 h0.2 _).mono ?_
      rintro e w2 ⟨rfl, hg2⟩
      rw [HB.out, T1.out]
      go_wp2_with fail
      rw [NEG.out]
      refine (times_any a0 (halfN b.toNat) LN.out h0.1 h0.2 _).mono ?_
      rintro e w3 ⟨rfl, hg3⟩
      rw [T2.out]
      go_wp2_with fail
      refine (awake_any _).mono ?_
      rintro e w4 ⟨rfl, hg4⟩
      have HG := Lib.hid (grown_trans hg2 (grown_trans hg3 hg4))
      go_wp2_with (simp only [HBE.out])
      all_goals first
        | (go_ret; exact ⟨by first | rfl | simp, HG.out⟩)
        | (exfalso; simp only [beq_iff_eq, beq_eq_false_iff_ne, bne_iff_ne, bne_eq_false_iff_eq, ne_eq] at *; omega)
    · have M := min_div b.toNat hb (by omega)
      have P2 : prodF a0 (halfB b.toNat + 9223372036854775808) = -(a0 / 2 ^ b.toNat) := by rw [P.2, hm, ← M.1]; congr 1
      have B1 : -9223372036854775808 ≤ -(a0 / 2 ^ b.toNat) ∧ -(a0 / 2 ^ b.toNat) < 9223372036854775808 := by rw [hm, ← M.1]; omega
      have T2 := times_yes a0 (halfB b.toNat + 9223372036854775808) _ F.2.2.2.1 F.2.2.2.2.1 P2 B1
      rw [← halfN_eq] at T2
      replace T2 := Lib.hid T2
      have B2 := B1.1
      have B3 := B1.2
      have hbz : 0 < b := by omega
      clear F P hm M P2 B1 z hb
      go_enter Try.func12, Try.ntmps12
      go_wp2_with fail
      refine (times_any a0 _ (by have := LT.out; have := HB.out; omega) h0.1 h0.2 _).mono ?_
      rintro e w2 ⟨rfl, hg2⟩
      rw [HB.out, T1.out]
      go_wp2_with fail
      rw [NEG.out]
      refine (times_any a0 (halfN b.toNat) LN.out h0.1 h0.2 _).mono ?_
      rintro e w3 ⟨rfl, hg3⟩
      rw [T2.out]
      go_wp2_with fail
      refine (awake_any _).mono ?_
      rintro e w4 ⟨rfl, hg4⟩
      have HG := Lib.hid (grown_trans hg2 (grown_trans hg3 hg4))
      go_wp2_with (simp only [HBE.out])
      all_goals first
        | (go_ret; exact ⟨by first | rfl | simp, HG.out⟩)
        | (exfalso; simp only [beq_iff_eq, beq_eq_false_iff_ne, bne_iff_ne, bne_eq_false_iff_eq, ne_eq] at *; omega)
  · have HBE : Hid ((a0 == -9223372036854775808) = false) := Lib.hid (by simpa using hm)
    have hmi : -9223372036854775808 < a0 := by omega
    have DN := div_bounds (-a0) 9223372036854775808 (2 ^ b.toNat) (Nat.two_pow_pos _) (by decide) (by omega) (by omega)
    rw [← pow_cast] at DN
    have T2 := times_yes a0 (halfB b.toNat + 9223372036854775808) _ F.2.2.2.1 F.2.2.2.2.1 P.2 DN
    rw [← halfN_eq] at T2
    replace T2 := Lib.hid T2
    clear F P D hm hb
    go_enter Try.func12, Try.ntmps12
    go_wp2_with fail
    refine (times_any a0 _ (by have := LT.out; have := HB.out; omega) h0.1 h0.2 _).mono ?_
    rintro e w2 ⟨rfl, hg2⟩
    rw [HB.out, T1.out]
    go_wp2_with fail
    rw [NEG.out]
    refine (times_any a0 (halfN b.toNat) LN.out h0.1 h0.2 _).mono ?_
    rintro e w3 ⟨rfl, hg3⟩
    rw [T2.out]
    go_wp2_with fail
    refine (awake_any _).mono ?_
    rintro e w4 ⟨rfl, hg4⟩
    have HG := Lib.hid (grown_trans hg2 (grown_trans hg3 hg4))
    go_wp2_with (simp only [HBE.out])
    all_goals first
      | (go_ret; exact ⟨by first | rfl | simp, HG.out⟩)
      | (exfalso; simp only [beq_iff_eq, beq_eq_false_iff_ne, bne_iff_ne, bne_eq_false_iff_eq, ne_eq] at *; omega)
theorem own : ownKnob Try.prog.godebug = none := by kernel_rfl
set_option maxRecDepth 100000 in
theorem lifted (os : Os) (started : os.Started) (H : Type) (enc : TypeId × Value → H) :
    ReturnsInHanded {} Try.checked os 12 .any (Rows.numHalvesSpec.pre6 enc Try.prog Try.f12 Rows.numHalvesRow.domain false) (Rows.numHalvesSpec.post enc Try.prog Try.f12 false true false false) := by
  refine returnsInHanded_of_change (C := Try.checked) own started (by kernel_rfl) Try.func12
    (ChangeSpec.witness6 (enc := enc) (C := Try.checked) false ⟨#[], #[.int .i64 0, .int .u8 0], []⟩ 8 (by kernel_rfl) (by kernel_rfl) (by kernel_rfl) (by kernel_rfl)) ?_
  intro W base args ds gs before hval0 hW hcnd _
  have hval : ∀ (j : Nat) t v, Try.f12.params[j]? = some t → args[j]? = some v → Value.okWide Try.prog W .any base t v := hval0
  have hW' := hW
  obtain ⟨p, q, hA0, hV, rfl, hfz, hnd⟩ := hW
  have hA : DataW.TrodAll enc Try.prog W 0 (fun _ => true) true Try.f12.params.toList args.toList ds p := hA0
  rw [Try.params12] at hA hval
  obtain ⟨v0, vs0, d0, ds0, p0, q0, hargs, rfl, rfl, h0, r0⟩ := trodAll_cons hA
  obtain ⟨v1, vs1, d1, ds1, p1, q1, rfl, rfl, rfl, h1, r1⟩ := trodAll_cons r0
  obtain ⟨rfl, rfl, rfl⟩ := trodAll_nil r1
  obtain rfl : args = #[v0, v1] := by cases args; simp_all
  obtain ⟨rfl, rfl⟩ := trodVars_none hV
  obtain ⟨a0, rfl, rfl, rfl, w0⟩ := open_int Try.underlying2 (hval 0 2 v0 rfl rfl) h0
  obtain ⟨a1, rfl, rfl, rfl, w1⟩ := open_int Try.underlying5 (hval 1 5 v1 rfl rfl) h1
  clear hA0 hval0
  simp only [List.append_nil] at hW'
  refine (walk a0 a1 w0 w1 W).mono fun e W' ⟨he, hg⟩ => ?_
  subst he
  exact ⟨_, rfl, _, _, _, [], _, [], hW', trodAll_mk1 (shut_bool Try.underlying4 _), (trodAll_cons_mk (shut_int Try.underlying2 w0) (trodAll_cons_mk (shut_int Try.underlying5 w1) trodAll_mk0)), rfl, hg.frame _, fun h => by cases h⟩

theorem proved : Rows.NumHalvesSaid :=
  OpenClaim.holds_of_wide 12 Try.f12 rfl rfl rfl rfl rfl rfl rfl ⟨rfl, rfl, rfl, rfl, rfl⟩ rfl rfl rfl rfl rfl (by kernel_rfl) Try.func12 (by kernel_rfl)
    (of_decide_eq_true (by kernel_rfl)) (by unfold Func.isWrapper; first | (rw [if_pos (by decide +kernel)]; kernel_rfl) | (rw [if_neg (by decide +kernel)]; exact ⟨rfl, rfl⟩))
    (fun os started H enc _ => lifted os started H enc)
#print axioms proved
end Go.Proofs.Ytjicdbkpklikfaa.numHalves
