/- The contracts of num.Floor and num.Ceil. -/
import Derived.Test.YtjicdbkpklikfaaNumS
import Derived.Test.YtjicdbkpklikfaaWholeM
namespace Go.Proofs.Ytjicdbkpklikfaa
open Go.RowKit Go.Fl
theorem run_integral (name : String) (way : Ieee.Toward) (x : Nat) (hn : nan x = false) (w : World) :
    (Extern.MathFloor.toIntegral name way #[.float .f64 x]).run Try.prog w = .ok (.float .f64 (floorB way x)) w := by
  have hd : FloatKind.f64.decode x = Ieee.double.read x := rfl
  unfold Extern.MathFloor.toIntegral floorB
  conv => lhs; arg 2; whnf
  by_cases h : rung x = top
  · rw [hd, read_inf x h]; rfl
  · have h' : rung x ≤ top := by simpa [nan] using hn
    rw [hd, read_num x (by omega)]; rfl
theorem quiet_nan (s : Bool) (t : Nat) : FloatKind.f64.encode (.nan s (FloatKind.f64.format.quiet t)) < 18446744073709551616 ∧
    nan (FloatKind.f64.encode (.nan s (FloatKind.f64.format.quiet t))) = true := by
  have ht := top_eq
  show Ieee.double.word s (Ieee.double.infRung + (t ||| 2 ^ 51) % 2 ^ 52) < _ ∧ nan (Ieee.double.word s (Ieee.double.infRung + (t ||| 2 ^ 51) % 2 ^ 52)) = true
  have k : 0 < (t ||| 2 ^ 51) % 2 ^ 52 := by
    rcases Nat.eq_zero_or_pos ((t ||| 2 ^ 51) % 2 ^ 52) with z | z
    · exfalso
      have b : ((t ||| 2 ^ 51) % 2 ^ 52).testBit 51 = true := by
        rw [Nat.testBit_mod_two_pow, Nat.testBit_or, Nat.testBit_two_pow_self]; simp
      rw [z] at b; simp at b
    · exact z
  have l : (t ||| 2 ^ 51) % 2 ^ 52 < 2 ^ 52 := Nat.mod_lt _ (by decide)
  generalize (t ||| 2 ^ 51) % 2 ^ 52 = t at *
  unfold Ieee.Format.word
  rw [weight, infRung]
  cases s
  · simp only [Bool.false_eq_true, if_false]
    exact ⟨by omega, by rw [nan_dec _ (by omega), decide_eq_true_eq]; omega⟩
  · simp only [if_true]
    exact ⟨by omega, by rw [nan_dec _ (by omega), decide_eq_true_eq]; omega⟩
theorem gen (P : Ieee.Datum → Prop) (x : Nat) (h : ∀ d, FloatKind.f64.decode x = d → P d) : P (FloatKind.f64.decode x) := h _ rfl
theorem run_integral_nan (name : String) (way : Ieee.Toward) (x : Nat) (hx : x < 18446744073709551616) (hn : nan x = true) (w : World) :
    ∃ y w', (Extern.MathFloor.toIntegral name way #[.float .f64 x]).run Try.prog w = .ok (.float .f64 y) w' ∧ y < 18446744073709551616 ∧ nan y = true ∧ Kp w w' := by
  obtain ⟨t, hd⟩ : ∃ t, FloatKind.f64.decode x = .nan (sgn x) t := ⟨_, read_nan x hn⟩
  have hq := quiet_nan (sgn x) t
  refine gen (fun d => d = .nan (sgn x) t → ∃ y w', Sem.run Try.prog (Extern.MathFloor.toIntegral.match_1 (fun _ => Sem Value) d _ _) w = .ok (Value.float FloatKind.f64 y) w' ∧ y < 18446744073709551616 ∧ nan y = true ∧ Kp w w') x (fun d _ => ?_) hd
  clear hd
  intro hd
  subst hd
  by_cases h : FloatKind.f64.format.quiet t = t
  · refine ⟨x, w, ?_, hx, hn, Below.refl _ _⟩
    simp only [h, if_true]; rfl
  · simp only [h, if_false]
    generalize FloatKind.f64.encode (.nan (sgn x) (FloatKind.f64.format.quiet t)) = q at *
    rw [Sem.run_bind, run_choose_drew]
    split
    · exact ⟨q, w, rfl, hq.1, hq.2, Below.refl _ _⟩
    · simp only [Result.andThen_ok]
      split
      · exact ⟨x, w.drew, rfl, hx, hn, (Below.refl _ _).drew⟩
      · exact ⟨q, w.drew, rfl, hq.1, hq.2, (Below.refl _ _).drew⟩

/-! ### math.Floor and math.Ceil, num.toInt, num.Floor, num.Ceil -/
theorem ext_floor {x y : Nat} {w w' : World} (h : (Extern.MathFloor.toIntegral "math.archFloor" .down #[.float .f64 x]).run Try.prog w = .ok (.float .f64 y) w') :
    (callFunc 54 #[.float .f64 x]).run Try.prog w = .ok (.value (.float .f64 y)) w' :=
  (run_callFunc_extern (e := Extern.MathFloor.toIntegral "math.archFloor" .down) Try.func54 (by kernel_rfl) (by kernel_rfl) (by kernel_rfl) (by kernel_rfl) _ w).trans (by rw [h]; rfl)
theorem ext_ceil {x y : Nat} {w w' : World} (h : (Extern.MathFloor.toIntegral "math.archCeil" .up #[.float .f64 x]).run Try.prog w = .ok (.float .f64 y) w') :
    (callFunc 56 #[.float .f64 x]).run Try.prog w = .ok (.value (.float .f64 y)) w' :=
  (run_callFunc_extern (e := Extern.MathFloor.toIntegral "math.archCeil" .up) Try.func56 (by kernel_rfl) (by kernel_rfl) (by kernel_rfl) (by kernel_rfl) _ w).trans (by rw [h]; rfl)

theorem mfloor_any (x : Nat) (hn : nan x = false) (w : World) : Calls Try.prog 39 #[.float .f64 x] w fun e w' => e = .returned (.float .f64 (floorB .down x)) ∧ w' = w := by
  have h := ext_floor (run_integral "math.archFloor" .down x hn w)
  go_enter Try.func39, Try.ntmps39
  go_wp2
  go_ret
  exact ⟨rfl, rfl⟩
theorem mceil_any (x : Nat) (hn : nan x = false) (w : World) : Calls Try.prog 40 #[.float .f64 x] w fun e w' => e = .returned (.float .f64 (floorB .up x)) ∧ w' = w := by
  have h := ext_ceil (run_integral "math.archCeil" .up x hn w)
  go_enter Try.func40, Try.ntmps40
  go_wp2
  go_ret
  exact ⟨rfl, rfl⟩
def NanFrom (w : World) (e : Ending) (w' : World) : Prop := ∃ y, e = .returned (.float .f64 y) ∧ y < 18446744073709551616 ∧ nan y = true ∧ Kp w w'
theorem mfloor_nan (x : Nat) (hx : x < 18446744073709551616) (hn : nan x = true) (w : World) : Calls Try.prog 39 #[.float .f64 x] w (NanFrom w) := by
  obtain ⟨y, w1, h, hy, hyn, hg⟩ := run_integral_nan "math.archFloor" .down x hx hn w
  have h := ext_floor h
  go_enter Try.func39, Try.ntmps39
  go_wp2
  go_ret
  exact ⟨y, rfl, hy, hyn, hg⟩
theorem mceil_nan (x : Nat) (hx : x < 18446744073709551616) (hn : nan x = true) (w : World) : Calls Try.prog 40 #[.float .f64 x] w (NanFrom w) := by
  obtain ⟨y, w1, h, hy, hyn, hg⟩ := run_integral_nan "math.archCeil" .up x hx hn w
  have h := ext_ceil h
  go_enter Try.func40, Try.ntmps40
  go_wp2
  go_ret
  exact ⟨y, rfl, hy, hyn, hg⟩

theorem toint_nan (y : Nat) (hy : y < 18446744073709551616) (hn : nan y = true) (w : World) :
    Calls Try.prog 38 #[.float .f64 y] w fun e w' => e = .returned (.tuple #[.int .i64 0, .int .i64 10]) ∧ w' = w := by
  go_enter Try.func38, Try.ntmps38
  go_wp2_with (go_at_call 33; refine (isnan_any y hy _).mono ?_; rintro e w1 ⟨rfl, rfl⟩)
  go_ret2
  exact ⟨rfl, rfl⟩

theorem toint_is (y : Nat) (F : Int) (h : Is y F) (w : World) :
    Calls Try.prog 38 #[.float .f64 y] w fun e w' => e = .returned (fitV F) ∧ w' = w := by
  have t1 := below_dec y F h
  have t2 := above_dec y F h
  have hy := h.lt
  have hn := h.num
  by_cases f : -9223372036854775808 ≤ F ∧ F < 9223372036854775808
  · have hc : ∀ w, (convert 22 2 (.float .f64 y)).run Try.prog w = .ok (.int .i64 F) w := fun w =>
      run_convert_float_int w 22 2 .f64 .i64 y F (by rw [Try.underlying22]; rfl) Try.underlying2 (by
        unfold floatToIntVal; rw [toInt_is y F h]
        show (if (-9223372036854775808 : Int) ≤ F ∧ F ≤ 9223372036854775807 then some F else none) = some F
        rw [if_pos (by omega)])
    have f1 : ¬ F < -9223372036854775808 := by omega
    have f2 : ¬ 9223372036854775808 ≤ F := by omega
    go_enter Try.func38, Try.ntmps38
    go_wp2_with (go_at_call 33; refine (isnan_any y hy _).mono ?_; rintro e w1 ⟨rfl, rfl⟩)
    go_ret2
    exact ⟨fitV_yes f rfl, rfl⟩
  · by_cases f1 : F < -9223372036854775808
    · go_enter Try.func38, Try.ntmps38
      go_wp2_with (go_at_call 33; refine (isnan_any y hy _).mono ?_; rintro e w1 ⟨rfl, rfl⟩)
      go_ret2
      exact ⟨fitV_no (by omega), rfl⟩
    · have f2 : 9223372036854775808 ≤ F := by omega
      go_enter Try.func38, Try.ntmps38
      go_wp2_with (go_at_call 33; refine (isnan_any y hy _).mono ?_; rintro e w1 ⟨rfl, rfl⟩)
      go_ret2
      exact ⟨fitV_no (by omega), rfl⟩

theorem toint_inf (y : Nat) (h : inf y = true) (w : World) :
    Calls Try.prog 38 #[.float .f64 y] w fun e w' => e = .returned (.tuple #[.int .i64 0, .int .i64 11]) ∧ w' = w := by
  have hy : y = 9218868437227405312 ∨ y = 18442240474082181120 := by unfold inf at h; simpa using h
  rcases hy with rfl | rfl
  · have t1 : (FloatKind.f64.format.order 9218868437227405312 14114281232179134464 == some .lt) = false := by decide +kernel
    have t2 : (FloatKind.f64.format.order 9218868437227405312 4890909195324358656 == some .gt || FloatKind.f64.format.order 9218868437227405312 4890909195324358656 == some .eq) = true := by decide +kernel
    have hn : nan 9218868437227405312 = false := by decide
    go_enter Try.func38, Try.ntmps38
    go_wp2_with (go_at_call 33; refine (isnan_any _ (by decide) _).mono ?_; rintro e w1 ⟨rfl, rfl⟩)
    go_ret2
    exact ⟨rfl, rfl⟩
  · have t1 : (FloatKind.f64.format.order 18442240474082181120 14114281232179134464 == some .lt) = true := by decide +kernel
    have hn : nan 18442240474082181120 = false := by decide
    go_enter Try.func38, Try.ntmps38
    go_wp2_with (go_at_call 33; refine (isnan_any _ (by decide) _).mono ?_; rintro e w1 ⟨rfl, rfl⟩)
    go_ret2
    exact ⟨rfl, rfl⟩

def wholeR (F : Int) (x : Nat) : Value := if nan x then .tuple #[.int .i64 0, .int .i64 10] else if inf x then .tuple #[.int .i64 0, .int .i64 11] else fitV F
theorem wholeR_shape (F : Int) (x : Nat) : ∃ v c : Int, wholeR F x = .tuple #[.int .i64 v, .int .i64 c] := by
  unfold wholeR fitV; split
  · exact ⟨_, _, rfl⟩
  · split <;> exact ⟨_, _, rfl⟩
theorem wholeR_nan {F : Int} {x : Nat} (h : nan x = true) : wholeR F x = .tuple #[.int .i64 0, .int .i64 10] := by unfold wholeR; rw [h]; rfl
theorem wholeR_inf {F : Int} {x : Nat} (h : nan x = false) (h1 : inf x = true) : wholeR F x = .tuple #[.int .i64 0, .int .i64 11] := by unfold wholeR; rw [h, h1]; rfl
theorem wholeR_num {F : Int} {x : Nat} (h : nan x = false) (h1 : inf x = false) : wholeR F x = fitV F := by unfold wholeR; rw [h, h1]; rfl

theorem floor_any (x : Nat) (hx : x < 18446744073709551616) (w : World) :
    Calls Try.prog 23 #[.float .f64 x] w fun e w' => e = .returned (wholeR (prodF 1 x) x) ∧ Kp w w' := by
  by_cases hn : nan x = true
  · have H := Lib.hid (wholeR_nan (F := prodF 1 x) hn)
    go_enter Try.func23, Try.ntmps23
    go_wp2_with fail
    refine (mfloor_nan x hx hn _).mono ?_
    rintro e w1 ⟨y, rfl, hy, hyn, hg⟩
    go_wp2_with fail
    refine (toint_nan y hy hyn _).mono ?_
    rintro e w2 ⟨rfl, rfl⟩
    go_wp2_with fail
    go_ret2
    exact ⟨by rw [H.out]; rfl, hg⟩
  have hn : nan x = false := by simpa using hn
  by_cases hi : inf x = true
  · have H := Lib.hid (wholeR_inf (F := prodF 1 x) hn hi)
    have HB := Lib.hid (floor_inf .down x hx hi)
    go_enter Try.func23, Try.ntmps23
    go_wp2_with fail
    refine (mfloor_any x hn _).mono ?_
    rintro e w1 ⟨rfl, rfl⟩
    rw [HB.out]
    go_wp2_with fail
    refine (toint_inf x hi _).mono ?_
    rintro e w2 ⟨rfl, rfl⟩
    go_wp2_with fail
    go_ret2
    exact ⟨by rw [H.out]; rfl, Below.refl _ _⟩
  · have hi : inf x = false := by simpa using hi
    have H := Lib.hid (wholeR_num (F := prodF 1 x) hn hi)
    have HI := Lib.hid (floor_is x hx hn hi)
    go_enter Try.func23, Try.ntmps23
    go_wp2_with fail
    refine (mfloor_any x hn _).mono ?_
    rintro e w1 ⟨rfl, rfl⟩
    go_wp2_with fail
    refine (toint_is _ _ HI.out _).mono ?_
    rintro e w2 ⟨rfl, rfl⟩
    obtain ⟨v, c, hvc⟩ : ∃ v c : Int, fitV (prodF 1 x) = .tuple #[.int .i64 v, .int .i64 c] := ⟨_, _, rfl⟩
    rw [hvc]
    have HV := Lib.hid hvc
    clear hvc
    go_wp2_with fail
    go_ret2
    exact ⟨by rw [H.out, HV.out]; rfl, Below.refl _ _⟩

theorem ceil_any (x : Nat) (hx : x < 18446744073709551616) (w : World) :
    Calls Try.prog 25 #[.float .f64 x] w fun e w' => e = .returned (wholeR (ceilP x) x) ∧ Kp w w' := by
  by_cases hn : nan x = true
  · have H := Lib.hid (wholeR_nan (F := ceilP x) hn)
    go_enter Try.func25, Try.ntmps25
    go_wp2_with fail
    refine (mceil_nan x hx hn _).mono ?_
    rintro e w1 ⟨y, rfl, hy, hyn, hg⟩
    go_wp2_with fail
    refine (toint_nan y hy hyn _).mono ?_
    rintro e w2 ⟨rfl, rfl⟩
    go_wp2_with fail
    go_ret2
    exact ⟨by rw [H.out]; rfl, hg⟩
  have hn : nan x = false := by simpa using hn
  by_cases hi : inf x = true
  · have H := Lib.hid (wholeR_inf (F := ceilP x) hn hi)
    have HB := Lib.hid (floor_inf .up x hx hi)
    go_enter Try.func25, Try.ntmps25
    go_wp2_with fail
    refine (mceil_any x hn _).mono ?_
    rintro e w1 ⟨rfl, rfl⟩
    rw [HB.out]
    go_wp2_with fail
    refine (toint_inf x hi _).mono ?_
    rintro e w2 ⟨rfl, rfl⟩
    go_wp2_with fail
    go_ret2
    exact ⟨by rw [H.out]; rfl, Below.refl _ _⟩
  · have hi : inf x = false := by simpa using hi
    have H := Lib.hid (wholeR_num (F := ceilP x) hn hi)
    have HI := Lib.hid (ceil_is x hx hn hi)
    go_enter Try.func25, Try.ntmps25
    go_wp2_with fail
    refine (mceil_any x hn _).mono ?_
    rintro e w1 ⟨rfl, rfl⟩
    go_wp2_with fail
    refine (toint_is _ _ HI.out _).mono ?_
    rintro e w2 ⟨rfl, rfl⟩
    obtain ⟨v, c, hvc⟩ : ∃ v c : Int, fitV (ceilP x) = .tuple #[.int .i64 v, .int .i64 c] := ⟨_, _, rfl⟩
    rw [hvc]
    have HV := Lib.hid hvc
    clear hvc
    go_wp2_with fail
    go_ret2
    exact ⟨by rw [H.out, HV.out]; rfl, Below.refl _ _⟩
end Go.Proofs.Ytjicdbkpklikfaa
