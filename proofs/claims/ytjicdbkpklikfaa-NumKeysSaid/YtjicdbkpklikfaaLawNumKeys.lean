/- Keys are ordered as their floats are, and lead back: NumKeys answers true at every two floats. No condition. -/
import Derived.Test.YtjicdbkpklikfaaNumA
namespace Go.Proofs.Ytjicdbkpklikfaa.numKeys
open Go.ChangeShapes Go.WideShapes Go.ChangeAt Go.RowKit Go.Fl
set_option linter.unusedVariables false

theorem key_lt_iff (x y : Nat) : (key x < key y ↔ ord x y < 0) ∧ ((key x : Int) == (key y : Int)) = (ord x y == 0) := by
  unfold ord
  constructor
  · (repeat' split) <;> omega
  · rw [Bool.eq_iff_iff, beq_iff_eq, beq_iff_eq]; (repeat' split) <;> omega
theorem of_key (x : Nat) (hx : x < 18446744073709551616) : ofOk (key x) = true ∧ (nan x = true → nan (ofBits (key x)) = true) ∧ (nan x = false → ofBits (key x) = x) := by
  rw [nan_dec x hx]
  by_cases h : (9218868437227405312 < x ∧ x < 9223372036854775808) ∨ 18442240474082181120 < x
  · have k : key x = 0 := by unfold key; rw [if_pos h]
    rw [k]
    refine ⟨rfl, fun _ => by decide, fun g => ?_⟩
    rw [decide_eq_true h] at g; cases g
  · have k : key x = if 9223372036854775808 ≤ x then 18446744073709551615 - x else x + 9223372036854775808 := by unfold key; rw [if_neg h]
    have kz : key x ≠ 0 := by rw [k]; split <;> omega
    have kb : ofB (key x) = x := by rw [k]; unfold ofB; (repeat' split) <;> omega
    have n := of_num (key x) kz (key_lt x hx) (by rw [kb, nan_dec x hx, decide_eq_false h])
    refine ⟨n.2, fun g => ?_, fun _ => by rw [n.1, kb]⟩
    rw [decide_eq_false h] at g; cases g

theorem same_any (x y : Nat) (hx : x < 18446744073709551616) (hy : y < 18446744073709551616) (h : x = y ∨ (nan x = true ∧ nan y = true)) (w : World) :
    Calls Try.prog 31 #[.float .f64 x, .float .f64 y] w fun e w' => e = .returned (.bool true) ∧ w' = w := by
  by_cases e : x = y
  · subst e
    go_enter Try.func31, Try.ntmps31
    go_wp2
    go_ret
    exact ⟨rfl, rfl⟩
  · have h1 : nan x = true := by rcases h with h | h; exact absurd h e; exact h.1
    have h2 : nan y = true := by rcases h with h | h; exact absurd h e; exact h.2
    have e1 : ((x : Int) == (y : Int)) = false := by simp; omega
    clear h e
    go_enter Try.func31, Try.ntmps31
    go_wp2_with fail
    refine (none_any x hx _).mono ?_
    rintro e w2 ⟨rfl, rfl⟩
    go_wp2_with fail
    refine (none_any y hy _).mono ?_
    rintro e w2 ⟨rfl, rfl⟩
    go_wp2_with fail
    go_ret
    exact ⟨rfl, rfl⟩

theorem walk (a0 a1 : Nat) (w0 : (Lit.float .f64 a0).wf = true) (w1 : (Lit.float .f64 a1).wf = true) (w : World) :
    Calls Try.prog 8 #[.float .f64 a0, .float .f64 a1] w fun e w' => e = .returned (.bool true) ∧ Grown w w' := by
  have h0 := f64_lt w0
  have h1 := f64_lt w1
  clear w0 w1
  have hk := key_lt a0 h0
  have ho := of_key a0 h0
  have HO := Lib.hid ho
  clear ho
  have HL := Lib.hid (key_lt_iff a0 a1)
  have hb := ofBits_lt (key a0) hk
  go_enter Try.func8, Try.ntmps8
  go_wp2_with fail
  refine (key_any a0 h0 _).mono ?_
  rintro e w2 ⟨rfl, rfl⟩
  go_wp2_with fail
  refine (key_any a1 h1 _).mono ?_
  rintro e w2 ⟨rfl, rfl⟩
  go_wp2_with fail
  refine (of_any (key a0) hk _).mono ?_
  rintro e w2 ⟨rfl, rfl⟩
  rw [HO.out.1]
  go_wp2_with fail
  refine (cmp_any a0 a1 h0 h1 _).mono ?_
  rintro e w2 ⟨rfl, rfl⟩
  go_wp2_with fail
  refine (awake_any _).mono ?_
  rintro e wa ⟨rfl, hg⟩
  go_wp2_with fail
  · refine (same_any _ a0 hb h0 (by
      have ho := HO.out
      cases hn : nan a0
      · exact Or.inl (ho.2.2 hn)
      · exact Or.inr ⟨ho.2.1 hn, rfl⟩) _).mono ?_
    rintro e w2 ⟨rfl, rfl⟩
    go_wp2_with fail
    go_ret
    exact ⟨rfl, hg⟩
  · rename_i h
    exact absurd HL.out.2 h
  · rename_i h
    exact absurd HL.out.1 h
theorem own : ownKnob Try.prog.godebug = none := by kernel_rfl
set_option maxRecDepth 100000 in
theorem lifted (os : Os) (started : os.Started) (H : Type) (enc : TypeId × Value → H) :
    ReturnsInHanded {} Try.checked os 8 .any (Rows.numKeysSpec.pre6 enc Try.prog Try.f8 Rows.numKeysRow.domain false) (Rows.numKeysSpec.post enc Try.prog Try.f8 false true false false) := by
  refine returnsInHanded_of_change (C := Try.checked) own started (by kernel_rfl) Try.func8
    (ChangeSpec.witness6 (enc := enc) (C := Try.checked) false ⟨#[], #[.float .f64 0, .float .f64 0], []⟩ 8 (by kernel_rfl) (by kernel_rfl) (by kernel_rfl) (by kernel_rfl)) ?_
  intro W base args ds gs before hval0 hW hcnd _
  have hval : ∀ (j : Nat) t v, Try.f8.params[j]? = some t → args[j]? = some v → Value.okWide Try.prog W .any base t v := hval0
  have hW' := hW
  obtain ⟨p, q, hA0, hV, rfl, hfz, hnd⟩ := hW
  have hA : DataW.TrodAll enc Try.prog W 0 (fun _ => true) true Try.f8.params.toList args.toList ds p := hA0
  rw [Try.params8] at hA hval
  obtain ⟨v0, vs0, d0, ds0, p0, q0, hargs, rfl, rfl, h0, r0⟩ := trodAll_cons hA
  obtain ⟨v1, vs1, d1, ds1, p1, q1, rfl, rfl, rfl, h1, r1⟩ := trodAll_cons r0
  obtain ⟨rfl, rfl, rfl⟩ := trodAll_nil r1
  obtain rfl : args = #[v0, v1] := by cases args; simp_all
  obtain ⟨rfl, rfl⟩ := trodVars_none hV
  obtain ⟨a0, rfl, rfl, rfl, w0⟩ := open_float Try.underlying22 (hval 0 22 v0 rfl rfl) h0
  obtain ⟨a1, rfl, rfl, rfl, w1⟩ := open_float Try.underlying22 (hval 1 22 v1 rfl rfl) h1
  clear hA0 hval0
  simp only [List.append_nil] at hW'
  refine (walk a0 a1 w0 w1 W).mono fun e W' ⟨he, hg⟩ => ?_
  subst he
  exact ⟨_, rfl, post_of_same (pa := []) (pv := []) hW' (fun _ _ _ => (trodAll_cons_mk (shut_bool Try.underlying4 _) trodAll_mk0)) (fun sp _ => (trodAll_cons_mk (shut_float Try.underlying22 w0) (trodAll_cons_mk (shut_float Try.underlying22 w1) trodAll_mk0))) (fun _ _ => rfl) rfl
    (hg.frame _) hg.2.1 (ok_one (by kernel_rfl) rfl (okWide_bool_mk Try.underlying4 _))⟩

theorem proved : Rows.NumKeysSaid :=
  OpenClaim.holds_of_wide 8 Try.f8 rfl rfl rfl rfl rfl rfl rfl ⟨rfl, rfl, rfl, rfl, rfl⟩ rfl rfl rfl rfl rfl (by kernel_rfl) Try.func8 (by kernel_rfl)
    (of_decide_eq_true (by kernel_rfl)) (by unfold Func.isWrapper; first | (rw [if_pos (by decide +kernel)]; kernel_rfl) | (rw [if_neg (by decide +kernel)]; exact ⟨rfl, rfl⟩))
    (fun os started H enc _ => lifted os started H enc)
#print axioms proved
end Go.Proofs.Ytjicdbkpklikfaa.numKeys
