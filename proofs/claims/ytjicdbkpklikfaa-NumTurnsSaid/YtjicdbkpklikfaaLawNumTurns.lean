/- Floats, whatever they are, stand in one order: NumTurns answers true at every three floats. No condition. -/
import Derived.Test.YtjicdbkpklikfaaNumA
namespace Go.Proofs.Ytjicdbkpklikfaa.numTurns
open Go.ChangeShapes Go.WideShapes Go.ChangeAt Go.RowKit Go.Fl
set_option linter.unusedVariables false

theorem ord_cases (x y : Nat) : (ord x y = -1 ∧ key x < key y) ∨ (ord x y = 0 ∧ key x = key y) ∨ (ord x y = 1 ∧ key y < key x) := by
  unfold ord; (repeat' split) <;> omega
theorem walk_of (a0 a1 a2 : Nat) (x y z : Int) (h0 : a0 < 18446744073709551616) (h1 : a1 < 18446744073709551616) (h2 : a2 < 18446744073709551616)
    (e1 : Hid (ord a0 a1 = x)) (e2 : Hid (ord a1 a2 = y)) (e3 : Hid (ord a0 a2 = z)) (e4 : Hid (ord a1 a0 = -x)) (e5 : Hid (ord a0 a0 = 0))
    (hx3 : x = -1 ∨ x = 0 ∨ x = 1) (hy3 : y = -1 ∨ y = 0 ∨ y = 1) (hz3 : z = -1 ∨ z = 0 ∨ z = 1) (hxyz : (x ≤ 0 ∧ y ≤ 0) → (z ≤ 0 ∧ (z < 0 ↔ (x < 0 ∨ y < 0)))) (w : World) :
    Calls Try.prog 9 #[.float .f64 a0, .float .f64 a1, .float .f64 a2] w fun e w' => e = .returned (.bool true) ∧ Grown w w' := by
  have HX := Lib.hid hx3
  have HY := Lib.hid hy3
  have HZ := Lib.hid hz3
  have HH := Lib.hid hxyz
  clear hx3 hy3 hz3 hxyz
  go_enter Try.func9, Try.ntmps9
  go_wp2_with fail
  refine (cmp_any a0 a1 h0 h1 _).mono ?_
  rintro e w2 ⟨rfl, rfl⟩
  rw [e1.out]
  go_wp2_with fail
  refine (cmp_any a1 a2 h1 h2 _).mono ?_
  rintro e w2 ⟨rfl, rfl⟩
  rw [e2.out]
  go_wp2_with fail
  refine (cmp_any a0 a2 h0 h2 _).mono ?_
  rintro e w2 ⟨rfl, rfl⟩
  rw [e3.out]
  have hx3 := HX.out
  have hy3 := HY.out
  have hz3 := HZ.out
  have hxyz := HH.out
  rcases hx3 with rfl | rfl | rfl <;> rcases hy3 with rfl | rfl | rfl <;> rcases hz3 with rfl | rfl | rfl <;>
    first
      | (exfalso; omega)
      | (clear hxyz
         go_wp2_with fail
         refine (awake_any _).mono ?_
         rintro e wa ⟨rfl, hg⟩
         go_wp2_with fail
         refine (cmp_any a1 a0 h1 h0 _).mono ?_
         rintro e w2 ⟨rfl, rfl⟩
         rw [e4.out]
         go_wp2_with fail
         refine (cmp_any a0 a0 h0 h0 _).mono ?_
         rintro e w2 ⟨rfl, rfl⟩
         rw [e5.out]
         go_wp2_with fail
         go_ret
         exact ⟨rfl, hg⟩)
theorem walk (a0 a1 a2 : Nat) (w0 : (Lit.float .f64 a0).wf = true) (w1 : (Lit.float .f64 a1).wf = true) (w2 : (Lit.float .f64 a2).wf = true) (w : World) :
    Calls Try.prog 9 #[.float .f64 a0, .float .f64 a1, .float .f64 a2] w fun e w' => e = .returned (.bool true) ∧ Grown w w' := by
  have c1 := ord_cases a0 a1
  have c2 := ord_cases a1 a2
  have c3 := ord_cases a0 a2
  have c4 := ord_cases a1 a0
  have c5 := ord_cases a0 a0
  exact walk_of a0 a1 a2 _ _ _ (f64_lt w0) (f64_lt w1) (f64_lt w2) (Lib.hid rfl) (Lib.hid rfl) (Lib.hid rfl) (Lib.hid (by omega)) (Lib.hid (by omega)) (by omega) (by omega) (by omega) (by omega) w
theorem own : ownKnob Try.prog.godebug = none := by kernel_rfl
set_option maxRecDepth 100000 in
theorem lifted (os : Os) (started : os.Started) (H : Type) (enc : TypeId × Value → H) :
    ReturnsInHanded {} Try.checked os 9 .any (Rows.numTurnsSpec.pre6 enc Try.prog Try.f9 Rows.numTurnsRow.domain false) (Rows.numTurnsSpec.post enc Try.prog Try.f9 false true false false) := by
  refine returnsInHanded_of_change (C := Try.checked) own started (by kernel_rfl) Try.func9
    (ChangeSpec.witness6 (enc := enc) (C := Try.checked) false ⟨#[], #[.float .f64 0, .float .f64 0, .float .f64 0], []⟩ 8 (by kernel_rfl) (by kernel_rfl) (by kernel_rfl) (by kernel_rfl)) ?_
  intro W base args ds gs before hval0 hW hcnd _
  have hval : ∀ (j : Nat) t v, Try.f9.params[j]? = some t → args[j]? = some v → Value.okWide Try.prog W .any base t v := hval0
  have hW' := hW
  obtain ⟨p, q, hA0, hV, rfl, hfz, hnd⟩ := hW
  have hA : DataW.TrodAll enc Try.prog W 0 (fun _ => true) true Try.f9.params.toList args.toList ds p := hA0
  rw [Try.params9] at hA hval
  obtain ⟨v0, vs0, d0, ds0, p0, q0, hargs, rfl, rfl, h0, r0⟩ := trodAll_cons hA
  obtain ⟨v1, vs1, d1, ds1, p1, q1, rfl, rfl, rfl, h1, r1⟩ := trodAll_cons r0
  obtain ⟨v2, vs2, d2, ds2, p2, q2, rfl, rfl, rfl, h2, r2⟩ := trodAll_cons r1
  obtain ⟨rfl, rfl, rfl⟩ := trodAll_nil r2
  obtain rfl : args = #[v0, v1, v2] := by cases args; simp_all
  obtain ⟨rfl, rfl⟩ := trodVars_none hV
  obtain ⟨a0, rfl, rfl, rfl, w0⟩ := open_float Try.underlying22 (hval 0 22 v0 rfl rfl) h0
  obtain ⟨a1, rfl, rfl, rfl, w1⟩ := open_float Try.underlying22 (hval 1 22 v1 rfl rfl) h1
  obtain ⟨a2, rfl, rfl, rfl, w2⟩ := open_float Try.underlying22 (hval 2 22 v2 rfl rfl) h2
  clear hA0 hval0
  simp only [List.append_nil] at hW'
  refine (walk a0 a1 a2 w0 w1 w2 W).mono fun e W' ⟨he, hg⟩ => ?_
  subst he
  exact ⟨_, rfl, post_of_same (pa := []) (pv := []) hW' (fun _ _ _ => (trodAll_cons_mk (shut_bool Try.underlying4 _) trodAll_mk0)) (fun sp _ => (trodAll_cons_mk (shut_float Try.underlying22 w0) (trodAll_cons_mk (shut_float Try.underlying22 w1) (trodAll_cons_mk (shut_float Try.underlying22 w2) trodAll_mk0)))) (fun _ _ => rfl) rfl
    (hg.frame _) hg.2.1 (ok_one (by kernel_rfl) rfl (okWide_bool_mk Try.underlying4 _))⟩

theorem proved : Rows.NumTurnsSaid :=
  OpenClaim.holds_of_wide 9 Try.f9 rfl rfl rfl rfl rfl rfl rfl ⟨rfl, rfl, rfl, rfl, rfl⟩ rfl rfl rfl rfl rfl (by kernel_rfl) Try.func9 (by kernel_rfl)
    (of_decide_eq_true (by kernel_rfl)) (by unfold Func.isWrapper; first | (rw [if_pos (by decide +kernel)]; kernel_rfl) | (rw [if_neg (by decide +kernel)]; exact ⟨rfl, rfl⟩))
    (fun os started H enc _ => lifted os started H enc)
#print axioms proved
end Go.Proofs.Ytjicdbkpklikfaa.numTurns
