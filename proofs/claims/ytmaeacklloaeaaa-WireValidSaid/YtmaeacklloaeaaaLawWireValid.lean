/- Every value may be, or may not, for the document's reason: WireValid answers true at every value. No condition. -/
import Derived.Test.YtmaeacklloaeaaaWireZ
namespace Go.Proofs.Ytmaeacklloaeaaa.wireValid
open Go.ChangeShapes Go.WideShapes Go.ChangeAt Go.RowKit Go.Fl Go.Wr
set_option linter.unusedVariables false
set_option linter.unusedSimpArgs false

/-- The boxed value is there, and nothing old has changed. -/
def BoxS (W : World) (x : Val) (w0 : World) : Prop :=
  (w0.cell? ⟨W.heap.size, 0, none⟩ = some (.int .i64 x.k) ∧ w0.cell? ⟨W.heap.size, 1, none⟩ = some (.int .u64 x.u) ∧ w0.cell? ⟨W.heap.size, 2, none⟩ = some (.int .i64 x.i) ∧ w0.cell? ⟨W.heap.size, 3, none⟩ = some (.float .f64 x.f) ∧ w0.cell? ⟨W.heap.size, 4, none⟩ = some (.string x.s)) ∧ W.heap.size < w0.heap.size ∧ Below W.heap.size W w0
theorem BoxS.keep {W w0 w1 : World} {x : Val} (h : BoxS W x w0) (hb : Below w0.heap.size w0 w1) : BoxS W x w1 := by
  obtain ⟨⟨h0, h1, h2, h3, h4⟩, h5, h6⟩ := h
  have c := fun j => hb.cell (p := ⟨W.heap.size, j, none⟩) h5
  exact ⟨⟨(c 0).trans h0, (c 1).trans h1, (c 2).trans h2, (c 3).trans h3, (c 4).trans h4⟩, Nat.lt_of_lt_of_le h5 hb.size, h6.trans (hb.mono h6.size)⟩

set_option maxHeartbeats 4000000 in
theorem walk_big (x : Val) (hx : x.wf) (hbig : 5000 < x.s.size) (w : World) : Calls Try.prog 4 #[aggV x] w fun e w' => e = .returned (.bool true) ∧ Below w.heap.size w w' := by
  have HV := Lib.hid (valid_any x hx)
  have HR := Lib.hid (rvalid_any x hx)
  have S0 : ∀ w0, w0 = (w.alloc (.cells #[.int .i64 x.k, .int .u64 x.u, .int .i64 x.i, .float .f64 x.f, .string x.s] 36)).drew → BoxS w x w0 := by
    rintro w0 rfl
    have h := (Whole.fresh w 36 #[.int .i64 x.k, .int .u64 x.u, .int .i64 x.i, .float .f64 x.f, .string x.s]).drewN 1
    exact ⟨five h |>.1, by simp, ((Below.refl _ _).alloc (Nat.le_refl _) _).drew⟩
  have HS0 := Lib.hid S0
  clear S0
  have hd : decide ((5000 : Int) < (x.s.size : Int)) = true := by simpa using (by omega : (5000 : Int) < (x.s.size : Int))
  go_enter Try.func4, Try.ntmps4
  go_wp2_with fail
  go_region_with ((go_at_call 12; refine (awake_any _).mono ?_; rintro e w1 ⟨rfl, hb⟩; have HB := Lib.hid ((HS0.out _ rfl).keep hb); clear hb; obtain ⟨⟨c0, c1, c2, c3, c4⟩, -, -⟩ := HB.out))
  all_goals go_wp2
  all_goals go_ret
  all_goals exact ⟨rfl, HB.out.2.2⟩

set_option maxHeartbeats 4000000 in
theorem walk_small (x : Val) (hx : x.wf) (hbig : ¬ 5000 < x.s.size) (w : World) : Calls Try.prog 4 #[aggV x] w fun e w' => e = .returned (.bool true) ∧ Below w.heap.size w w' := by
  have HV := Lib.hid (valid_any x hx)
  have HR := Lib.hid (rvalid_any x hx)
  have S0 : ∀ w0, w0 = (w.alloc (.cells #[.int .i64 x.k, .int .u64 x.u, .int .i64 x.i, .float .f64 x.f, .string x.s] 36)).drew → BoxS w x w0 := by
    rintro w0 rfl
    have h := (Whole.fresh w 36 #[.int .i64 x.k, .int .u64 x.u, .int .i64 x.i, .float .f64 x.f, .string x.s]).drewN 1
    exact ⟨five h |>.1, by simp, ((Below.refl _ _).alloc (Nat.le_refl _) _).drew⟩
  have HS0 := Lib.hid S0
  clear S0
  have hd : decide ((5000 : Int) < (x.s.size : Int)) = false := by simpa using (by omega : (x.s.size : Int) ≤ 5000)
  generalize valid x = y at *
  go_enter Try.func4, Try.ntmps4
  go_wp2_with fail
  go_region_with (first
    | (go_at_call 12; refine (awake_any _).mono ?_; rintro e w1 ⟨rfl, hb⟩; have HB := Lib.hid ((HS0.out _ rfl).keep hb); clear hb; obtain ⟨⟨c0, c1, c2, c3, c4⟩, -, -⟩ := HB.out)
    | (go_at_call 16; refine (HV.out _).mono ?_; rintro e w2 ⟨rfl, hb⟩; have HB2 := Lib.hid (HB.out.keep hb); clear hb; obtain ⟨⟨d0, d1, d2, d3, d4⟩, -, -⟩ := HB2.out)
    | (go_at_call 17; refine (HR.out _).mono ?_; rintro e w3 ⟨rfl, hb⟩; have HB3 := Lib.hid (HB2.out.keep hb); clear hb))
  all_goals go_wp2
  all_goals go_ret
  all_goals exact ⟨rfl, HB3.out.2.2⟩

theorem walk (x : Val) (hx : x.wf) (w : World) : Calls Try.prog 4 #[aggV x] w fun e w' => e = .returned (.bool true) ∧ Below w.heap.size w w' := by
  by_cases hbig : 5000 < x.s.size
  · exact walk_big x hx hbig w
  · exact walk_small x hx hbig w

set_option maxRecDepth 100000 in
theorem lifted (os : Os) (started : os.Started) (H : Type) (enc : TypeId × Value → H) :
    ReturnsInHanded {} Try.checked os 4 .any (Rows.wireValidSpec.pre6 enc Try.prog Try.f4 Rows.wireValidRow.domain false) (Rows.wireValidSpec.post enc Try.prog Try.f4 false true false false) := by
  refine returnsInHanded_of_change (C := Try.checked) own started (by kernel_rfl) Try.func4
    (ChangeSpec.witness6 (enc := enc) (C := Try.checked) false ⟨#[], #[.agg #[.int .i64 0, .int .u64 0, .int .i64 0, .float .f64 0, .string ⟨#[]⟩]], []⟩ 8 (by kernel_rfl) (by kernel_rfl) (by kernel_rfl) (by kernel_rfl)) ?_
  intro W base args ds gs before hval0 hW hcnd _
  have hval : ∀ (j : Nat) t v, Try.f4.params[j]? = some t → args[j]? = some v → Value.okWide Try.prog W .any base t v := hval0
  have hW' := hW
  obtain ⟨p, q, hA0, hV, rfl, hfz, hnd⟩ := hW
  have hA : DataW.TrodAll enc Try.prog W 0 (fun _ => true) true Try.f4.params.toList args.toList ds p := hA0
  rw [Try.params4] at hA hval
  obtain ⟨v0, vs0, d0, ds0, p0, q0, hargs, rfl, rfl, h0, r0⟩ := trodAll_cons hA
  obtain ⟨rfl, rfl, rfl⟩ := trodAll_nil r0
  obtain rfl : args = #[v0] := by cases args; simp_all
  obtain ⟨rfl, rfl⟩ := trodVars_none hV
  obtain ⟨a0, rfl, w0⟩ := open_val (hval 0 36 v0 rfl rfl) h0
  have lt0 : ∀ x ∈ p0, x.block < W.heap.size := by obtain ⟨m, hm⟩ := h0; exact DataW.trod_lt m _ _ _ hm
  clear hA0 hval0
  simp only [List.append_nil] at hW'
  refine (walk a0 w0 W).mono fun e W' ⟨he, bel⟩ => ?_
  subst he
  exact ⟨_, rfl, _, _, _, [], _, [], hW', trodAll_mk1 (shut_bool Try.underlying4 _), (trodAll_cons_mk (Below.trod laidOut (by kernel_rfl) (of_decide_eq_true (by kernel_rfl)) h0 bel lt0) trodAll_mk0), rfl, bel.frame _, fun h => by cases h⟩

theorem proved : Rows.WireValidSaid :=
  OpenClaim.holds_of_wide 4 Try.f4 rfl rfl rfl rfl rfl rfl rfl ⟨rfl, rfl, rfl, rfl, rfl⟩ rfl rfl rfl rfl rfl (by kernel_rfl) Try.func4 (by kernel_rfl)
    (of_decide_eq_true (by kernel_rfl)) (by unfold Func.isWrapper; first | (rw [if_pos (by decide +kernel)]; kernel_rfl) | (rw [if_neg (by decide +kernel)]; exact ⟨rfl, rfl⟩))
    (fun os started H enc _ => lifted os started H enc)
#print axioms proved
end Go.Proofs.Ytmaeacklloaeaaa.wireValid
