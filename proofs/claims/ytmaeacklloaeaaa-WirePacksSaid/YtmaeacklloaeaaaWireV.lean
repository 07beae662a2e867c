/- Contracts of Valid, the program's and the document's. -/
import Derived.Test.YtmaeacklloaeaaaWireE
import Derived.Handy
namespace Go.Proofs.Ytmaeacklloaeaaa
open Go.RowKit Go.Fl Go.Wr
set_option linter.unusedVariables false
set_option linter.unusedSimpArgs false

/-- A value as the program holds it, and its cells. -/
def cellsV (v : Val) : List Value := [.int .i64 v.k, .int .u64 v.u, .int .i64 v.i, .float .f64 v.f, .string v.s]
abbrev aggV (v : Val) : Value := .agg #[.int .i64 v.k, .int .u64 v.u, .int .i64 v.i, .float .f64 v.f, .string v.s]

/-- A float that is stored. -/
@[go_sem] theorem store_flt (P : Program) (w : World) (a : Addr) (m : Mode) (k : FloatKind) (b : Nat) : (store a (.float k b) m).run P w = stored P w a (.float k b) m := run_store P w a _ m rfl

theorem cls_zero (f : Nat) (h : f < 18446744073709551616) : cls f = 4 ↔ f = 0 := by
  unfold cls
  (repeat' split) <;> omega

theorem str_empty (s : ByteArray) : s.toList.isEmpty = decide (s.size = 0) := by
  rw [ByteArray.toList_eq, ← ba_size]
  cases s.data.toList <;> simp

theorem str_nil (s : ByteArray) : s.toList = [] ↔ s.size = 0 := by
  rw [ByteArray.toList_eq, ← ba_size, List.length_eq_zero_iff]

set_option maxHeartbeats 1000000 in
theorem valid_any (v : Val) (hw : v.wf) (w : World) :
    Calls Try.prog 16 #[aggV v] w fun e w' => e = .returned (.int .i64 (valid v)) ∧ Below w.heap.size w w' := by
  obtain ⟨k, u, i, f, s⟩ := v
  obtain ⟨w1, w2, w3, w4, w5, w6, w7, w8⟩ := hw
  simp only at w1 w2 w3 w4 w5 w6 w7 w8
  have hcl := cls_zero f w7
  have HC := Lib.hid hcl
  clear hcl
  go_enter Try.func16, Try.ntmps16
  go_wp2_with (go_at_call 22; refine (cls_any f w7 _).mono ?_; rintro e w1 ⟨rfl, rfl⟩)
  all_goals
    go_ret
    refine ⟨ret_i64 ?_, (Below.refl _ w).alloc (Nat.le_refl _) _⟩
    have hc := HC.out
    try simp only [str_empty, bne_iff_ne, bne_eq_false_iff_eq, ne_eq, Bool.not_eq_true', Bool.not_eq_false', decide_eq_true_eq, decide_eq_false_iff_not] at *
    try simp only [valid]
    try subst_vars
    (repeat' split) <;> omega

set_option maxHeartbeats 1000000 in
theorem rvalid_any (v : Val) (hw : v.wf) (w : World) :
    Calls Try.prog 17 #[aggV v] w fun e w' => e = .returned (.int .i64 (valid v)) ∧ Below w.heap.size w w' := by
  obtain ⟨k, u, i, f, s⟩ := v
  obtain ⟨w1, w2, w3, w4, w5, w6, w7, w8⟩ := hw
  simp only at w1 w2 w3 w4 w5 w6 w7 w8
  have hcl := cls_zero f w7
  have HC := Lib.hid hcl
  clear hcl
  go_enter Try.func17, Try.ntmps17
  go_wp2_with fail
  all_goals
    go_ret
    refine ⟨ret_i64 ?_, by go_grown⟩
    try simp only [str_nil, bne_iff_ne, bne_eq_false_iff_eq, beq_iff_eq, beq_eq_false_iff_ne, ne_eq] at *
    try simp only [valid]
    try subst_vars
    (repeat' split) <;> omega
end Go.Proofs.Ytmaeacklloaeaaa
