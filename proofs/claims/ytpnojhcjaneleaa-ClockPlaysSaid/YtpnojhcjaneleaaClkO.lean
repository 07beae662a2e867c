/- Arguments opened at layer 6: calls, steps, pairs, whole numbers, a basis, two floats. -/
import Derived.Test.YtpnojhcjaneleaaOpen
import Derived.Test.YtpnojhcjaneleaaClkA
namespace Go.Proofs.Ytpnojhcjaneleaa
open Go.ChangeShapes Go.WideShapes Go.ChangeAt Go.RowKit Go.Sp Go.Fl Go.Ck
set_option linter.unusedVariables false
set_option linter.unusedSimpArgs false
set_option maxRecDepth 100000

/-- The low forty bits of a whole number. -/
theorem and40 (n : Int) : 0 ≤ bits .and .i64 n 1099511627775 ∧ bits .and .i64 n 1099511627775 ≤ 1099511627775 := by
  have e : bits .and .i64 n 1099511627775 = IntKind.i64.wrap ((BitVec.ofInt 64 n &&& BitVec.ofInt 64 1099511627775).toNat : Int) := rfl
  rw [e, BitVec.toNat_and, show (BitVec.ofInt 64 1099511627775).toNat = 1099511627775 by decide, IntKind.wrap_i64]
  have h := Nat.and_le_right (n := (BitVec.ofInt 64 n).toNat) (m := 1099511627775)
  generalize (BitVec.ofInt 64 n).toNat &&& 1099511627775 = v at *
  omega
theorem r64_of {a : Int} (h : -9223372036854775808 ≤ a ∧ a ≤ 9223372036854775807) : R64 a := ⟨h.1, by omega⟩
/-- A call of a law: what, a reading, a time, a width. -/
structure Cl where
  k : Int
  h : Int
  t : Int
  e : Int
instance : Inhabited Cl := ⟨⟨0, 0, 0, 0⟩⟩
def encC (v : Cl) : List Value := [.int .i64 v.k, .int .i64 v.h, .int .i64 v.t, .int .i64 v.e]
def GC (v : Cl) : Prop := R64 v.k ∧ R64 v.h ∧ R64 v.t ∧ R64 v.e
theorem encC_len (v : Cl) : (encC v).length = 4 := rfl
/-- A step of a law. -/
structure Sp6 where
  d : Int
  s : Int
  b : Bool
  e : Int
  o : Int
instance : Inhabited Sp6 := ⟨⟨0, 0, false, 0, 0⟩⟩
def encS (v : Sp6) : List Value := [.int .u32 v.d, .int .i64 v.s, .bool v.b, .int .u16 v.e, .int .i64 v.o]
def GS (v : Sp6) : Prop := (0 ≤ v.d ∧ v.d ≤ 4294967295) ∧ R64 v.s ∧ (0 ≤ v.e ∧ v.e ≤ 65535) ∧ R64 v.o
theorem encS_len (v : Sp6) : (encS v).length = 5 := rfl
structure Pr where
  d : Int
  a : Sp6
  b : Sp6
instance : Inhabited Pr := ⟨⟨0, default, default⟩⟩
def encP (v : Pr) : List Value := [.int .u32 v.d] ++ encS v.a ++ encS v.b
def GP (v : Pr) : Prop := (0 ≤ v.d ∧ v.d ≤ 4294967295) ∧ GS v.a ∧ GS v.b
theorem encP_len (v : Pr) : (encP v).length = 11 := rfl
def encU (v : Int) : List Value := [.int .u32 v]
def GU (v : Int) : Prop := 0 ≤ v ∧ v ≤ 4294967295
theorem encU_len (v : Int) : (encU v).length = 1 := rfl

section
variable {H : Type} {enc : TypeId × Value → H} {W : World} {base : Nat} {spare : Nat → Bool} {held : Bool}
theorem call_cells {m : Nat} {cs : List Value} {x : DataW H × List MemPlace} (hm : DataW.trod enc Try.prog W base spare held m 34 cs = some x) : ∃ v, cs = encC v ∧ GC v := by
  obtain ⟨xs, n, -, -, hl, hxl, hf⟩ := DataW.trod_struct Try.underlying34 hm
  rw [show Try.prog.cellsOf 34 = 4 by kernel_rfl] at hl
  obtain ⟨c0, c1, c2, c3, rfl⟩ := list4 hl
  obtain ⟨y0, y1, y2, y3, rfl⟩ := list4 (l := xs) (by simpa using hxl)
  have h0 : DataW.trod enc Try.prog W base spare held n 3 (([c0, c1, c2, c3].drop 0).take (Try.prog.cellsOf 3)) = some y0 := hf 0 _ rfl
  have h1 : DataW.trod enc Try.prog W base spare held n 2 (([c0, c1, c2, c3].drop 1).take (Try.prog.cellsOf 2)) = some y1 := hf 1 _ rfl
  have h2 : DataW.trod enc Try.prog W base spare held n 2 (([c0, c1, c2, c3].drop 2).take (Try.prog.cellsOf 2)) = some y2 := hf 2 _ rfl
  have h3 : DataW.trod enc Try.prog W base spare held n 2 (([c0, c1, c2, c3].drop 3).take (Try.prog.cellsOf 2)) = some y3 := hf 3 _ rfl
  rw [show Try.prog.cellsOf 3 = 1 by kernel_rfl] at h0
  rw [show Try.prog.cellsOf 2 = 1 by kernel_rfl] at h1 h2 h3
  obtain ⟨a, e0, -, w0⟩ := DataW.trod_int Try.underlying3 h0
  obtain ⟨b, e1, -, w1⟩ := DataW.trod_int Try.underlying2 h1
  obtain ⟨c, e2, -, w2⟩ := DataW.trod_int Try.underlying2 h2
  obtain ⟨d, e3, -, w3⟩ := DataW.trod_int Try.underlying2 h3
  simp only [List.drop_succ_cons, List.drop_zero, List.take_succ_cons, List.take_zero, List.cons.injEq, and_true] at e0 e1 e2 e3
  subst e0 e1 e2 e3
  have b0 := bounds_i64 w0
  have b1 := bounds_i64 w1
  have b2 := bounds_i64 w2
  have b3 := bounds_i64 w3
  exact ⟨⟨a, b, c, d⟩, rfl, r64_of b0, r64_of b1, r64_of b2, r64_of b3⟩
theorem step_cells {m : Nat} {cs : List Value} {x : DataW H × List MemPlace} (hm : DataW.trod enc Try.prog W base spare held m 56 cs = some x) : ∃ v, cs = encS v ∧ GS v := by
  obtain ⟨xs, n, -, -, hl, hxl, hf⟩ := DataW.trod_struct Try.underlying56 hm
  rw [show Try.prog.cellsOf 56 = 5 by kernel_rfl] at hl
  obtain ⟨c0, c1, c2, c3, c4, rfl⟩ := list5 hl
  obtain ⟨y0, y1, y2, y3, y4, rfl⟩ := list5 (l := xs) (by simpa using hxl)
  have h0 : DataW.trod enc Try.prog W base spare held n 54 (([c0, c1, c2, c3, c4].drop 0).take (Try.prog.cellsOf 54)) = some y0 := hf 0 _ rfl
  have h1 : DataW.trod enc Try.prog W base spare held n 2 (([c0, c1, c2, c3, c4].drop 1).take (Try.prog.cellsOf 2)) = some y1 := hf 1 _ rfl
  have h2 : DataW.trod enc Try.prog W base spare held n 4 (([c0, c1, c2, c3, c4].drop 2).take (Try.prog.cellsOf 4)) = some y2 := hf 2 _ rfl
  have h3 : DataW.trod enc Try.prog W base spare held n 52 (([c0, c1, c2, c3, c4].drop 3).take (Try.prog.cellsOf 52)) = some y3 := hf 3 _ rfl
  have h4 : DataW.trod enc Try.prog W base spare held n 2 (([c0, c1, c2, c3, c4].drop 4).take (Try.prog.cellsOf 2)) = some y4 := hf 4 _ rfl
  rw [show Try.prog.cellsOf 54 = 1 by kernel_rfl] at h0
  rw [show Try.prog.cellsOf 2 = 1 by kernel_rfl] at h1 h4
  rw [show Try.prog.cellsOf 4 = 1 by kernel_rfl] at h2
  rw [show Try.prog.cellsOf 52 = 1 by kernel_rfl] at h3
  obtain ⟨a, e0, -, w0⟩ := DataW.trod_int Try.underlying54 h0
  obtain ⟨b, e1, -, w1⟩ := DataW.trod_int Try.underlying2 h1
  obtain ⟨c, e2⟩ := bool_of Try.underlying4 h2
  obtain ⟨d, e3, -, w3⟩ := DataW.trod_int Try.underlying52 h3
  obtain ⟨f, e4, -, w4⟩ := DataW.trod_int Try.underlying2 h4
  simp only [List.drop_succ_cons, List.drop_zero, List.take_succ_cons, List.take_zero, List.cons.injEq, and_true] at e0 e1 e2 e3 e4
  subst e0 e1 e2 e3 e4
  have b0 := bounds_u32 w0
  have b1 := bounds_i64 w1
  have b3 := bounds_u16 w3
  have b4 := bounds_i64 w4
  exact ⟨⟨a, b, c, d, f⟩, rfl, b0, r64_of b1, b3, r64_of b4⟩
theorem pair_cells {m : Nat} {cs : List Value} {x : DataW H × List MemPlace} (hm : DataW.trod enc Try.prog W base spare held m 61 cs = some x) : ∃ v, cs = encP v ∧ GP v := by
  obtain ⟨xs, n, -, -, hl, hxl, hf⟩ := DataW.trod_struct Try.underlying61 hm
  rw [show Try.prog.cellsOf 61 = 11 by kernel_rfl] at hl
  obtain ⟨y0, y1, y2, rfl⟩ := list3 (l := xs) (by simpa using hxl)
  have h0 : DataW.trod enc Try.prog W base spare held n 54 ((cs.drop 0).take (Try.prog.cellsOf 54)) = some y0 := hf 0 _ rfl
  have h1 : DataW.trod enc Try.prog W base spare held n 56 ((cs.drop 1).take (Try.prog.cellsOf 56)) = some y1 := hf 1 _ rfl
  have h2 : DataW.trod enc Try.prog W base spare held n 56 ((cs.drop 6).take (Try.prog.cellsOf 56)) = some y2 := hf 2 _ rfl
  obtain ⟨a, ea, ga⟩ := step_cells h1
  obtain ⟨b, eb, gb⟩ := step_cells h2
  rw [show Try.prog.cellsOf 54 = 1 by kernel_rfl] at h0
  rw [show Try.prog.cellsOf 56 = 5 by kernel_rfl] at ea eb
  obtain ⟨d, e0, -, w0⟩ := DataW.trod_int Try.underlying54 h0
  have b0 := bounds_u32 w0
  refine ⟨⟨d, a, b⟩, ?_, b0, ga, gb⟩
  have s1 : cs = cs.take 1 ++ ((cs.drop 1).take 5 ++ (cs.drop 6).take 5) := by
    have r2 : (cs.drop 6).take 5 = cs.drop 6 := List.take_of_length_le (by rw [List.length_drop]; omega)
    have r1 : (cs.drop 1).take 5 ++ cs.drop 6 = cs.drop 1 := by
      have := List.take_append_drop 5 (cs.drop 1)
      rwa [List.drop_drop] at this
    rw [r2, r1, List.take_append_drop]
  rw [s1, ea, eb, ← List.append_assoc]
  rw [List.drop_zero] at e0
  rw [e0]
  rfl
theorem u32_cells {m : Nat} {cs : List Value} {x : DataW H × List MemPlace} (hm : DataW.trod enc Try.prog W base spare held m 54 cs = some x) : ∃ v, cs = encU v ∧ GU v := by
  obtain ⟨a, e0, -, w0⟩ := DataW.trod_int Try.underlying54 hm
  exact ⟨a, e0, bounds_u32 w0⟩

theorem open_calls {A : Option Addr} {len cap : Nat} {d : DataW H} {p : List MemPlace} (h : DataW.Trod enc Try.prog W 0 (fun _ => true) held 23 (.slice A len cap) d p) : ∃ l, IsR W A len cap 4 encC GC l :=
  open_row Try.underlying23 (by kernel_rfl) (by omega) encC_len (fun m cs x hm => call_cells hm) h
theorem open_steps {A : Option Addr} {len cap : Nat} {d : DataW H} {p : List MemPlace} (h : DataW.Trod enc Try.prog W 0 (fun _ => true) held 47 (.slice A len cap) d p) : ∃ l, IsR W A len cap 5 encS GS l :=
  open_row Try.underlying47 (by kernel_rfl) (by omega) encS_len (fun m cs x hm => step_cells hm) h
theorem open_pairs {A : Option Addr} {len cap : Nat} {d : DataW H} {p : List MemPlace} (h : DataW.Trod enc Try.prog W 0 (fun _ => true) held 59 (.slice A len cap) d p) : ∃ l, IsR W A len cap 11 encP GP l :=
  open_row Try.underlying59 (by kernel_rfl) (by omega) encP_len (fun m cs x hm => pair_cells hm) h
theorem open_u32s {A : Option Addr} {len cap : Nat} {d : DataW H} {p : List MemPlace} (h : DataW.Trod enc Try.prog W 0 (fun _ => true) held 64 (.slice A len cap) d p) : ∃ l, IsR W A len cap 1 encU GU l :=
  open_row Try.underlying64 (by kernel_rfl) (by omega) encU_len (fun m cs x hm => u32_cells hm) h

theorem open_call {r : Reach} {b0 : Nat} {v : Value} {d : DataW H} {p : List MemPlace} (hv : Value.okWide Try.prog W r b0 34 v) (h : DataW.Trod enc Try.prog W base spare held 34 v d p) :
    ∃ x : Cl, v = .agg #[.int .i64 x.k, .int .i64 x.h, .int .i64 x.t, .int .i64 x.e] ∧ GC x := by
  obtain ⟨cs, rfl, hsz⟩ := okWide_struct Try.underlying34 hv
  obtain ⟨m, hm⟩ := h
  obtain ⟨x, e, g⟩ := call_cells hm
  refine ⟨x, ?_, g⟩
  have : cs.toList = encC x := by simpa [Value.cells] using e
  cases cs
  simp at this
  rw [this]; rfl
theorem open_basis {r : Reach} {b0 : Nat} {v : Value} {d : DataW H} {p : List MemPlace} (hv : Value.okWide Try.prog W r b0 68 v) (h : DataW.Trod enc Try.prog W base spare held 68 v d p) :
    ∃ a b : Int, v = .agg #[.int .i64 a, .int .u32 b] ∧ R64 a ∧ (0 ≤ b ∧ b ≤ 4294967295) := by
  obtain ⟨cs, rfl, hsz⟩ := okWide_struct Try.underlying68 hv
  obtain ⟨m, hm⟩ := h
  obtain ⟨xs, n, -, -, hl, hxl, hf⟩ := DataW.trod_struct Try.underlying68 hm
  rw [show Try.prog.cellsOf 68 = 2 by kernel_rfl] at hl
  obtain ⟨c0, c1, hcs⟩ := list2 hl
  obtain ⟨y0, y1, rfl⟩ := list2 (l := xs) (by simpa using hxl)
  rw [hcs] at hf
  have h0 : DataW.trod enc Try.prog W base spare held n 2 (([c0, c1].drop 0).take (Try.prog.cellsOf 2)) = some y0 := hf 0 _ rfl
  have h1 : DataW.trod enc Try.prog W base spare held n 54 (([c0, c1].drop 1).take (Try.prog.cellsOf 54)) = some y1 := hf 1 _ rfl
  rw [show Try.prog.cellsOf 2 = 1 by kernel_rfl] at h0
  rw [show Try.prog.cellsOf 54 = 1 by kernel_rfl] at h1
  obtain ⟨a, e0, -, w0⟩ := DataW.trod_int Try.underlying2 h0
  obtain ⟨b, e1, -, w1⟩ := DataW.trod_int Try.underlying54 h1
  simp only [List.drop_succ_cons, List.drop_zero, List.take_succ_cons, List.take_zero, List.cons.injEq, and_true] at e0 e1
  subst e0 e1
  have b0 := bounds_i64 w0
  have b1 := bounds_u32 w1
  refine ⟨a, b, ?_, ⟨by omega, by omega⟩, b1⟩
  have : cs.toList = [.int .i64 a, .int .u32 b] := by simpa [Value.cells] using hcs
  cases cs
  simp at this
  rw [this]
theorem open_two {r : Reach} {b0 : Nat} {v : Value} {d : DataW H} {p : List MemPlace} (hv : Value.okWide Try.prog W r b0 58 v) (h : DataW.Trod enc Try.prog W base spare held 58 v d p) :
    ∃ a b : Nat, v = .agg #[.float .f64 a, .float .f64 b] ∧ a < 18446744073709551616 ∧ b < 18446744073709551616 := by
  simp only [Value.okWide, Try.underlying58] at hv
  obtain ⟨cs, rfl, hsz, -⟩ := hv
  obtain ⟨m, hm⟩ := h
  obtain ⟨xs, n, -, -, hl, hxl, hf⟩ := DataW.trod_array Try.underlying58 hm
  rw [show Try.prog.cellsOf 58 = 2 by kernel_rfl] at hl
  obtain ⟨c0, c1, hcs⟩ := list2 hl
  obtain ⟨y0, y1, rfl⟩ := list2 (l := xs) hxl
  rw [hcs] at hf
  have h0 := hf 0 (by omega)
  have h1 := hf 1 (by omega)
  rw [show Try.prog.cellsOf 22 = 1 by kernel_rfl] at h0 h1
  obtain ⟨a, e0, w0⟩ := float_of (k := .f64) Try.underlying22 h0
  obtain ⟨b, e1, w1⟩ := float_of (k := .f64) Try.underlying22 h1
  simp only [Nat.zero_mul, Nat.one_mul, List.drop_succ_cons, List.drop_zero, List.take_succ_cons, List.take_zero, List.cons.injEq, and_true] at e0 e1
  subst e0 e1
  refine ⟨a, b, ?_, by simpa [Lit.wf] using w0, by simpa [Lit.wf] using w1⟩
  have : cs.toList = [.float .f64 a, .float .f64 b] := by simpa [Value.cells] using hcs
  cases cs
  simp at this
  rw [this]
end
end Go.Proofs.Ytpnojhcjaneleaa
