/- A loss, opened, at layer 8; lists that are shown in part. -/
import Derived.Test.YtlfigbgcackimaaWalB
namespace Go.Proofs.Ytlfigbgcackimaa
open Go.ChangeShapes Go.WideShapes Go.ChangeAt Go.RowKit Go.Fm Go.Dk Go.Wl
set_option linter.unusedVariables false
set_option linter.unusedSimpArgs false
set_option maxRecDepth 100000
section
variable {H : Type} {enc : TypeId × Value → H} {W : World} {base : Nat} {spare : Nat → Bool} {held : Bool}
theorem open_loss {r : Reach} {b0 : Nat} {v : Value} {d : DataW H} {p : List MemPlace} (hv : Value.okWide Try.prog W r b0 64 v) (h : DataW.Trod enc Try.prog W base spare held 64 v d p) :
    ∃ a b : Int, v = .agg #[.int .i64 a, .int .u8 b] ∧ W64 a ∧ (0 ≤ b ∧ b ≤ 255) := by
  obtain ⟨cs, rfl, hsz⟩ := okWide_struct Try.underlying64 hv
  obtain ⟨m, hm⟩ := h
  obtain ⟨xs, n, -, -, hl, hxl, hf⟩ := DataW.trod_struct Try.underlying64 hm
  rw [show Try.prog.cellsOf 64 = 2 by kernel_rfl] at hl
  obtain ⟨c0, c1, hcs⟩ := list2 hl
  obtain ⟨y0, y1, rfl⟩ := list2 (l := xs) (by simpa using hxl)
  rw [hcs] at hf
  have h0 : DataW.trod enc Try.prog W base spare held n 3 (([c0, c1].drop 0).take (Try.prog.cellsOf 3)) = some y0 := hf 0 _ rfl
  have h1 : DataW.trod enc Try.prog W base spare held n 5 (([c0, c1].drop 1).take (Try.prog.cellsOf 5)) = some y1 := hf 1 _ rfl
  rw [show Try.prog.cellsOf 3 = 1 by kernel_rfl] at h0
  rw [show Try.prog.cellsOf 5 = 1 by kernel_rfl] at h1
  obtain ⟨a, e0, -, w0⟩ := DataW.trod_int Try.underlying3 h0
  obtain ⟨b, e1, -, w1⟩ := DataW.trod_int Try.underlying5 h1
  simp only [List.drop_succ_cons, List.drop_zero, List.take_succ_cons, List.take_zero, List.cons.injEq, and_true] at e0 e1
  subst e0 e1
  have b1 := bounds_u8 w1
  refine ⟨a, b, ?_, bounds_i64 w0, b1⟩
  have : cs.toList = [.int .i64 a, .int .u8 b] := by simpa [Value.cells] using hcs
  cases cs
  simp at this
  rw [this]
end
theorem OwnT.less {R : List Row} {B B' : Nat} {v : Value} {ls : List (List UInt8)} (h : OwnT R B v ls) (hB : B' ≤ B) : OwnT R B' v ls := by
  refine ⟨fun w2 hk => ?_, h.2⟩
  obtain ⟨h1, h2⟩ := h.1 w2 hk
  refine ⟨h1, ?_⟩
  rcases h2 with hn | ⟨g, cap, cur, rfl, hb, r⟩
  · exact .inl hn
  · exact .inr ⟨g, cap, cur, rfl, by omega, r⟩
theorem strs_take (ls : List (List UInt8)) (k : Nat) : (strs ls).take k = strs (ls.take k) := by unfold strs; rw [List.map_take]
/-- The first texts of a list that is owned. -/
theorem OwnT.first {R : List Row} {B : Nat} {A : Option Addr} {n c : Nat} {ls : List (List UInt8)} (h : OwnT R B (.slice A n c) ls) (hn : n = ls.length) {w : World} (hk : Knows w R) (j : Nat) (hj : j ≤ ls.length) : Sees w w.heap.size 1 A (ls.take j).length (strs (ls.take j)) := by
  have := (h.sees hn hk).first hj
  rw [Nat.mul_one, strs_take] at this
  rw [List.length_take, Nat.min_eq_left hj]; exact this
end Go.Proofs.Ytlfigbgcackimaa
