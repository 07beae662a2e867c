/- Arguments opened at layer 3: a list of texts, a turn. -/
import Derived.Test.YthpmpbipdgianaaFrameA
namespace Go.Proofs.Ythpmpbipdgianaa
open Go.ChangeShapes Go.WideShapes Go.ChangeAt Go.RowKit Go.Fm
set_option linter.unusedVariables false
set_option linter.unusedSimpArgs false

section
variable {H : Type} {enc : TypeId × Value → H} {W : World} {base fuel : Nat} {spare : Nat → Bool} {held : Bool}

theorem list2 {α : Type} {l : List α} (h : l.length = 2) : ∃ a b, l = [a, b] := by
  match l, h with
  | [a, b], _ => exact ⟨a, b, rfl⟩

theorem open_turn {r : Reach} {b0 : Nat} {v : Value} {d : DataW H} {p : List MemPlace} (hv : Value.okWide Try.prog W r b0 53 v) (h : DataW.Trod enc Try.prog W base spare held 53 v d p) :
    ∃ a b : Int, v = .agg #[.int .u16 a, .int .u8 b] ∧ (0 ≤ a ∧ a ≤ 65535) ∧ (0 ≤ b ∧ b ≤ 255) := by
  obtain ⟨cs, rfl, hsz⟩ := okWide_struct Try.underlying53 hv
  obtain ⟨m, hm⟩ := h
  obtain ⟨xs, n, -, -, hl, hxl, hf⟩ := DataW.trod_struct Try.underlying53 hm
  rw [show Try.prog.cellsOf 53 = 2 by kernel_rfl] at hl
  obtain ⟨c0, c1, hcs⟩ := list2 hl
  obtain ⟨y0, y1, rfl⟩ := list2 (l := xs) (by simpa using hxl)
  rw [hcs] at hf
  have h0 : DataW.trod enc Try.prog W base spare held n 47 (([c0, c1].drop 0).take (Try.prog.cellsOf 47)) = some y0 := hf 0 _ rfl
  have h1 : DataW.trod enc Try.prog W base spare held n 5 (([c0, c1].drop 1).take (Try.prog.cellsOf 5)) = some y1 := hf 1 _ rfl
  rw [show Try.prog.cellsOf 47 = 1 by kernel_rfl] at h0
  rw [show Try.prog.cellsOf 5 = 1 by kernel_rfl] at h1
  obtain ⟨a, e0, -, w0⟩ := DataW.trod_int Try.underlying47 h0
  obtain ⟨b, e1, -, w1⟩ := DataW.trod_int Try.underlying5 h1
  simp only [List.drop_succ_cons, List.drop_zero, List.take_succ_cons, List.take_zero, List.cons.injEq, and_true] at e0 e1
  subst e0 e1
  have b0 := bounds_u16 w0
  have b1 := bounds_u8 w1
  refine ⟨a, b, ?_, by omega, by omega⟩
  have : cs.toList = [.int .u16 a, .int .u8 b] := by simpa [Value.cells] using hcs
  cases cs
  simp at this
  rw [this]

/-- What a list of texts that came in is like. -/
def IsS (w : World) (A : Option Addr) (len cap : Nat) (ls : List (List UInt8)) : Prop :=
  ls.length = len ∧ Sees w w.heap.size 1 A len (strs ls) ∧ len ≤ cap ∧ cap ≤ 9223372036854775807 ∧ ∀ l ∈ ls, l.length ≤ 9223372036854775807

theorem open_strs {A : Option Addr} {len cap : Nat} {d : DataW H} {p : List MemPlace} (h : DataW.Trod enc Try.prog W 0 (fun _ => true) held 42 (.slice A len cap) d p) : ∃ ls, IsS W A len cap ls := by
  obtain ⟨m, hm⟩ := h
  rcases Deep.open_slice Try.underlying42 hm with ⟨hcs, _⟩ | ⟨a, l, c, k, n, D, Pl, hcs, _, hl, hc, hk, _, hi⟩
  · simp [Value.cells] at hcs
    obtain ⟨rfl, rfl, rfl⟩ := hcs
    exact ⟨[], rfl, Sees.nothing _ _ _ _, by omega, by omega, fun l h => by simp at h⟩
  · simp [Value.cells] at hcs
    obtain ⟨rfl, rfl, rfl⟩ := hcs
    have hkc : k = cap := by simpa using hk
    subst hkc
    rw [show Try.prog.cellsOf 9 = 1 by kernel_rfl] at hi
    have each : ∀ i, i < k → ∃ v : List UInt8, v.length ≤ 9223372036854775807 ∧ W.cell? (a.add (i * 1)) = some (.string (txt v)) := by
      intro i hik
      obtain ⟨cs', h1, h2⟩ := hi i hik
      obtain ⟨s, hs, _, hsl⟩ := DataW.trod_string Try.underlying9 h2
      subst hs
      refine ⟨s.data.toList, by unfold maxLen at hsl; rw [ba_len]; exact hsl, ?_⟩
      obtain ⟨_, _, hat⟩ := World.cells?_some h1
      have := hat 0 (by omega)
      rw [txt_of]
      simpa [Addr.add] using this
    obtain ⟨f, hf⟩ := Deep.choose_lt (α := List UInt8) (p := fun i v => v.length ≤ 9223372036854775807 ∧ W.cell? (a.add (i * 1)) = some (.string (txt v))) each
    refine ⟨(List.range len).map f, by simp, ?_, hl, by unfold maxLen at hc; omega, ?_⟩
    · refine ⟨by rw [strs_length]; simp, fun h0 => ?_⟩
      obtain ⟨b, off, spot⟩ := a
      have hc0 := (hf 0 (by omega)).2
      rw [show ((⟨b, off, spot⟩ : Addr).add (0 * 1)) = ⟨b, off, spot⟩ by simp [Addr.add]] at hc0
      have hspot : spot = none := by simpa [Addr.add] using World.cell?_spot hc0
      subst hspot
      have hb := World.block_lt_of_cell? W ⟨b, off, none⟩ hc0
      refine ⟨b, off, rfl, hb, fun j u hu => ?_⟩
      have hj : j < len := by
        have := (List.getElem?_eq_some_iff.1 hu).1
        rw [strs_length, List.length_map, List.length_range] at this
        exact this
      have hat := strs_at ((List.range len).map f) j (f j) (by rw [List.getElem?_map, List.getElem?_range hj]; rfl)
      rw [hat] at hu
      have := (hf j (by omega)).2
      rw [hu] at this
      rw [Nat.mul_one, add_at] at this
      exact this
    · intro l hl'
      obtain ⟨i, hi, rfl⟩ := List.mem_map.1 hl'
      exact (hf i (by have := List.mem_range.1 hi; omega)).1
end
end Go.Proofs.Ythpmpbipdgianaa
