/- The document's product of digits. -/
import Derived.Test.YtjpalcolhagpcaaAmtD
namespace Go.Proofs.Ytjpalcolhagpcaa
open Go.RowKit Go.Fl
set_option maxRecDepth 100000
theorem madeCells_dv (n : Nat) : (madeCells #[Value.int .u8 0] n).toList = dv (List.replicate n 0) := by
  simp [dv, madeCells, Nat.mod_one, List.map_const']
theorem dv_set (xs : List Nat) (i x : Nat) : (dv xs).set i (.int .u8 (x : Int)) = dv (xs.set i x) := by unfold dv; rw [List.map_set]
theorem dv_get (xs : List Nat) (i : Nat) (h : i < xs.length) : (dv xs)[i]? = some (.int .u8 ((xs.getD i 0 : Nat) : Int)) := by
  unfold dv; rw [List.getElem?_map, List.getElem?_eq_getElem h, List.getD_eq_getElem?_getD, List.getElem?_eq_getElem h]; rfl
theorem Bits.kept {w w' : World} {v : Value} {xs : List Nat} (h : Bits w v xs) (k : Below w.heap.size w w') : Bits w' v xs := by
  obtain ⟨⟨g, off, cap, e, h1, h2, hc⟩, hb⟩ := h
  refine ⟨⟨g, off, cap, e, h1, h2, fun i hi => ?_⟩, hb⟩
  have c := hc i hi
  rw [k.cell (World.block_lt_of_cell? _ _ c)]; exact c

/-- One round of the inner loop, in numbers. -/
theorem round_val (outs b : List Nat) (i k c V0 : Nat) (hk : i + k < outs.length) (hkb : k ≤ b.length)
    (h : bval outs + 2 ^ (i + k) * c = V0 + 2 ^ i * bval (b.take k)) :
    bval (outs.set (i + k) ((outs.getD (i + k) 0 + c + b.getD k 0) % 2)) + 2 ^ (i + (k + 1)) * ((outs.getD (i + k) 0 + c + b.getD k 0) / 2) = V0 + 2 ^ i * bval (b.take (k + 1)) := by
  have s := bval_set outs (i + k) ((outs.getD (i + k) 0 + c + b.getD k 0) % 2) hk
  have t : bval (b.take (k + 1)) = bval (b.take k) + 2 ^ k * b.getD k 0 := by
    by_cases g : k < b.length
    · exact bval_take_succ b k g
    · have e : b.getD k 0 = 0 := by rw [List.getD_eq_getElem?_getD, List.getElem?_eq_none (by omega)]; rfl
      rw [e, List.take_of_length_le (by omega), List.take_of_length_le (by omega)]; omega
  rw [t, Nat.mul_add, ← Nat.mul_assoc (2 ^ i) (2 ^ k), ← Nat.pow_add]
  generalize outs.getD (i + k) 0 = o at *
  generalize b.getD k 0 = y at *
  have e : 2 ^ (i + (k + 1)) = 2 ^ (i + k) * 2 := by rw [← Nat.add_assoc, Nat.pow_succ]
  rw [e]
  generalize 2 ^ (i + k) = p at *
  have d := Nat.div_add_mod (o + c + y) 2
  generalize (o + c + y) % 2 = r at *
  generalize (o + c + y) / 2 = q at *
  have x1 : p * (2 * q + r) = p * o + p * c + p * y := by rw [d, Nat.mul_add, Nat.mul_add]
  rw [Nat.mul_add, ← Nat.mul_assoc] at x1
  omega
/-- At its end nothing is carried. -/
theorem round_end (outs b : List Nat) (i c A : Nat) (hA : A < 2 ^ i) (hb : Bin b)
    (h : bval outs + 2 ^ (i + (b.length + 1)) * c = A * bval b + 2 ^ i * bval b) : c = 0 ∧ bval outs = (A + 2 ^ i) * bval b := by
  have hv := bval_lt hb
  have e : (A + 2 ^ i) * bval b = A * bval b + 2 ^ i * bval b := Nat.add_mul _ _ _
  have l : (A + 2 ^ i) * bval b < 2 ^ (i + (b.length + 1)) := by
    have l1 : A + 2 ^ i < 2 ^ (i + 1) := by rw [Nat.pow_succ]; omega
    have l2 : (A + 2 ^ i) * bval b < 2 ^ (i + 1) * 2 ^ b.length := Nat.mul_lt_mul'' l1 hv
    rw [← Nat.pow_add] at l2
    rw [show i + (b.length + 1) = i + 1 + b.length by omega]; exact l2
  rw [← e] at h
  refine ⟨?_, ?_⟩
  · rcases Nat.eq_zero_or_pos c with z | z
    · exact z
    · have := Nat.le_mul_of_pos_right (2 ^ (i + (b.length + 1))) z; omega
  · rcases Nat.eq_zero_or_pos c with z | z
    · rw [z] at h; omega
    · have := Nat.le_mul_of_pos_right (2 ^ (i + (b.length + 1))) z; omega

end Go.Proofs.Ytjpalcolhagpcaa
