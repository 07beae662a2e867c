/- Contracts of layer 2's calls on numbers: unsigned, signed, usual; the document's Bits. -/
import Derived.Test.YtmaeacklloaeaaaNumB
import Derived.Test.YtmaeacklloaeaaaWireL
namespace Go.Proofs.Ytmaeacklloaeaaa
open Go.RowKit Go.Fl Go.Wr
set_option linter.unusedVariables false
set_option linter.unusedSimpArgs false

theorem i64_not (i : Int) (h1 : -9223372036854775808 ≤ i) (h2 : i < 9223372036854775808) : bits .xor .i64 (-1) i = -i - 1 := by
  have a : (18446744073709551615#64 ^^^ BitVec.ofInt 64 i).toNat = 18446744073709551615 - (BitVec.ofInt 64 i).toNat := by
    rw [show 18446744073709551615#64 = BitVec.allOnes 64 from rfl, BitVec.allOnes_xor, BitVec.toNat_not]
  have b : (BitVec.ofInt 64 i).toNat = (i % 18446744073709551616).toNat := by rw [BitVec.toNat_ofInt]; rfl
  have c : bits .xor .i64 (-1) i = IntKind.i64.wrap ((18446744073709551615#64 ^^^ BitVec.ofInt 64 i).toNat : Int) := rfl
  rw [c, a, b]
  simp [IntKind.bits, IntKind.signed, IntKind.wrap]
  omega
theorem and1 (n : Int) (h1 : 0 ≤ n) (h2 : n < 18446744073709551616) : bits .and .u64 n 1 = n % 2 := by
  have e := and_one n.toNat 0 (by omega)
  simp at e
  rw [Int.max_eq_left h1] at e
  exact e
@[go_sem] theorem u8_more (n : Int) (h1 : 0 ≤ n) (h2 : n < 18446744073709551616) : bits .or .u8 (n % 256) 128 = n % 128 + 128 := by
  obtain ⟨m, rfl⟩ : ∃ m : Nat, n = m := ⟨n.toNat, by omega⟩
  have e := u8_or_nat (m % 256) 128 (by omega) (by omega)
  rw [show ((m % 256 : Nat) : Int) = (m : Int) % 256 by omega, show ((128 : Nat) : Int) = 128 from rfl] at e
  rw [e]
  have : m % 256 ||| 128 = m % 128 + 128 := by
    have h : m % 256 = m % 128 ∨ m % 256 = m % 128 + 128 := by omega
    rcases h with h | h
    · rw [h, Nat.or_comm, nat_join 7 128 (m % 128) (by decide) (by omega), Nat.add_comm]
    · rw [h, Nat.add_comm (m % 128), ← nat_join 7 128 (m % 128) (by decide) (by omega), Nat.or_assoc, Nat.or_comm (m % 128) 128, ← Nat.or_assoc, Nat.or_self]
  rw [this]; omega
@[go_sem] theorem u8_low (c : Int) (h1 : 0 ≤ c) (h2 : c < 256) : bits .andNot .u8 c 128 = c % 128 := by
  obtain ⟨m, rfl⟩ : ∃ m : Nat, c = m := ⟨c.toNat, by omega⟩
  have e := u8_andNot_nat m 128 (by omega) (by omega)
  rw [show ((128 : Nat) : Int) = 128 from rfl] at e
  rw [e, show 255 - 128 = 127 from rfl, nat_mask7]; omega

theorem unsigned_any (i : Int) (h1 : -9223372036854775808 ≤ i) (h2 : i < 9223372036854775808) (w : World) :
    Calls Try.prog 28 #[.int .i64 i] w fun e w' => e = .returned (.int .u64 (un i)) ∧ w' = w := by
  go_enter Try.func28, Try.ntmps28
  go_wp2
  all_goals
    go_ret
    refine ⟨ret_u64 ?_, rfl⟩
    try simp only [IntKind.wrap_u64]
    first
    | (rw [show (i % 18446744073709551616 * 2) % 18446744073709551616 = ((2 * i + 18446744073709551616).toNat : Int) by omega, xor_all _ (by omega)]; unfold un; rw [if_pos (by omega)]; omega)
    | (unfold un; rw [if_neg (by omega)]; omega)

theorem signed_any (n : Int) (h1 : 0 ≤ n) (h2 : n < 18446744073709551616) (w : World) :
    Calls Try.prog 42 #[.int .u64 n] w fun e w' => e = .returned (.int .i64 (sg n.toNat)) ∧ w' = w := by
  have H := Lib.hid (and1 n h1 h2)
  go_enter Try.func42, Try.ntmps42
  go_wp2
  all_goals
    go_ret
    refine ⟨ret_i64 ?_, rfl⟩
    simp only [bne_iff_ne, bne_eq_false_iff_eq, ne_eq, H.out] at *
    unfold sg
    first
    | (rw [i64_not _ (by omega) (by omega), if_pos (by omega)]; omega)
    | (rw [if_neg (by omega)]; omega)

theorem usual_any (x : Nat) (hx : x < 18446744073709551616) (w : World) :
    Calls Try.prog 38 #[.float .f64 x] w fun e w' => e = .returned (.float .f64 (usu x)) ∧ w' = w := by
  have hk := key_lt x hx
  have H := Lib.hid (usu_key x hx)
  go_enter Try.func38, Try.ntmps38
  go_wp2_with fail
  refine (key_any x hx _).mono ?_
  rintro e w1 ⟨rfl, rfl⟩
  go_wp2_with fail
  refine (of_any _ hk _).mono ?_
  rintro e w1 ⟨rfl, rfl⟩
  go_wp2_with fail
  go_ret
  refine ⟨?_, rfl⟩
  show Ending.returned (.float .f64 (ofBits (key x))) = _
  rw [H.out]

theorem bits2_any (x : Nat) (hx : x < 18446744073709551616) (w : World) :
    Calls Try.prog 26 #[.float .f64 x] w fun e w' => e = .returned (.int .u64 (usu x)) ∧ w' = w := by
  have H : Hid (usu x = if nan x then 9221120237041090561 else x) := Lib.hid rfl
  cases hn : nan x with
  | true =>
    have H2 := Lib.hid hn
    go_enter Try.func26, Try.ntmps26
    go_wp2_with fail
    refine (none_any x hx _).mono ?_
    rintro e w1 ⟨rfl, rfl⟩
    go_wp2_with fail
    go_ret
    refine ⟨ret_u64 ?_, rfl⟩
    rw [H.out, H2.out]; rfl
  | false =>
    have H2 := Lib.hid hn
    go_enter Try.func26, Try.ntmps26
    go_wp2_with fail
    refine (none_any x hx _).mono ?_
    rintro e w1 ⟨rfl, rfl⟩
    go_wp2_with fail
    go_ret
    refine ⟨ret_u64 ?_, rfl⟩
    rw [H.out, H2.out]; rfl
end Go.Proofs.Ytmaeacklloaeaaa
