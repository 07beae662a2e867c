/- The document's key, bit by bit. -/
import Derived.Test.YtjicdbkpklikfaaNumW
namespace Go.Proofs.Ytjicdbkpklikfaa
open Go.RowKit Go.Fl
theorem rkey_any (x : Nat) (hx : x < 18446744073709551616) (w : World) :
    Calls Try.prog 19 #[.float .f64 x] w fun e w' => e = .returned (.int .u64 (key x)) ∧ w' = w := by
  go_enter Try.func19, Try.ntmps19
  go_wp2_with fail
  refine (none_any x hx _).mono ?_
  rintro e w1 ⟨rfl, rfl⟩
  by_cases hn : nan x = true
  · go_wp2
    go_ret
    exact ⟨ret_u64 (by rw [nan_dec x hx, decide_eq_true_eq] at hn; unfold key; rw [if_pos hn]; rfl), rfl⟩
  · have HN : Hid (nan x = false) := by simpa [Hid] using hn
    have hn : nan x = false := by simpa using hn
    go_wp2
    clear hn
    go_loop [4, 5] (fun o i => ∃ k : Nat, k ≤ 64 ∧ i = .int .i64 k ∧ o = .int .u64 ((key x % 2 ^ k : Nat) : Int)) (fun _ i => 64 - (intOf i).toNat)
    case atStart => exact ⟨0, by omega, rfl, by rw [Nat.pow_zero, Nat.mod_one]; rfl⟩
    case round =>
      obtain ⟨k, hk, rfl, rfl⟩ := hrel
      by_cases h64 : k < 64
      · have h1 := and_one x k hx
        have H5 := Lib.hid (step_keep x k hx HN.out h64)
        have H6 := Lib.hid (step_flip x k hx HN.out h64)
        by_cases g : 9223372036854775808 ≤ x ∨ k = 63
        · go_wp2
          all_goals try (exfalso; (try simp only [beq_iff_eq, beq_eq_false_iff_ne] at *); omega)
          all_goals
            refine ⟨⟨k + 1, by omega, by go_num, ?_⟩, by simp [intOf]; omega⟩
            exact congrArg (Value.int IntKind.u64) (H6.out g)
        · go_wp2
          all_goals try (exfalso; (try simp only [beq_iff_eq, beq_eq_false_iff_ne] at *); omega)
          all_goals
            refine ⟨⟨k + 1, by omega, by go_num, ?_⟩, by simp [intOf]; omega⟩
            exact congrArg (Value.int IntKind.u64) (H5.out g)
      · obtain rfl : k = 64 := by omega
        go_wp2
        go_ret
        exact ⟨ret_u64 (by have := Nat.mod_eq_of_lt (key_lt x hx); omega), rfl⟩
end Go.Proofs.Ytjicdbkpklikfaa
