/- Contracts of appendNumber and appendFloat: the number's, the float's bytes come behind what is owned. -/
import Derived.Test.YtmaeacklloaeaaaWireW
namespace Go.Proofs.Ytmaeacklloaeaaa
open Go.RowKit Go.Fl Go.Wr
set_option linter.unusedVariables false
set_option linter.unusedSimpArgs false

/-- What an append leaves: the bytes bs are owned from B on, and below B nothing has changed. -/
def AppB (w : World) (B : Nat) (bs : List UInt8) (e : Ending) (w' : World) : Prop := ∃ v, e = .returned v ∧ OwnB w' B v bs ∧ StepB B w w'

theorem num_bound (n : Nat) (h : n < 18446744073709551616) : (num n).length ≤ 10 := by
  have : ∀ k n, n < 128 ^ (k + 1) → (num n).length ≤ k + 1 := by
    intro k
    induction k with
    | zero => intro n h; rw [num_lt (by simpa using h)]; simp
    | succ k ih =>
      intro n h
      by_cases g : n < 128
      · rw [num_lt g]; simp
      · rw [num_ge g, List.length_cons]
        have := ih (n / 128) (by rw [Nat.pow_succ] at h; omega)
        omega
  exact this 9 n (Nat.lt_of_lt_of_le h (by decide))

theorem appendNumber_any (B : Nat) (v : Value) (bs : List UInt8) (n : Int) (w : World) (hB : B ≤ w.heap.size) (hv : OwnB w B v bs) (h0 : 0 ≤ n) (h1 : n < 18446744073709551616) (hl : bs.length ≤ 140737488355300) :
    Calls Try.prog 27 #[v, .int .u64 n] w (AppB w B (bs ++ num n.toNat)) := by
  have hb := num_bound n.toNat (by omega)
  have HV := Lib.hid hv
  clear hv
  go_enter Try.func27, Try.ntmps27
  go_wp2
  go_loopw [0, 1] (fun b i wr => ∃ (m : Int) (cs : List UInt8), 0 ≤ m ∧ m ≤ n ∧ i = .int .u64 m ∧ OwnB wr B b cs ∧ StepB B w wr ∧ cs ++ num m.toNat = bs ++ num n.toNat) (fun _ i _ => (intOf i).toNat)
  case atStart => exact ⟨n, bs, h0, by omega, rfl, HV.out, StepB.refl _ _, rfl⟩
  case round =>
    obtain ⟨m, cs, hm, hmn, rfl, hown, hbel, hcs⟩ := hrel
    have hB' := Nat.le_trans hB hbel.below.size
    have hlen : cs.length ≤ 140737488355310 := by
      have := congrArg List.length hcs
      rw [List.length_append, List.length_append] at this
      omega
    have HO := Lib.hid hown
    have HB := Lib.hid hbel
    have HC := Lib.hid hcs
    clear hown hbel hcs
    by_cases g : 128 ≤ m
    · obtain ⟨c, hc, hk⟩ : ∃ c : UInt8, m % 128 + 128 = (c.toNat : Int) ∧ (cs ++ [c]) ++ num (m / 128).toNat = bs ++ num n.toNat := by
        refine ⟨UInt8.ofNat (m.toNat % 128 + 128), by rw [ofNat_toNat (by omega)]; omega, ?_⟩
        rw [← HC.out, num_ge (show ¬ m.toNat < 128 by omega), List.append_assoc, show (m / 128).toNat = m.toNat / 128 by omega]; rfl
      have HI := Lib.hid hc
      have HK := Lib.hid hk
      clear hc hk
      go_wp2_with (at_builtin; refine wpList_app1 rfl (.tmp 7) (.tmp 11) rfl B _ cs rfl HO.out c _ _ rfl (by simp) (by rw [u8_more m (by omega) (by omega)]; exact HI.out) hB' (by omega) ?_)
      intro v' w' hown' hbel'
      have HO' := Lib.hid hown'
      have HB' := Lib.hid (HB.out.trans hbel')
      clear hown' hbel'
      go_wp2
      go_roundw
      case rel => exact ⟨m / 128, _, by omega, by omega, rfl, HO'.out, HB'.out, HK.out⟩
      case measure => simp [intOf]; omega
    · obtain ⟨c, hc, hk⟩ : ∃ c : UInt8, m = (c.toNat : Int) ∧ cs ++ [c] = bs ++ num n.toNat :=
        ⟨UInt8.ofNat m.toNat, by rw [ofNat_toNat (by omega)]; omega, by rw [← HC.out, num_lt (show m.toNat < 128 by omega)]⟩
      have HI := Lib.hid hc
      have HK := Lib.hid hk
      clear hc hk
      go_wp2_with (at_builtin; refine wpList_app1 rfl (.tmp 15) (.tmp 18) rfl B _ cs rfl HO.out c _ _ rfl (by simp) HI.out hB' (by omega) ?_)
      intro v' w' hown' hbel'
      have HO' := Lib.hid hown'
      have HB' := Lib.hid (HB.out.trans hbel')
      clear hown' hbel'
      go_wp2
      go_ret
      exact ⟨v', rfl, by rw [← HK.out]; exact HO'.out, HB'.out⟩

theorem eight_snoc (n j : Nat) (h : j < 8) : (eight n).take (j + 1) = (eight n).take j ++ [UInt8.ofNat (n / 2 ^ (56 - 8 * j))] := by
  have hl : j < (eight n).length := by rw [eight_length]; exact h
  rw [List.take_succ_eq_append_getElem hl]
  congr 2
  simp [eight]

theorem appendFloat_any (B : Nat) (v : Value) (bs : List UInt8) (f : Nat) (w : World) (hB : B ≤ w.heap.size) (hv : OwnB w B v bs) (hf : f < 18446744073709551616) (hl : bs.length ≤ 140737488355300) :
    Calls Try.prog 29 #[v, .float .f64 f] w (AppB w B (bs ++ eight (usu f))) := by
  have hu := usu_lt hf
  have HV := Lib.hid hv
  clear hv
  go_enter Try.func29, Try.ntmps29
  go_wp2_with fail
  refine (usual_any f hf _).mono ?_
  rintro e w1 ⟨rfl, rfl⟩
  generalize usu f = x at *
  go_wp2_with fail
  go_loopw [0, 6] (fun b i wr => ∃ (j : Nat), j ≤ 8 ∧ i = .int .i64 (56 - 8 * (j : Int)) ∧ OwnB wr B b (bs ++ (eight x).take j) ∧ StepB B w1 wr) (fun _ i _ => (intOf i + 8).toNat)
  case atStart => exact ⟨0, by omega, rfl, by simpa using HV.out, StepB.refl _ _⟩
  case round =>
    obtain ⟨j, hj, rfl, hown, hbel⟩ := hrel
    have hB' := Nat.le_trans hB hbel.below.size
    have hlen : (bs ++ (eight x).take j).length ≤ 140737488355310 := by
      rw [List.length_append, List.length_take, eight_length]; omega
    have HO := Lib.hid hown
    have HB := Lib.hid hbel
    clear hown hbel
    by_cases g : j < 8
    · have hs := eight_snoc x j g
      have hs2 : bs ++ (eight x).take (j + 1) = (bs ++ (eight x).take j) ++ [UInt8.ofNat (x / 2 ^ (56 - 8 * j))] := by rw [hs, List.append_assoc]
      obtain ⟨c, hc, hk⟩ : ∃ c : UInt8, ((x : Int) / 2 ^ (56 - 8 * j)) % 256 = (c.toNat : Int) ∧ bs ++ (eight x).take (j + 1) = (bs ++ (eight x).take j) ++ [c] := by
        refine ⟨_, ?_, hs2⟩
        rw [UInt8.toNat_ofNat', pow_cast]
        omega
      have HI := Lib.hid hc
      have HK := Lib.hid hk
      clear hs hs2 hc hk
      generalize bs ++ (eight x).take j = cs at *
      go_wp2_with (at_builtin; refine wpList_app1 rfl (.tmp 14) (.tmp 19) rfl B _ cs rfl HO.out c _ _ rfl (by simp) HI.out hB' (by omega) ?_)
      intro v' w' hown' hbel'
      have HO' := Lib.hid hown'
      have HB' := Lib.hid (HB.out.trans hbel')
      clear hown' hbel'
      go_wp2
      go_roundw
      case rel => exact ⟨j + 1, by omega, by go_num, by rw [HK.out]; exact HO'.out, HB'.out⟩
      case measure => simp [intOf]; omega
    · have e : j = 8 := by omega
      subst e
      have hk : bs ++ (eight x).take 8 = bs ++ eight x := by rw [List.take_of_length_le (by rw [eight_length]; omega)]
      rw [hk] at HO
      go_wp2
      go_ret
      exact ⟨_, rfl, HO.out, HB.out⟩
end Go.Proofs.Ytmaeacklloaeaaa
