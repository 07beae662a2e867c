/- The document's digits. -/
import Derived.Test.YtpnojhcjaneleaaAmtS
import Derived.Test.YtpnojhcjaneleaaBitsM
import Derived.OwnWalk
import Derived.Laws.OwnMore
namespace Go.Proofs.Ytpnojhcjaneleaa
open Go.RowKit Go.Fl
set_option maxRecDepth 100000
theorem info_u8 : (Try.prog.info? 5).map (fun i => (i.zero, i.size, i.bytes)) = some (some (.int .u8 0), 1, 1) := by kernel_rfl
/-- Digits as the cells hold them. -/
def dv (xs : List Nat) : List Value := xs.map fun x : Nat => Value.int .u8 (x : Int)
/-- A slice of digits that may be read. -/
structure Bits (w : World) (v : Value) (xs : List Nat) : Prop where
  row : ∃ g off cap, v = .slice (some ⟨g, off, none⟩) xs.length cap ∧ xs.length ≤ cap ∧ cap ≤ 9223372036854775807 ∧ ∀ i, i < xs.length → w.cell? ⟨g, off + i, none⟩ = some (.int .u8 ((xs.getD i 0 : Nat) : Int))
  bin : Bin xs
theorem own_empty8 (w : World) : (w.alloc (.cells #[] 5)).ownsRow w.heap.size 5 1 (.slice (some ⟨w.heap.size, 0, none⟩) 0 0) 0 [] := by
  refine ⟨rfl, Or.inr ⟨w.heap.size, 0, #[], rfl, Nat.le_refl _, (MapKept.heap_alloc w _).1, Nat.le_refl _, Nat.zero_le _, rfl, rfl⟩⟩
theorem bits_of_own {w : World} {base g n cap : Nat} {xs : List Nat} (h : w.ownsRow base 5 1 (.slice (some ⟨g, 0, none⟩) n cap) n (dv xs)) (hl : xs.length = n) (hb : Bin xs) (hc : n ≤ cap) (hm : cap ≤ maxLen) :
    Bits w (.slice (some ⟨g, 0, none⟩) n cap) xs := by
  refine ⟨⟨g, 0, cap, by rw [hl], by omega, hm, ?_⟩, hb⟩
  intro i hi
  rw [Nat.zero_add, h.cellAt i (by omega)]
  unfold dv
  rw [List.getElem?_map, List.getElem?_eq_getElem hi, List.getD_eq_getElem?_getD, List.getElem?_eq_getElem hi]; rfl
theorem dv_snoc (xs : List Nat) (x : Nat) : dv (xs ++ [x]) = dv xs ++ [Value.int .u8 (x : Int)] := by unfold dv; simp
theorem dv_len (xs : List Nat) : (dv xs).length = xs.length := by unfold dv; simp

/-- What digits are made of: a row of the call's own. -/
def Made (w : World) (P : List Nat → Prop) (e : Ending) (w' : World) : Prop := ∃ v xs, e = .returned v ∧ Bits w' v xs ∧ P xs ∧ Kp w w'

theorem digits_any (N : Nat) (hN : N < 18446744073709551616) (w : World) :
    Calls Try.prog 31 #[.int .u64 N] w (Made w fun xs => bval xs = N ∧ xs.length ≤ 64) := by
  obtain ⟨i0, hi, hz0, hz1, hz2⟩ := info_parts info_u8
  have HI := Lib.hid hi
  have HI0 := Lib.hid hz0
  have HI1 := Lib.hid hz1
  have HI2 := Lib.hid hz2
  clear hi hz0 hz1 hz2
  go_enter Try.func31, Try.ntmps31
  go_wp2
  go_loopw [0, 3] (fun n v wr => ∃ (m : Nat) (xs : List Nat), n = .int .u64 (m : Int) ∧ Hid (Bin xs ∧ bval xs + 2 ^ xs.length * m = N ∧ xs.length ≤ 64 ∧ m < 2 ^ (64 - xs.length)) ∧ wr.ownsRow w.heap.size 5 1 v xs.length (dv xs) ∧ Kp w wr ∧ v ≠ .slice none 0 0) (fun n _ _ => (intOf n).toNat)
  case atStart =>
    refine ⟨N, [], rfl, Lib.hid ⟨fun x hx => by simp at hx, by simp [bval], by simp, by simpa using hN⟩, own_empty8 w, (Below.refl _ w).alloc (Nat.le_refl _) _, by simp⟩
  case round =>
    obtain ⟨m, xs, rfl, HR, hown, hk, hv⟩ := hrel
    by_cases hm : m = 0
    · go_wp2
      go_ret
      obtain ⟨g, cap, hg, hc1, hc2⟩ : ∃ g cap, u3 = .slice (some ⟨g, 0, none⟩) xs.length cap ∧ xs.length ≤ cap ∧ cap ≤ maxLen := by
        rcases hown.2 with ⟨h, _⟩ | ⟨g, c, cur, h, _, _, k1, k2, _⟩
        · exact absurd h hv
        · exact ⟨g, c, h, k1, k2⟩
      rw [hg] at hown
      have hr := HR.out
      rw [hm, Nat.mul_zero, Nat.add_zero] at hr
      exact ⟨_, xs, by rw [hg]; rfl, bits_of_own hown rfl hr.1 hc1 hc2, ⟨hr.2.1, hr.2.2.1⟩, hk⟩
    · have hm' : (0 : Int) < (m : Int) := by omega
      have hl : xs.length < 64 := by
        have hr := HR.out
        rcases Nat.lt_or_ge xs.length 64 with g | g
        · exact g
        · have : 64 - xs.length = 0 := by omega
          rw [this, Nat.pow_zero] at hr; omega
      have hmN : m ≤ N := by
        have hr := HR.out
        have : 1 * m ≤ 2 ^ xs.length * m := Nat.mul_le_mul_right _ (Nat.two_pow_pos _)
        omega
      have HV := Lib.hid hv
      have HK := Lib.hid hk
      clear hv hk
      go_wp2_with (at_builtin; refine wpList_append_own _ rfl _ _ 86 rfl w.heap.size 5 i0 (.int .u8 0) 1 1 Try.underlying86 HI.out HI0.out HI1.out HI2.out rfl (by decide) _ xs.length (dv xs) rfl (hown.alloc _) ⟨wr.heap.size, 0, none⟩ 1 1 [.int .u8 ((m % 2 : Nat) : Int)] rfl ?c1 ?c2 ?c3 ?c4 ?c5 ?c6 ?_)
      case c1 => rfl
      case c2 =>
        intro j u hu
        cases j with
        | zero => simp at hu; subst hu; simp [Addr.add, go_sem]
        | succ j => simp at hu
      case c3 => intro u hu; simp at hu; subst hu; rfl
      case c4 => unfold maxLen; omega
      case c5 => omega
      case c6 => have := HK.out.size; simp; omega
      intro v' w1 hown' hg hnil
      go_wp2
      refine ⟨⟨m / 2, xs ++ [m % 2], ?_, ?_, ?_, ?_, ?_⟩, ?_⟩
      · refine congrArg (Value.int IntKind.u64) ?_
        omega
      · have hr := HR.out
        refine Lib.hid ⟨hr.1.snoc (Nat.mod_lt _ (by omega)), ?_, by simp; omega, ?_⟩
        · rw [bval_snoc, List.length_append, List.length_singleton, Nat.pow_succ, Nat.add_assoc, Nat.mul_assoc, ← Nat.mul_add, ← hr.2.1]
          congr 2; omega
        · rw [List.length_append, List.length_singleton]
          have : 2 ^ (64 - xs.length) = 2 * 2 ^ (64 - (xs.length + 1)) := by rw [← Nat.pow_succ']; congr 1; omega
          rw [this] at hr
          omega
      · rw [dv_snoc, List.length_append, List.length_singleton]; exact hown'
      · refine (HK.out.alloc ?_ _).grown hg ?_ ?_
        · exact HK.out.size
        · have := HK.out.size; simp; omega
        · intro k hk
          rcases hown.2 with ⟨h, _⟩ | ⟨g, c, cur, h, hb, _⟩
          · exact absurd h HV.out
          · rw [h] at hk
            have : some g = some k := hk
            injection this with this
            omega
      · intro h
        exact hnil h
      · simp [intOf]; omega
end Go.Proofs.Ytpnojhcjaneleaa
