/- Contracts of the reader's number, float and text. -/
import Derived.Test.YtmaeacklloaeaaaWireT
namespace Go.Proofs.Ytmaeacklloaeaaa
open Go.RowKit Go.Fl Go.Wr
set_option linter.unusedVariables false
set_option linter.unusedSimpArgs false

/-- What reading something leads to: it is returned, and the place has gone on; or it is given up, with the error. -/
def Reads {α : Type} (got : Got α) (val : α → Value) (w : World) (R : Nat) (bv : Value) (len : Nat) (beg : Int) (e : Ending) (w' : World) : Prop :=
  match got with
  | .ok a r => e = .returned (val a) ∧ Whole w' R 54 #[bv, .int .i64 ((len - r.length : Nat) : Int), .int .i64 beg] ∧ w.grownBy w' (some R)
  | .err x => e = .panicked (fault beg x) ∧ w.grownBy w' (some R)

theorem grow_trans {a b c : World} {r : Option Nat} (h : a.grownBy b r) (k : b.grownBy c r) : a.grownBy c r :=
  ⟨k.os.trans h.os, k.tape.trans h.tape, k.output.trans h.output, Nat.le_trans h.size k.size, fun i hi hne => (k.block i (Nat.lt_of_lt_of_le hi h.size) hne).trans (h.block i hi hne)⟩
theorem grow_refl (w : World) (r : Option Nat) : w.grownBy w r := ⟨rfl, rfl, rfl, Nat.le_refl _, fun _ _ _ => rfl⟩
theorem grow_drewN {a w : World} {r : Option Nat} (h : a.grownBy w r) (n : Nat) : a.grownBy (w.drewN n) r := ⟨h.os, h.tape, h.output, h.size, h.block⟩
theorem grow_below {a w : World} (h : Below a.heap.size a w) (r : Option Nat) : a.grownBy w r := ⟨h.os, h.tape, h.output, h.size, fun i hi _ => h.block i hi⟩
theorem grow_alloc {a w : World} {r : Option Nat} (h : a.grownBy w r) (o : Obj) : a.grownBy (w.alloc o) r :=
  ⟨h.os, h.tape, h.output, Nat.le_trans h.size (by simp), fun i hi hne => (Below.heap_alloc w o i (Nat.lt_of_lt_of_le hi h.size)).trans (h.block i hi hne)⟩
theorem grow_set {a w : World} {r : Option Nat} (h : a.grownBy w r) {p : Addr} (hp : a.heap.size ≤ p.block) (u : Value) : a.grownBy (w.setCell p u) r :=
  ⟨h.os, h.tape, h.output, by simpa [World.setCell] using h.size, fun i hi hne => (Below.heap_setCell w p u i (by omega)).trans (h.block i hi hne)⟩
theorem Sees.grow {w w' : World} {B R size n : Nat} {A : Option Addr} {xs : List Value} (h : Sees w B size A n xs) (k : w.grownBy w' (some R)) (hR : B ≤ R) (hB : B ≤ w.heap.size) : Sees w' B size A n xs :=
  h.keep fun p hp => World.cell?_of_block (k.block p.block (by omega) (fun e => by injection e with e; omega))

theorem or_join (acc c j : Nat) (hj : j ≤ 9) (ha : acc < 2 ^ (7 * j)) (hc : c < 128) (h9 : j = 9 → c ≤ 1) :
    bits .or .u64 (acc : Int) (IntKind.u64.wrap ((c : Int) * 2 ^ (7 * j))) = ((acc + c * 2 ^ (7 * j) : Nat) : Int) ∧ acc + c * 2 ^ (7 * j) < 2 ^ (7 * (j + 1)) ∧ acc + c * 2 ^ (7 * j) < 18446744073709551616 := by
  have hb : c * 2 ^ (7 * j) < 18446744073709551616 ∧ acc + c * 2 ^ (7 * j) < 18446744073709551616 := by
    by_cases g : j = 9
    · subst g
      have h1 := h9 rfl
      have : c = 0 ∨ c = 1 := by omega
      simp only [Nat.reduceMul, Nat.reducePow] at *
      rcases this with rfl | rfl <;> omega
    · have h1 : 2 ^ (7 * j) ≤ 2 ^ 56 := Nat.pow_le_pow_right (by omega) (by omega)
      have h2 : c * 2 ^ (7 * j) ≤ 127 * 2 ^ 56 := Nat.mul_le_mul (by omega) h1
      simp only [Nat.reducePow] at *
      omega
  refine ⟨?_, ?_, hb.2⟩
  · rw [pow_cast, ← Int.natCast_mul, IntKind.wrap_u64, Int.emod_eq_of_lt (by omega) (by omega), u64_or_nat _ _ (by omega) hb.1, Nat.or_comm, nat_join (7 * j) _ acc (Nat.mul_mod_left _ _) ha, Nat.add_comm]
  · rw [pow_up]
    have : c * 2 ^ (7 * j) ≤ 127 * 2 ^ (7 * j) := Nat.mul_le_mul_right _ (by omega)
    omega

theorem step_val (acc ci j : Nat) (hj : j ≤ 9) (ha : acc < 2 ^ (7 * j)) (hc : ci < 256) (h9 : j = 9 → ci % 128 ≤ 1) :
    bits .or .u64 (acc : Int) (IntKind.u64.wrap (IntKind.u64.wrap (bits .andNot .u8 (ci : Int) 128) * 2 ^ (7 * j))) = ((acc + ci % 128 * 2 ^ (7 * j) : Nat) : Int) := by
  rw [u8_low _ (by omega) (by omega), show (ci : Int) % 128 = ((ci % 128 : Nat) : Int) by omega, IntKind.wrap_u64 ((ci % 128 : Nat) : Int), Int.emod_eq_of_lt (by omega) (by omega)]
  exact (or_join acc (ci % 128) j hj ha (by omega) h9).1
theorem step_val9 (acc ci : Nat) (ha : acc < 2 ^ (7 * 9)) (hc : ci < 256) (h9 : ci % 128 ≤ 1) :
    bits .or .u64 (acc : Int) (IntKind.u64.wrap (IntKind.u64.wrap (bits .andNot .u8 (ci : Int) 128) * 9223372036854775808)) = ((acc + ci % 128 * 2 ^ (7 * 9) : Nat) : Int) := by
  have := step_val acc ci 9 (by omega) ha hc (fun _ => h9)
  rw [show (2 : Int) ^ (7 * 9) = 9223372036854775808 by rfl] at this
  exact this

set_option maxRecDepth 100000 in
theorem readNumber (R B : Nat) (b : Option Addr) (cap : Nat) (bs : List UInt8) (pos : Nat) (beg : Int) (w : World) (h : Whole w R 54 #[.slice b bs.length cap, .int .i64 (pos : Int), .int .i64 beg])
    (hR : B ≤ R) (hs : Sees w B 1 b bs.length (Lib.byteCells bs)) (h1 : pos ≤ bs.length) (h2 : bs.length ≤ cap) (h3 : cap ≤ 9223372036854775807) :
    Calls Try.prog 41 #[.pointer (some ⟨R, 0, none⟩)] w (Reads (rdNum 0 0 (bs.drop pos)) (fun n => .int .u64 (n : Int)) w R (.slice b bs.length cap) bs.length beg) := by
  have H := Lib.hid h
  have HS := Lib.hid hs
  have HL := h.lt
  clear h hs
  go_enter Try.func41, Try.ntmps41
  go_wp2
  go_loopw [3, 4] (fun n s wr => ∃ j acc : Nat, j ≤ 9 ∧ pos + j ≤ bs.length ∧ acc < 2 ^ (7 * j) ∧ s = .int .i64 (7 * (j : Int)) ∧ n = .int .u64 (acc : Int) ∧
      Whole wr R 54 #[.slice b bs.length cap, .int .i64 ((pos + j : Nat) : Int), .int .i64 beg] ∧ w.grownBy wr (some R) ∧ rdNum 0 0 (bs.drop pos) = rdNum j acc (bs.drop (pos + j))) (fun _ s _ => (70 - intOf s).toNat)
  case atStart => exact ⟨0, 0, by omega, by omega, by simp, rfl, rfl, H.out, grow_refl _ _, rfl⟩
  case round =>
    obtain ⟨j, acc, hj, hp, hacc, rfl, rfl, hw, hg, hrd⟩ := hrel
    have HW := Lib.hid hw
    have HG := Lib.hid hg
    have HD := Lib.hid hrd
    have HSr := Lib.hid (HS.out.grow hg hR (by omega))
    clear hw hg hrd
    by_cases hend : pos + j < bs.length
    · go_wp2_with fail
      refine (take_ok R B b cap bs (pos + j) 1 beg _ HW.out hR HSr.out (by omega) h2 h3).mono ?_
      rintro e w1 ⟨A, c', rfl, hc1, hc2, hsee, hwh, hgr⟩
      obtain ⟨b1, o1, rfl, hb1, hcs⟩ := hsee.2 (by omega)
      obtain ⟨c, hc⟩ : ∃ c, bs[pos + j]? = some c := ⟨_, List.getElem?_eq_getElem hend⟩
      have hdrop : bs.drop (pos + j) = c :: bs.drop (pos + j + 1) := by
        rw [List.drop_eq_getElem_cons hend]
        rw [List.getElem?_eq_getElem hend] at hc
        injection hc with hc
        rw [hc]
      have hcell := hcs 0 (.int .u8 (c.toNat : Int)) (by rw [hdrop]; rfl)
      rw [Nat.add_zero] at hcell
      have HW1 := Lib.hid hwh
      have HG1 := Lib.hid (grow_trans HG.out hgr)
      have hcl := c.toNat_lt
      have HN : Hid (rdNum 0 0 (bs.drop pos) = if (j = 9 ∧ 1 < c.toNat) ∨ (0 < j ∧ c.toNat = 0) then .err 23
          else if c.toNat < 128 then .ok (acc + c.toNat * 2 ^ (7 * j)) (bs.drop (pos + j + 1)) else rdNum (j + 1) (acc + (c.toNat - 128) * 2 ^ (7 * j)) (bs.drop (pos + j + 1))) := by
        refine Lib.hid ?_
        rw [HD.out, hdrop, rdNum]
      clear hcs hc hdrop hwh hgr hsee HW
      generalize c.toNat = ci at *
      by_cases hlong : (j = 9 ∧ 1 < ci) ∨ (0 < j ∧ ci = 0)
      · have HR := Lib.hid (HN.out.trans (if_pos hlong))
        go_wp2_with (go_at_call 35; refine (fail_any R _ _ beg 23 _ HW1.out).mono ?_; rintro e w2 ⟨rfl, rfl⟩)
        all_goals first
          | (refine bodyPost_panic rfl ?_; rw [HR.out]; exact ⟨rfl, HG1.out⟩)
          | (exfalso; simp only [beq_iff_eq, beq_eq_false_iff_ne, ne_eq] at *; omega)
      · by_cases hlast : ci < 128
        · have HR := Lib.hid (HN.out.trans ((if_neg hlong).trans (if_pos hlast)))
          go_wp2_with (go_at_call 35; refine (fail_any R _ _ beg 23 _ HW1.out).mono ?_; rintro e w2 ⟨rfl, rfl⟩)
          all_goals try (exfalso; simp only [beq_iff_eq, beq_eq_false_iff_ne, ne_eq] at *; omega)
          all_goals
            go_ret
            rw [HR.out]
            refine ⟨ret_u64 ?_, ?_, HG1.out⟩
            · have e : ci % 128 = ci := by omega
              by_cases g9 : j = 9
              · subst g9
                have := step_val9 acc ci hacc (by omega) (by omega)
                rw [e] at this; first | exact this | (exfalso; omega)
              · have := step_val acc ci j hj hacc (by omega) (fun h => by omega)
                rw [e] at this; first | exact this | (exfalso; omega)
            · rw [List.length_drop, show bs.length - (bs.length - (pos + j + 1)) = pos + j + 1 by omega]; exact HW1.out
        · have HR := Lib.hid (HN.out.trans ((if_neg hlong).trans (if_neg hlast)))
          go_wp2_with (go_at_call 35; refine (fail_any R _ _ beg 23 _ HW1.out).mono ?_; rintro e w2 ⟨rfl, rfl⟩)
          all_goals first
            | (go_roundw
               (case rel =>
                 have e : ci % 128 = ci - 128 := by omega
                 have h1 := step_val acc ci j hj hacc (by omega) (fun h => by omega)
                 have h2 := (or_join acc (ci % 128) j hj hacc (by omega) (fun h => by omega)).2.1
                 rw [e] at h1 h2
                 exact ⟨j + 1, acc + (ci - 128) * 2 ^ (7 * j), by omega, by omega, h2, by go_num, by rw [h1], HW1.out, HG1.out, HR.out⟩)
               (case measure => simp [intOf]; omega))
            | (exfalso; simp only [beq_iff_eq, beq_eq_false_iff_ne, ne_eq] at *; omega)
    · have hdrop : bs.drop (pos + j) = [] := List.drop_eq_nil_of_le (by omega)
      have HR : Hid (rdNum 0 0 (bs.drop pos) = .err 22) := Lib.hid (by rw [HD.out, hdrop]; rfl)
      clear hdrop
      go_wp2_with fail
      refine (take_short R b bs.length cap _ beg 1 _ HW.out (by omega) (by omega) (by omega) (by omega) (by omega)).mono ?_
      rintro e w1 ⟨rfl, k, rfl⟩
      go_wp2_with fail
      refine bodyPost_panic rfl ?_
      rw [HR.out]
      exact ⟨rfl, grow_drewN HG.out k⟩
end Go.Proofs.Ytmaeacklloaeaaa
