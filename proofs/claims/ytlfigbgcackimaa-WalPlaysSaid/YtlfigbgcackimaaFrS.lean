/- Contracts of appendWord, Seal, frameSize, loadOf, Clone, Open. -/
import Derived.Test.YtlfigbgcackimaaFrN
import Derived.Deep.QuietTactic
import Derived.BigQuiet
import Derived.StillTailTactics
namespace Go.Proofs.Ytlfigbgcackimaa
open Go.RowKit Go.Fm
set_option linter.unusedVariables false
set_option linter.unusedSimpArgs false
set_option maxRecDepth 100000

theorem four_cells (n : Nat) (h : n < 4294967296) : Lib.byteCells (four n) = [Value.int .u8 ((n : Int) / 16777216), Value.int .u8 ((n : Int) / 65536 % 256), Value.int .u8 ((n : Int) / 256 % 256), Value.int .u8 ((n : Int) % 256)] := by
  have H : ∀ (a : Nat) (b : Int), b = ((a % 256 : Nat) : Int) → Value.int .u8 ((UInt8.ofNat a).toNat : Int) = Value.int .u8 b := by
    intro a b hb; rw [hb, UInt8.toNat_ofNat']
  simp only [Lib.byteCells, four, List.map_cons, List.map_nil, List.cons.injEq, and_true]
  refine ⟨H _ _ ?_, H _ _ ?_, H _ _ ?_, H _ _ ?_⟩ <;> omega

theorem appw_any (B : Nat) (v : Value) (bs : List UInt8) (n : Nat) (w : World) (hB : B ≤ w.heap.size) (hv : OwnB w B v bs) (hn : n < 4294967296) (hl : bs.length ≤ 140737488350000) :
    Calls Try.prog 63 #[v, .int .u32 (n : Int)] w fun e w' => ∃ v', e = .returned v' ∧ OwnB w' B v' (bs ++ four n) ∧ StepB B w w' := by
  have HC := Lib.hid (four_cells n hn)
  have HV := Lib.hid hv
  clear hv
  go_enter Try.func63, Try.ntmps63
  go_wp2_with (at_builtin; refine wpList_appG rfl (.tmp 5) (.tmp 17) _ 5 _ 1 1 rfl info_byte Try.underlying52 rfl (by decide) B v bs.length (Lib.byteCells bs) rfl (World.ownsRow.alloc HV.out _) (w.heap.size + 1) (some ⟨w.heap.size, 0, none⟩) 4 4 (Lib.byteCells (four n)) rfl ?sees (fun h => by cases h) (byte_one _) (by omega) (by omega) (by simp; omega) ?_)
  case sees =>
    refine seesB_whole (bs := four n) (t := 5) ?_
    rw [HC.out]
    exact Whole.fresh w 5 _
  intro v' w' ho hg
  have HO : Hid (OwnB w' B v' (bs ++ four n)) := Lib.hid (by unfold OwnB; rw [Lib.byteCells_append, List.length_append, four_length]; exact ho)
  have HS : Hid (StepB B w w') := Lib.hid ⟨((Below.refl B w).alloc hB _).grown hg (by simp; omega) fun k hk => (HV.out.lt k hk).1, ((KeepT.refl _ w).alloc _).trans (KeepT.of_own (World.ownsRow.alloc HV.out _) hg)⟩
  clear ho hg
  go_wp2_with fail
  go_ret
  exact ⟨v', rfl, HO.out, HS.out⟩

/-- A slice of a slice. -/
theorem Sees.sub {w : World} {B b off n : Nat} {bs : List UInt8} (h : Sees w B 1 (some ⟨b, off, none⟩) n (Lib.byteCells bs)) (i j : Nat) (hij : i ≤ j) (hj : j ≤ n) :
    Sees w B 1 (some ⟨b, off + i, none⟩) (j - i) (Lib.byteCells ((bs.drop i).take (j - i))) := by
  have hl : bs.length = n := by have := h.1; simpa [Lib.byteCells] using this
  refine ⟨by simp [Lib.byteCells]; omega, fun h0 => ?_⟩
  obtain ⟨b', off', hA, hb, hc⟩ := h.2 (by omega)
  injection hA with hA
  injection hA with hA1 hA2
  subst hA1 hA2
  refine ⟨b, off + i, rfl, hb, fun k u hu => ?_⟩
  rw [Nat.add_assoc]
  refine hc (i + k) u ?_
  unfold Lib.byteCells at hu ⊢
  rw [List.getElem?_map] at hu ⊢
  rw [List.getElem?_take] at hu
  split at hu
  · rw [List.getElem?_drop] at hu; exact hu
  · simp at hu
/-- The same, as the model tells its address: at the end of the room it doesn't move. -/
theorem Sees.subq {w : World} {B b off n : Nat} {bs : List UInt8} (h : Sees w B 1 (some ⟨b, off, none⟩) n (Lib.byteCells bs)) (i j cap : Nat) (hij : i ≤ j) (hj : j ≤ n) (hc : n ≤ cap) :
    Sees w B 1 (if cap = i then some ⟨b, off, none⟩ else some ⟨b, off + i, none⟩) (j - i) (Lib.byteCells ((bs.drop i).take (j - i))) := by
  split
  · rw [show j - i = 0 by omega]; exact Sees.nothing _ _ _ _
  · exact h.sub i j hij hj
theorem opened_short {b : List UInt8} (h : b.length < 8) : opened b = ([], 0, 31) := by unfold opened; rw [if_pos h]
theorem opened_long {b : List UInt8} (h : ¬ b.length < 8) (h2 : 65536 < big (b.take 4)) : opened b = ([], 0, 30) := by unfold opened; rw [if_neg h, if_pos h2]
theorem opened_cut {b : List UInt8} (h : ¬ b.length < 8) (h2 : ¬ 65536 < big (b.take 4)) (h3 : b.length - 8 < big (b.take 4)) : opened b = ([], 0, 31) := by unfold opened; rw [if_neg h, if_neg h2, if_pos h3]
theorem opened_sum {b : List UInt8} (h : ¬ b.length < 8) (h2 : ¬ 65536 < big (b.take 4)) (h3 : ¬ b.length - 8 < big (b.take 4))
    (h4 : big ((b.drop 4).take 4) ≠ crc (b.take 4 ++ (b.drop 8).take (big (b.take 4)))) : opened b = ([], 0, 32) := by unfold opened; rw [if_neg h, if_neg h2, if_neg h3, if_pos h4]
theorem opened_good {b : List UInt8} (h : ¬ b.length < 8) (h2 : ¬ 65536 < big (b.take 4)) (h3 : ¬ b.length - 8 < big (b.take 4))
    (h4 : big ((b.drop 4).take 4) = crc (b.take 4 ++ (b.drop 8).take (big (b.take 4)))) : opened b = ((b.drop 8).take (big (b.take 4)), 8 + big (b.take 4), 0) := by
  unfold opened; rw [if_neg h, if_neg h2, if_neg h3, if_neg (by simpa using h4)]

/-- What frameSize tells. -/
def Sized (w : World) (bs : List UInt8) (e : Ending) (w' : World) : Prop :=
  e = .returned (.tuple #[.int .i64 ((opened bs).2.1 : Nat), .int .i64 (opened bs).2.2]) ∧ Below w.heap.size w w'

theorem fsize_any (B : Nat) (A : Option Addr) (cap : Nat) (bs : List UInt8) (w : World) (hs : Sees w B 1 A bs.length (Lib.byteCells bs)) (h1 : bs.length ≤ cap) (h2 : cap ≤ 9223372036854775807) :
    Calls Try.prog 60 #[.slice A bs.length cap] w (Sized w bs) := by
  by_cases h8 : bs.length < 8
  · have HR := Lib.hid (opened_short h8)
    clear hs
    go_enter Try.func60, Try.ntmps60
    go_wp2_with fail
    go_ret2
    exact ⟨by rw [HR.out]; rfl, Below.refl _ _⟩
  · obtain ⟨b0, off, rfl, hb, hcell⟩ := hs.2 (by omega)
    have HW := Lib.hid (word_any B _ cap bs w hs (by omega) h1 h2)
    have hwl := big_lt (bs.take 4) (by rw [List.length_take]; omega)
    by_cases hlong : 65536 < big (bs.take 4)
    · have HR := Lib.hid (opened_long h8 hlong)
      clear hs hcell
      generalize big (bs.take 4) = x at *
      go_enter Try.func60, Try.ntmps60
      go_wp2_with fail
      refine HW.out.mono ?_
      rintro e w1 ⟨rfl, rfl⟩
      go_wp2_with fail
      go_ret2
      exact ⟨by rw [HR.out]; rfl, Below.refl _ _⟩
    · by_cases hcut : bs.length - 8 < big (bs.take 4)
      · have HR := Lib.hid (opened_cut h8 hlong hcut)
        clear hs hcell
        generalize big (bs.take 4) = x at *
        go_enter Try.func60, Try.ntmps60
        go_wp2_with fail
        refine HW.out.mono ?_
        rintro e w1 ⟨rfl, rfl⟩
        go_wp2_with fail
        go_ret2
        exact ⟨by rw [HR.out]; rfl, Below.refl _ _⟩
      · have HW2 := fun n => word_any B _ (cap - 4) ((bs.drop 4).take (bs.length - 4)) (w.drewN n) (by rw [show ((bs.drop 4).take (bs.length - 4)).length = bs.length - 4 by simp]; exact (hs.drewN n).sub 4 bs.length (by omega) (Nat.le_refl _)) (by simp; omega) (by simp; omega) (by omega)
        have HF := fun n => fsum_any B B _ _ cap (cap - 8) ((bs.drop 0).take (4 - 0)) ((bs.drop 8).take (8 + big (bs.take 4) - 8)) (w.drewN n) (by rw [show ((bs.drop 0).take (4 - 0)).length = 4 - 0 by simp; omega]; exact (hs.drewN n).sub 0 4 (by omega) (by omega))
          (by rw [show ((bs.drop 8).take (8 + big (bs.take 4) - 8)).length = 8 + big (bs.take 4) - 8 by simp; omega]; exact (hs.drewN n).subq 8 (8 + big (bs.take 4)) cap (by omega) (by omega) h1) (by simp; omega) (by omega) (by simp; omega) (by omega)
        simp only [show ((bs.drop 4).take (bs.length - 4)).length = bs.length - 4 by simp, show ((bs.drop 4).take (bs.length - 4)).take 4 = (bs.drop 4).take 4 by rw [List.take_take, Nat.min_eq_left (by omega)]] at HW2
        simp only [show (bs.take 4).length = 4 by simp; omega, show ((bs.drop 8).take (big (bs.take 4))).length = 8 + big (bs.take 4) - 8 by simp; omega, show ((bs.drop 0).take (4 - 0)) = bs.take 4 by simp, show ((bs.drop 8).take (8 + big (bs.take 4) - 8)) = (bs.drop 8).take (big (bs.take 4)) by rw [Nat.add_sub_cancel_left], Nat.add_zero] at HF
        replace HW2 := Lib.hid HW2
        replace HF := Lib.hid HF
        have HR := Lib.hid (opened_sum h8 hlong hcut)
        have HG := Lib.hid (opened_good h8 hlong hcut)
        clear hs hcell
        generalize big ((bs.drop 4).take 4) = y at *
        generalize crc (bs.take 4 ++ (bs.drop 8).take (big (bs.take 4))) = z at *
        generalize hx : big (bs.take 4) = x at *
        by_cases hyz : y = z
        · have hne : ((y : Int) != (z : Int)) = false := by rw [hyz]; simp
          replace HG := Lib.hid (HG.out hyz)
          go_enter Try.func60, Try.ntmps60
          go_wp2_with fail
          refine HW.out.mono ?_
          rintro e w1 ⟨rfl, rfl⟩
          go_wp2_with fail
          have hsl : 8 + x ≤ bs.length := by omega
          have hs8 : 8 ≤ 8 + x := by omega
          rw [show (8 : Int) + (x : Int) = ((8 + x : Nat) : Int) by omega]
          generalize hsz : 8 + x = sz at *
          have q1 : (4 : Int) ≤ (bs.length : Int) := by omega
          have q2 : (4 : Int) ≤ (cap : Int) := by omega
          have q3 : (sz : Int) ≤ (cap : Int) := by omega
          have q4 : (8 : Int) ≤ (sz : Int) := by omega
          have q5 : cap ≠ 4 := by omega
          have q6 : (8 : Int) ≤ (cap : Int) := by omega
          go_quiet (first | (go_at_call 68; exact Calls.quiet_of_same (HW2.out _)) | (go_at_call 64; exact Calls.quiet_of_same (HF.out _)))
          go_wp2_with fail
          all_goals
            go_ret2
            exact ⟨by rw [HG.out]; rfl, drew_below _ _⟩
        · have hne : ((y : Int) != (z : Int)) = true := by simpa using (by omega : ¬ (y : Int) = (z : Int))
          replace HR := Lib.hid (HR.out hyz)
          go_enter Try.func60, Try.ntmps60
          go_wp2_with fail
          refine HW.out.mono ?_
          rintro e w1 ⟨rfl, rfl⟩
          go_wp2_with fail
          have hsl : 8 + x ≤ bs.length := by omega
          have hs8 : 8 ≤ 8 + x := by omega
          rw [show (8 : Int) + (x : Int) = ((8 + x : Nat) : Int) by omega]
          generalize hsz : 8 + x = sz at *
          have q1 : (4 : Int) ≤ (bs.length : Int) := by omega
          have q2 : (4 : Int) ≤ (cap : Int) := by omega
          have q3 : (sz : Int) ≤ (cap : Int) := by omega
          have q4 : (8 : Int) ≤ (sz : Int) := by omega
          have q5 : cap ≠ 4 := by omega
          have q6 : (8 : Int) ≤ (cap : Int) := by omega
          go_quiet (first | (go_at_call 68; exact Calls.quiet_of_same (HW2.out _)) | (go_at_call 64; exact Calls.quiet_of_same (HF.out _)))
          go_wp2_with fail
          all_goals
            go_ret2
            exact ⟨by rw [HR.out]; rfl, drew_below _ _⟩
end Go.Proofs.Ytlfigbgcackimaa
