/- Contract of the document's Sum, bit by bit. -/
import Derived.Test.YtlfigbgcackimaaFrS
namespace Go.Proofs.Ytlfigbgcackimaa
open Go.RowKit Go.Fm
set_option linter.unusedVariables false
set_option linter.unusedSimpArgs false
set_option maxRecDepth 100000

/-- 32 bits as cells. -/
def bitsA (f : Nat → Bool) : Array Value := ((List.range 32).map fun i => Value.bool (f i)).toArray
theorem bitsA_at (f : Nat → Bool) (i : Nat) (h : i < 32) : (bitsA f)[i]? = some (.bool (f i)) := by
  unfold bitsA
  simp [List.getElem?_map, List.getElem?_range h]
theorem bitsA_set (f : Nat → Bool) (i : Nat) (b : Bool) : (bitsA f).setIfInBounds i (.bool b) = bitsA (fun j => if j = i then b else f j) := by
  unfold bitsA
  apply Array.ext_getElem?
  intro j
  by_cases hj : j < 32
  · by_cases hi : i = j
    · subst hi
      simp [Array.getElem?_setIfInBounds, hj, List.getElem?_range hj]
    · have : ¬ j = i := fun h => hi h.symm
      simp [Array.getElem?_setIfInBounds, hi, this, List.getElem?_range hj]
  · have : (List.range 32)[j]? = none := List.getElem?_eq_none (by simp; omega)
    simp [Array.getElem?_setIfInBounds, this]
    omega
theorem bitsA_congr {f g : Nat → Bool} (h : ∀ i, i < 32 → f i = g i) : bitsA f = bitsA g := by
  unfold bitsA
  congr 1
  apply List.map_congr_left
  intro i hi
  rw [h i (List.mem_range.1 hi)]

theorem bits_all : bitsA (fun j => decide (j < 32)) = bitsA (4294967295 : Nat).testBit :=
  bitsA_congr fun i hi => by
    rw [show (4294967295 : Nat) = 2 ^ 32 - 1 by decide, Nat.testBit_two_pow_sub_one]
/-- The block of the register, and what stands behind. -/
def RegB (W w : World) (f : Nat → Bool) : Prop := Whole w W.heap.size 124 (bitsA f) ∧ Below W.heap.size W w
theorem RegB.drew {W w : World} {f : Nat → Bool} (h : RegB W w f) : RegB W w.drew f := ⟨h.1, h.2.drew⟩
theorem RegB.cell {W w : World} {f : Nat → Bool} (h : RegB W w f) (i : Nat) (hi : i < 32) : w.cell? ⟨W.heap.size, i, none⟩ = some (.bool (f i)) := by rw [h.1.cell i, bitsA_at f i hi]
theorem RegB.set {W w : World} {f : Nat → Bool} (h : RegB W w f) (i : Nat) (b : Bool) : RegB W (w.setCell ⟨W.heap.size, i, none⟩ (.bool b)) (fun j => if j = i then b else f j) := by
  refine ⟨?_, h.2.setCell (Nat.le_refl _) _⟩
  rw [← bitsA_set]; exact h.1.set i _
theorem RegB.congr {W w : World} {f g : Nat → Bool} (h : RegB W w f) (e : ∀ i, i < 32 → f i = g i) : RegB W w g := ⟨by rw [← bitsA_congr e]; exact h.1, h.2⟩

/-- A byte's bits taken in, one by one. -/
theorem take_bit (c x k j : Nat) : (c ^^^ x % 2 ^ (k + 1)).testBit j = if j = k then ((c ^^^ x % 2 ^ k).testBit k != x.testBit k) else (c ^^^ x % 2 ^ k).testBit j := by
  rw [Nat.testBit_xor, Nat.testBit_mod_two_pow]
  split
  · rename_i h; subst h
    rw [Nat.testBit_xor, Nat.testBit_mod_two_pow]
    simp
  · rename_i h
    rw [Nat.testBit_xor, Nat.testBit_mod_two_pow]
    rw [show decide (j < k + 1) = decide (j < k) by rw [decide_eq_decide]; omega]

theorem ba_at (s : ByteArray) (k : Nat) (h : k < s.size) : s.data.toList[k]? = some (s[k]'h) := by
  have h' : k < s.data.size := h
  rw [Array.getElem?_toList, Array.getElem?_eq_getElem h']; rfl
theorem reg_ba (s : ByteArray) (k : Nat) (h : k < s.size) : reg 4294967295 (s.data.toList.take (k + 1)) = down (reg 4294967295 (s.data.toList.take k) ^^^ (s[k]'h).toNat) := reg_snoc _ _ _ _ (ba_at s k h)
theorem u8_bit (x m : Nat) (hx : x < 256) : (bits .and .u8 ((x : Int) / 2 ^ m) 1 == 1) = x.testBit m := by
  have e : (x : Int) / 2 ^ m = ((x / 2 ^ m : Nat) : Int) := by rw [Int.natCast_ediv, Int.natCast_pow]; rfl
  have hl : x / 2 ^ m < 256 := Nat.lt_of_le_of_lt (Nat.div_le_self _ _) hx
  have h := u8_and_nat (x / 2 ^ m) 1 hl (by decide)
  rw [Nat.and_one_is_mod] at h
  rw [e, show (1 : Int) = ((1 : Nat) : Int) from rfl, h, Nat.testBit_eq_decide_div_mod_eq, Bool.eq_iff_iff, beq_iff_eq, decide_eq_true_eq]
  omega
theorem i64_bit (x m : Nat) (hx : x < 9223372036854775808) : (bits .and .i64 ((x : Int) / 2 ^ m) 1 == 1) = x.testBit m := by
  have e : (x : Int) / 2 ^ m = ((x / 2 ^ m : Nat) : Int) := by rw [Int.natCast_ediv, Int.natCast_pow]; rfl
  have hl : x / 2 ^ m < 9223372036854775808 := Nat.lt_of_le_of_lt (Nat.div_le_self _ _) hx
  rw [e, Nat.testBit_eq_decide_div_mod_eq]
  generalize x / 2 ^ m = a at *
  have b : (BitVec.ofInt 64 (a : Int)).toNat = a := by rw [BitVec.toNat_ofInt]; simp; omega
  have c : bits .and .i64 (a : Int) 1 = IntKind.i64.wrap ((BitVec.ofInt 64 (a : Int) &&& 1#64).toNat : Int) := rfl
  have h : bits .and .i64 (a : Int) 1 = ((a % 2 : Nat) : Int) := by
    rw [c, BitVec.toNat_and, b, show (1#64).toNat = 1 from rfl, Nat.and_one_is_mod, IntKind.wrap_i64]
    omega
  rw [h, Bool.eq_iff_iff, beq_iff_eq, decide_eq_true_eq]
  omega
theorem worth_lt (c n : Nat) : worth c.testBit n < 2 ^ n := by have := worth_bits c n; omega
/-- One place down, bit by bit. -/
theorem down_bit (y j i : Nat) : (if i < j + 1 then y.testBit (i + 1) else y.testBit i) = if i = j then (if j + 1 < j then y.testBit (j + 1 + 1) else y.testBit (j + 1)) else if i < j then y.testBit (i + 1) else y.testBit i := by
  by_cases h : i = j
  · subst h
    rw [if_pos (by omega), if_pos rfl, if_neg (by omega)]
  · by_cases h2 : i < j
    · simp [h, h2, show i < j + 1 by omega]
    · simp [h, h2, show ¬ i < j + 1 by omega]
theorem half_bit (y i : Nat) (hy : y < 4294967296) (hi : i < 32) : (if i = 31 then false else if i < 31 then y.testBit (i + 1) else y.testBit i) = (y / 2).testBit i := by
  rw [Nat.testBit_div_two]
  by_cases h : i = 31
  · subst h
    rw [if_pos rfl]
    exact (Nat.testBit_lt_two_pow (i := 32) (by omega)).symm
  · rw [if_neg h, if_pos (by omega)]
theorem poly_full (y : Nat) : y ^^^ 3988292384 % 2 ^ 32 = y ^^^ 3988292384 := by rw [Nat.mod_eq_of_lt (by decide)]

theorem ba_len (s : ByteArray) : s.data.toList.length = s.size := rfl
theorem rsum_any (s : ByteArray) (w : World) (hs : s.size ≤ 9223372036854775807) :
    Calls Try.prog 70 #[.string s] w fun e w' => e = .returned (.int .u32 (crc s.data.toList : Nat)) ∧ Below w.heap.size w w' := by
  go_enter Try.func70, Try.ntmps70
  go_wp2_with fail
  go_loopw [4] (fun i wr => ∃ k : Nat, k ≤ 32 ∧ i = .int .i64 (k : Int) ∧ RegB w wr (fun j => decide (j < k))) (fun i _ => 32 - (intOf i).toNat)
  case atStart => exact ⟨0, by omega, rfl, Whole.fresh w 124 _, (Below.refl w.heap.size w).alloc (Nat.le_refl _) _⟩
  case round =>
    obtain ⟨k, hk, rfl, hreg⟩ := hrel
    by_cases hlt : k < 32
    · have g0 := hreg.cell k hlt
      have g1 := hreg.1.free k
      have HW := Lib.hid ((hreg.set k true).congr (g := fun j => decide (j < k + 1)) fun i hi => by
        by_cases h : i = k
        · simp [h]
        · simp only [h, if_false]; rw [decide_eq_decide]; omega)
      clear hreg
      go_wp2_with fail
      go_roundw
      case rel => exact ⟨k + 1, by omega, rfl, HW.out⟩
      case measure => simp [intOf]; omega
    · obtain rfl : k = 32 := by omega
      have HR : Hid (RegB w wr (4294967295 : Nat).testBit) := Lib.hid ⟨by rw [← bits_all]; exact hreg.1, hreg.2⟩
      clear hreg
      go_wp2_with fail
      go_loopw [5] (fun i wr => ∃ k : Nat, k ≤ s.size ∧ i = .int .i64 (k : Int) ∧ RegB w wr (reg 4294967295 (s.data.toList.take k)).testBit) (fun i _ => s.size - (intOf i).toNat)
      case atStart => exact ⟨0, by omega, rfl, HR.out⟩
      case round =>
        clear HR
        obtain ⟨k, hk, rfl, hreg⟩ := hrel
        by_cases hlt : k < s.size
        · have HR := Lib.hid hreg
          clear hreg
          have hxl : (s[k]'hlt).toNat < 256 := (s[k]'hlt).toNat_lt
          have HN := Lib.hid (reg_ba s k hlt)
          have hcl := reg_lt (s.data.toList.take k) (c := 4294967295) (by omega)
          generalize reg 4294967295 (s.data.toList.take k) = c at *
          go_wp2_with fail
          go_loopw [6] (fun i wr' => ∃ m : Nat, m ≤ 8 ∧ i = .int .i64 (m : Int) ∧ RegB w wr' (c ^^^ (s[k]'hlt).toNat % 2 ^ m).testBit) (fun i _ => 8 - (intOf i).toNat)
          case atStart => exact ⟨0, by omega, rfl, by rw [Nat.pow_zero, Nat.mod_one, Nat.xor_zero]; exact HR.out⟩
          case round =>
            obtain ⟨m, hm, rfl, hreg⟩ := hrel
            by_cases hm8 : m < 8
            · have g0 := hreg.cell m (by omega)
              have g1 := hreg.1.free m
              have HW := Lib.hid hreg
              have HBT := Lib.hid (u8_bit (s[k]'hlt).toNat m hxl)
              clear hreg
              go_wp2_with fail
              go_region
              go_wp2_with fail
              go_roundw
              case rel =>
                refine ⟨m + 1, by omega, rfl, ((HW.out.set m _).congr fun i hi => ?_).drew⟩
                rw [take_bit]
                by_cases h : i = m
                · simp only [h, if_true]
                  rw [Nat.testBit_xor, Nat.testBit_mod_two_pow]
                  have := HBT.out
                  rw [this]
                  simp [bne]
                · simp only [h, if_false]
              case measure => simp [intOf]; omega
            · obtain rfl : m = 8 := by omega
              have HD : Hid (RegB w wr (c ^^^ (s[k]'hlt).toNat).testBit) := Lib.hid (by
                rw [Nat.mod_eq_of_lt (show (s[k]'hlt).toNat < 2 ^ 8 by omega)] at hreg
                exact hreg)
              have hq : c ^^^ (s[k]'hlt).toNat < 4294967296 := turn_lt _ hcl
              generalize c ^^^ (s[k]'hlt).toNat = q at *
              clear hreg
              go_wp2_with fail
              go_loopw [7] (fun i wr' => ∃ m : Nat, m ≤ 8 ∧ i = .int .i64 (m : Int) ∧ RegB w wr' (shs m q).testBit) (fun i _ => 8 - (intOf i).toNat)
              case atStart => exact ⟨0, by omega, rfl, HD.out⟩
              case round =>
                clear HD
                obtain ⟨m, hm, rfl, hreg⟩ := hrel
                by_cases hm8 : m < 8
                · have hl := shs_lt hq m
                  have HS : Hid (shs (m + 1) q = sh (shs m q)) := Lib.hid rfl
                  generalize shs m q = y at *
                  have g0 := hreg.cell 0 (by omega)
                  generalize hlo : y.testBit 0 = lo at g0
                  rw [Nat.testBit_zero] at hlo
                  have HLO := Lib.hid hlo
                  have HW := Lib.hid hreg
                  clear hreg hlo
                  go_wp2_with fail
                  go_loopw [9] (fun i wr' => ∃ j : Nat, j ≤ 31 ∧ i = .int .i64 (j : Int) ∧ RegB w wr' (fun i => if i < j then y.testBit (i + 1) else y.testBit i)) (fun i _ => 31 - (intOf i).toNat)
                  case atStart => exact ⟨0, by omega, rfl, HW.out.congr fun i hi => by simp⟩
                  case round =>
                    clear HW
                    obtain ⟨j, hj, rfl, hreg⟩ := hrel
                    by_cases hj31 : j < 31
                    · have g1 := hreg.cell (j + 1) (by omega)
                      have g2 := hreg.1.free j
                      have g3 := hreg.cell j (by omega)
                      have HW := Lib.hid hreg
                      rw [if_neg (by omega)] at g1
                      clear hreg
                      go_wp2_with fail
                      go_roundw
                      case rel =>
                        refine ⟨j + 1, by omega, rfl, (HW.out.set j _).congr fun i hi => ?_⟩
                        by_cases h : i = j
                        · subst h; rw [if_pos rfl, if_pos (by omega)]
                        · rw [if_neg h]
                          by_cases h2 : i < j
                          · rw [if_pos h2, if_pos (by omega)]
                          · rw [if_neg h2, if_neg (by omega)]
                      case measure => simp [intOf]; omega
                    · obtain rfl : j = 31 := by omega
                      have g1 := hreg.cell 31 (by omega)
                      have g2 := hreg.1.free 31
                      have HW := Lib.hid ((hreg.set 31 false).congr (g := (y / 2).testBit) fun i hi => half_bit y i hl hi)
                      clear hreg
                      have HSH : Hid (sh y = if y % 2 = 1 then y / 2 ^^^ 3988292384 else y / 2) := Lib.hid rfl
                      have hy2 : y / 2 < 4294967296 := by omega
                      generalize hzz : y / 2 = z at *
                      clear hzz
                      go_wp2_with fail
                      rw [show decide ((m : Int) < 8) = true by rw [decide_eq_true_eq]; omega]
                      go_loopw [10] (fun i wr' => ∃ j : Nat, j ≤ 32 ∧ i = .int .i64 (j : Int) ∧ (lo = false → j = 0) ∧ RegB w wr' (z ^^^ 3988292384 % 2 ^ j).testBit) (fun i _ => 32 - (intOf i).toNat)
                      case atStart => exact ⟨0, by omega, rfl, fun _ => rfl, by rw [Nat.pow_zero, Nat.mod_one, Nat.xor_zero]; exact HW.out⟩
                      case round =>
                        clear HW
                        obtain ⟨j, hj, rfl, hj0, hreg⟩ := hrel
                        cases lo with
                        | true =>
                          have hodd : y % 2 = 1 := by simpa using HLO.out
                          by_cases hj32 : j < 32
                          · have g1 := hreg.cell j hj32
                            have g2 := hreg.1.free j
                            have HW := Lib.hid hreg
                            have HBT := Lib.hid (i64_bit 3988292384 j (by omega))
                            clear hreg
                            go_wp2_with fail
                            go_roundw
                            case rel =>
                              iterate 19 apply Exists.intro
                              refine ⟨?_, rfl⟩
                              refine ⟨j + 1, by omega, rfl, (fun h => by cases h), (HW.out.set j _).congr fun i hi => ?_⟩
                              rw [take_bit]
                              by_cases h : i = j
                              · simp only [h, if_true]
                                rw [Nat.testBit_xor, Nat.testBit_mod_two_pow]
                                have := HBT.out
                                rw [show ((3988292384 : Nat) : Int) = 3988292384 from rfl] at this
                                rw [this]
                                simp [bne]
                              · simp only [h, if_false]
                            case measure => simp [intOf]; omega
                          · obtain rfl : j = 32 := by omega
                            rw [poly_full] at hreg
                            have HW := Lib.hid hreg
                            clear hreg
                            have HQ : Hid (shs (m + 1) q = z ^^^ 3988292384) := Lib.hid (by rw [HS.out, HSH.out, if_pos hodd])
                            go_wp2_with fail
                            go_roundw
                            case rel => exact ⟨m + 1, by omega, rfl, by rw [HQ.out]; exact HW.out⟩
                            case measure => simp [intOf]; omega
                        | false =>
                          have hodd : ¬ y % 2 = 1 := by simpa using HLO.out
                          obtain rfl := hj0 rfl
                          rw [Nat.pow_zero, Nat.mod_one, Nat.xor_zero] at hreg
                          have HW := Lib.hid hreg
                          clear hreg
                          have HQ : Hid (shs (m + 1) q = z) := Lib.hid (by rw [HS.out, HSH.out, if_neg hodd])
                          go_wp2_with fail
                          go_roundw
                          case rel => exact ⟨m + 1, by omega, rfl, by rw [HQ.out]; exact HW.out⟩
                          case measure => simp [intOf]; omega
                · obtain rfl : m = 8 := by omega
                  rw [shs_8, ← HN.out] at hreg
                  have HW := Lib.hid hreg
                  clear hreg
                  go_wp2_with fail
                  go_roundw
                  case rel => exact ⟨k + 1, by omega, rfl, HW.out⟩
                  case measure => simp [intOf]; omega
        · obtain rfl : k = s.size := by omega
          rw [List.take_of_length_le (Nat.le_of_eq (ba_len s))] at hreg
          have hcl := reg_lt s.data.toList (c := 4294967295) (by omega)
          have HCR : Hid (crc s.data.toList = worth (reg 4294967295 s.data.toList).testBit 32) := Lib.hid (worth_crc _ hcl).symm
          generalize reg 4294967295 s.data.toList = c at *
          have HW := Lib.hid hreg
          clear hreg
          go_wp2_with fail
          go_loopw [11, 12] (fun o i wr' => ∃ k : Nat, k ≤ 32 ∧ i = .int .i64 (k : Int) ∧ o = .int .u32 ((worth c.testBit k : Nat) : Int) ∧ RegB w wr' c.testBit) (fun _ i _ => 32 - (intOf i).toNat)
          case atStart => exact ⟨0, by omega, rfl, rfl, HW.out⟩
          case round =>
            clear HW
            obtain ⟨k, hk, rfl, rfl, hreg⟩ := hrel
            by_cases hk32 : k < 32
            · have g1 := hreg.cell k hk32
              have HW := Lib.hid hreg
              clear hreg
              have hw1 := worth_lt c (k + 1)
              have HWS : Hid (worth c.testBit (k + 1) = worth c.testBit k + if c.testBit k then 0 else 2 ^ k) := Lib.hid rfl
              have hp : 2 ^ (k + 1) ≤ 4294967296 := Nat.pow_le_pow_right (n := 2) (by omega) (show k + 1 ≤ 32 by omega)
              rw [HWS.out] at hw1
              generalize worth c.testBit k = o at *
              cases hb : c.testBit k with
              | true =>
                rw [hb] at g1 HWS
                go_wp2_with fail
                go_roundw
                case rel => exact ⟨k + 1, by omega, rfl, by rw [HWS.out]; rfl, HW.out⟩
                case measure => simp [intOf]; omega
              | false =>
                rw [hb] at g1 HWS hw1
                simp only [Bool.false_eq_true, if_false] at hw1
                go_wp2_with fail
                go_roundw
                case rel =>
                  refine ⟨k + 1, by omega, rfl, ?_, HW.out⟩
                  rw [HWS.out, show (2 : Int) ^ k = ((2 ^ k : Nat) : Int) by rw [Int.natCast_pow]; rfl]
                  simp only [Bool.false_eq_true, if_false]
                  have hp2 := Nat.pow_succ (n := 2) (m := k)
                  generalize 2 ^ k = pk at *
                  congr 1
                  omega
                case measure => simp [intOf]; omega
            · obtain rfl : k = 32 := by omega
              rw [← HCR.out]
              have HW := Lib.hid hreg
              clear hreg
              go_wp2_with fail
              go_ret
              exact ⟨rfl, HW.out.2⟩
end Go.Proofs.Ytlfigbgcackimaa
