/- Contracts of the document's Four, Seal, Open. -/
import Derived.Test.YtlfigbgcackimaaFrR
import Derived.Test.YtlfigbgcackimaaFrO
namespace Go.Proofs.Ytlfigbgcackimaa
open Go.RowKit Go.Fm
set_option linter.unusedVariables false
set_option linter.unusedSimpArgs false
set_option maxRecDepth 100000

theorem txt_add (l m : List UInt8) : txt l ++ txt m = txt (l ++ m) := by unfold txt; rw [ByteArray.mk_append_mk]
theorem add_fits (l m : List UInt8) (h : l.length + m.length ≤ 9223372036854775807) : ¬ 9223372036854775807 < (txt l).size + (txt m).size := by
  rw [txt_size, txt_size]; omega
theorem txt_inj {l m : List UInt8} (h : txt l = txt m) : l = m := by rw [← txt_list l, h, txt_list]

theorem rfour_any (n : Nat) (hn : n < 4294967296) (w : World) :
    Calls Try.prog 69 #[.int .u32 (n : Int)] w fun e w' => e = .returned (.string (txt (four n))) ∧ Below w.heap.size w w' := by
  have HC := Lib.hid (four_cells n hn)
  have hcv : (convert 52 9 (.slice (some ⟨w.heap.size, 0, none⟩) 4 4)).run Try.prog (w.alloc (.cells #[Value.int .u8 ((n : Int) / 16777216), Value.int .u8 ((n : Int) / 65536 % 256), Value.int .u8 ((n : Int) / 256 % 256), Value.int .u8 ((n : Int) % 256)] 5)) = .ok (.string (txt (four n))) (w.alloc (.cells #[Value.int .u8 ((n : Int) / 16777216), Value.int .u8 ((n : Int) / 65536 % 256), Value.int .u8 ((n : Int) / 256 % 256), Value.int .u8 ((n : Int) % 256)] 5)) := by
    refine conv_bytes (four n) (some ⟨w.heap.size, 0, none⟩) 4 (w.heap.size + 1) _ (seesB_whole (t := 5) ?_)
    rw [HC.out]
    exact Whole.fresh w 5 _
  go_enter Try.func69, Try.ntmps69
  go_wp2_with fail
  go_ret
  exact ⟨rfl, (Below.refl w.heap.size w).alloc (Nat.le_refl _) _⟩

theorem rseal_long (s : ByteArray) (w : World) (h : 65536 < s.size) :
    Calls Try.prog 62 #[.string s] w fun e w' => e = .returned (.tuple #[.string ⟨#[]⟩, .int .i64 30]) ∧ w' = w := by
  go_enter Try.func62, Try.ntmps62
  go_wp2_with fail
  go_ret2
  exact ⟨rfl, rfl⟩

theorem rseal_any (l : List UInt8) (w : World) (h : l.length ≤ 65536) :
    Calls Try.prog 62 #[.string (txt l)] w fun e w' => e = .returned (.tuple #[.string (txt (frame l)), .int .i64 0]) ∧ Below w.heap.size w w' := by
  have hsz := txt_size l
  have ha1 := txt_add (four l.length) l
  have hz1 := add_fits (four l.length) l (by rw [four_length]; omega)
  have hcr := crc_lt (four l.length ++ l)
  have HF : Hid (txt ((four l.length ++ four (crc (four l.length ++ l))) ++ l) = txt (frame l)) := Lib.hid (by unfold frame; rw [List.append_assoc])
  have HS := Lib.hid (fun w => rsum_any (txt (four l.length ++ l)) w (by rw [txt_size, List.length_append, four_length]; omega))
  rw [txt_list] at HS
  have HR := Lib.hid (rfour_any l.length (by omega))
  generalize hq : crc (four l.length ++ l) = q at *
  have HR2 := Lib.hid (rfour_any q hcr)
  have ha2 := txt_add (four l.length) (four q)
  have hz2 := add_fits (four l.length) (four q) (by rw [four_length, four_length]; omega)
  have ha3 := txt_add (four l.length ++ four q) l
  have hz3 := add_fits (four l.length ++ four q) l (by rw [List.length_append, four_length, four_length]; omega)
  clear hq
  generalize hf1 : four l.length = f1 at *
  generalize four q = f2 at *
  clear hf1
  go_enter Try.func62, Try.ntmps62
  go_wp2_with fail
  refine (HR.out _).mono ?_
  rintro e w1 ⟨rfl, hb1⟩
  have HB1 := Lib.hid hb1
  clear hb1
  go_wp2_with fail
  refine (HS.out _).mono ?_
  rintro e w2 ⟨rfl, hb2⟩
  have HB2 := Lib.hid (HB1.out.trans (hb2.mono HB1.out.size))
  clear hb2
  go_wp2_with fail
  refine (HR2.out _).mono ?_
  rintro e w3 ⟨rfl, hb3⟩
  have HB3 := Lib.hid (HB2.out.trans (hb3.mono HB2.out.size))
  clear hb3
  go_wp2_with fail
  go_ret2
  refine ⟨?_, HB3.out⟩
  rw [← HF.out, List.append_assoc]; rfl

theorem str_same (s t : ByteArray) : (s.toList == t.toList) = decide (s = t) := by
  rw [ByteArray.toList_eq, ByteArray.toList_eq, Bool.eq_iff_iff, beq_iff_eq, decide_eq_true_eq]
  constructor
  · intro h
    rw [← ba_eta s, ← ba_eta t, h]
  · intro h; rw [h]

/-- What the document's Open tells. -/
def ROpens (w : World) (l : List UInt8) (e : Ending) (w' : World) : Prop :=
  e = .returned (.tuple #[.string (txt (opened l).1), .int .i64 ((opened l).2.1 : Nat), .int .i64 (opened l).2.2]) ∧ Below w.heap.size w w'

theorem txt_at (l : List UInt8) (k : Nat) (h : k < (txt l).size) : l[k]? = some ((txt l)[k]'h) := by
  have := ba_at (txt l) k h
  rw [txt_list] at this
  exact this
theorem cut_txt (l : List UInt8) (i j : Nat) (h1 : i ≤ j) (h2 : j ≤ l.length) (J : Int) (hJ : J = (j : Int)) (I : Int) (hI : I = (i : Int)) (w : World) :
    (Instr.slice 9 (.string (txt l)) (some (.int .i64 I)) (some (.int .i64 J)) none).run Try.prog w = .ok (.string (txt ((l.drop i).take (j - i)))) w := by
  subst hJ hI
  rw [run_slice_string w 9 (txt l) .i64 .i64 (i : Int) (j : Int) Try.underlying9 (by omega) (by omega) (by rw [txt_size]; omega)]
  unfold txt
  rw [ByteArray.extract_mk, Int.toNat_natCast, Int.toNat_natCast]
theorem cut_txt_to (l : List UInt8) (j : Nat) (h2 : j ≤ l.length) (J : Int) (hJ : J = (j : Int)) (w : World) :
    (Instr.slice 9 (.string (txt l)) none (some (.int .i64 J)) none).run Try.prog w = .ok (.string (txt (l.take j))) w := by
  subst hJ
  rw [run_slice_string_h w 9 (txt l) Try.underlying9 .i64 (j : Int) (by omega) (by rw [txt_size]; omega)]
  unfold txt
  rw [ByteArray.extract_mk, Int.toNat_natCast, List.drop_zero, Nat.sub_zero]
theorem cut_txt_from (l : List UInt8) (i : Nat) (h2 : i ≤ l.length) (I : Int) (hI : I = (i : Int)) (w : World) :
    (Instr.slice 9 (.string (txt l)) (some (.int .i64 I)) none none).run Try.prog w = .ok (.string (txt (l.drop i))) w := by
  subst hI
  rw [run_slice_string_l w 9 (txt l) Try.underlying9 .i64 (i : Int) (by omega) (by rw [txt_size]; omega), txt_size]
  unfold txt
  rw [ByteArray.extract_mk, Int.toNat_natCast, List.take_of_length_le (by simp)]

/-- The frame of what stands in the load's place is what stands there, just if the sum is right. -/
theorem frame_is (l : List UInt8) (h8 : ¬ l.length < 8) (hx : ¬ l.length - 8 < big (l.take 4)) :
    frame ((l.drop 8).take (big (l.take 4))) = l.take (8 + big (l.take 4)) ↔ big ((l.drop 4).take 4) = crc (l.take 4 ++ (l.drop 8).take (big (l.take 4))) := by
  have hl : ((l.drop 8).take (big (l.take 4))).length = big (l.take 4) := by simp only [List.length_take, List.length_drop]; omega
  have hf : four (big (l.take 4)) = l.take 4 := four_big _ (by simp only [List.length_take]; omega)
  have hf2 : four (big ((l.drop 4).take 4)) = (l.drop 4).take 4 := four_big _ (by simp only [List.length_take, List.length_drop]; omega)
  have hs : l.take (8 + big (l.take 4)) = l.take 4 ++ ((l.drop 4).take 4 ++ (l.drop 8).take (big (l.take 4))) := by
    rw [show 8 + big (l.take 4) = 4 + (4 + big (l.take 4)) by omega, List.take_add, List.take_add, List.drop_drop]
  have hcr := crc_lt (l.take 4 ++ (l.drop 8).take (big (l.take 4)))
  have hbl := big_lt ((l.drop 4).take 4) (by simp only [List.length_take, List.length_drop]; omega)
  rw [hs]
  unfold frame
  rw [hl, hf]
  constructor
  · intro h
    have h := List.append_cancel_left h
    have h := List.append_inj_left h (by rw [four_length]; simp only [List.length_take, List.length_drop]; omega)
    rw [← hf2] at h
    exact (four_inj hcr hbl h).symm
  · intro h
    rw [← h, hf2]

theorem ropen_any (l : List UInt8) (w : World) (hl : l.length ≤ 9223372036854775807) :
    Calls Try.prog 47 #[.string (txt l)] w (ROpens w l) := by
  have hsz := txt_size l
  by_cases h8 : l.length < 8
  · have HR := Lib.hid (opened_short h8)
    go_enter Try.func47, Try.ntmps47
    go_wp2_with fail
    go_ret3
    exact ⟨by rw [HR.out]; rfl, Below.refl _ _⟩
  · go_enter Try.func47, Try.ntmps47
    go_wp2_with fail
    go_loop [5, 6] (fun s i => ∃ k : Nat, k ≤ 4 ∧ i = .int .i64 (k : Int) ∧ s = .int .i64 ((big (l.take k) : Nat) : Int)) (fun _ i => 4 - (intOf i).toNat)
    case atStart => exact ⟨0, by omega, rfl, rfl⟩
    case round =>
      obtain ⟨k, hk, rfl, rfl⟩ := hrel
      by_cases hlt : k < 4
      · have hin : k < (txt l).size := by omega
        have HN := Lib.hid (big_snoc l k _ (txt_at l k hin))
        have hb := big_small l k hlt
        have hx := ((txt l)[k]'hin).toNat_lt
        generalize big (l.take k) = b at *
        go_wp2_with fail
        go_round
        case rel =>
          refine ⟨k + 1, by omega, rfl, ?_⟩
          rw [HN.out]
          congr 1
          omega
        case measure => simp [intOf]; omega
      · obtain rfl : k = 4 := by omega
        have hwl := big_lt (l.take 4) (by rw [List.length_take]; omega)
        by_cases hlong : 65536 < big (l.take 4)
        · have HR := Lib.hid (opened_long h8 hlong)
          generalize big (l.take 4) = x at *
          go_wp2_with fail
          go_ret3
          exact ⟨by rw [HR.out]; rfl, Below.refl _ _⟩
        · by_cases hcut : l.length - 8 < big (l.take 4)
          · have HR := Lib.hid (opened_cut h8 hlong hcut)
            generalize big (l.take 4) = x at *
            go_wp2_with fail
            go_ret3
            exact ⟨by rw [HR.out]; rfl, Below.refl _ _⟩
          · have hfi := frame_is l h8 hcut
            have HR := Lib.hid (opened_sum h8 hlong hcut)
            have HG := Lib.hid (opened_good h8 hlong hcut)
            have hs1 := cut_txt l 8 (8 + big (l.take 4)) (by omega) (by omega) (8 + ((big (l.take 4) : Nat) : Int)) (by omega) 8 rfl
            have hs2 := cut_txt_to l (8 + big (l.take 4)) (by omega) (8 + ((big (l.take 4) : Nat) : Int)) (by omega)
            rw [Nat.add_sub_cancel_left] at hs1
            have HS := Lib.hid (fun w => rseal_any ((l.drop 8).take (big (l.take 4))) w (by simp only [List.length_take]; omega))
            generalize big ((l.drop 4).take 4) = y at *
            generalize crc (l.take 4 ++ (l.drop 8).take (big (l.take 4))) = z at *
            generalize hL : (l.drop 8).take (big (l.take 4)) = L at *
            generalize hM : l.take (8 + big (l.take 4)) = M at *
            generalize hX : big (l.take 4) = x at *
            clear hL hM hX
            by_cases hyz : y = z
            · have hq : txt (frame L) = txt M := by rw [hfi.2 hyz]
              have hc : ((txt (frame L)).toList == (txt M).toList) = true := by rw [hq]; simp
              replace HG := Lib.hid (HG.out hyz)
              clear hfi hq
              go_wp2_with fail
              refine (HS.out _).mono ?_
              rintro e w1 ⟨rfl, hb1⟩
              go_wp2_with fail
              go_ret3
              exact ⟨by rw [HG.out]; rfl, hb1⟩
            · have hc : ((txt (frame L)).toList == (txt M).toList) = false := by
                rw [str_same, decide_eq_false_iff_not]
                exact fun h => hyz (hfi.1 (txt_inj h))
              replace HR := Lib.hid (HR.out hyz)
              clear hfi
              go_wp2_with fail
              refine (HS.out _).mono ?_
              rintro e w1 ⟨rfl, hb1⟩
              go_wp2_with fail
              go_ret3
              exact ⟨by rw [HR.out]; rfl, hb1⟩
end Go.Proofs.Ytlfigbgcackimaa
