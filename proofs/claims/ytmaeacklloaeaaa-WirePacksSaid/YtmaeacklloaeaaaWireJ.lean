/- Contract of awake: what the chapter's examples fix is so. And one contract of Pack for all lists. -/
import Derived.Test.YtmaeacklloaeaaaWireI
import Derived.Test.YtmaeacklloaeaaaWireS
import Derived.Test.YtmaeacklloaeaaaWireQ
import Derived.Lib.SlBytesConst
namespace Go.Proofs.Ytmaeacklloaeaaa
open Go.RowKit Go.Fl Go.Wr
set_option linter.unusedVariables false
set_option linter.unusedSimpArgs false

theorem pack_any (B : Nat) (A : Option Addr) (cap : Nat) (l : List Val) (w : World) (hw : ∀ v ∈ l, v.wf) (hs : SeesV w B A l) (hB : B ≤ w.heap.size) (hc1 : l.length ≤ cap) (hc2 : cap ≤ 9223372036854775807) :
    Calls Try.prog 13 #[.slice A l.length cap] w (Packed w l) := by
  by_cases h : l.length ≤ 1000
  · exact pack_few B A cap l w h hw hs hB hc1 hc2
  · exact pack_many A cap l w (by omega)
theorem rpack_any (B : Nat) (A : Option Addr) (cap : Nat) (l : List Val) (w : World) (hw : ∀ v ∈ l, v.wf) (hs : SeesV w B A l) (hB : B ≤ w.heap.size) (hc1 : l.length ≤ cap) (hc2 : cap ≤ 9223372036854775807) :
    Calls Try.prog 14 #[.slice A l.length cap] w (RPacked w l) := by
  by_cases h : l.length ≤ 1000
  · exact rpack_few B A cap l w h hw hs hB hc1 hc2
  · exact rpack_many A cap l w (by omega)

def vA : Val := ⟨1, 300, 0, 0, ⟨#[]⟩⟩
def vB : Val := ⟨4, 0, 0, 0, ⟨#[104, 105]⟩⟩
def vC : Val := ⟨2, 0, -1, 0, ⟨#[]⟩⟩
theorem valid_A : valid vA = 0 := by decide
theorem valid_B : valid vB = 0 := by decide
theorem enc_A : enc vA = [1, 172, 2] := by
  show Wr.byteOf 1 :: num 300 = _
  rw [num_ge (by omega), num_lt (by omega)]; rfl
theorem enc_B : enc vB = [4, 2, 104, 105] := by
  show Wr.byteOf 4 :: (num 2 ++ [104, 105]) = _
  rw [num_lt (by omega)]; rfl
theorem enc_C : enc vC = [2, 1] := by
  show Wr.byteOf 2 :: num 1 = _
  rw [num_lt (by omega)]; rfl
theorem wf_A : vA.wf := by simp [vA, Val.wf, ByteArray.size]
theorem wf_B : vB.wf := by simp [vB, Val.wf, ByteArray.size]
theorem wf_C : vC.wf := by simp [vC, Val.wf, ByteArray.size]
theorem packE_AB : packE [vA, vB] = 0 := by decide
theorem packB_AB : packB [vA, vB] = [1, 172, 2, 4, 2, 104, 105] := by
  unfold packB; rw [packE_AB, if_pos rfl, encs_cons, encs_cons, enc_A, enc_B]; rfl
theorem rd_C : rdAll 0 0 [2, 1] = ([vC], 0, 0) := by
  have := back [vC] (fun v hv => by simp at hv; subst hv; exact ⟨wf_C, by decide⟩) (by simp)
  rw [encs_cons, enc_C] at this
  exact this
def vD : Val := ⟨1, 5, 0, 0, ⟨#[]⟩⟩
theorem enc_D : enc vD = [1, 5] := by
  show Wr.byteOf 1 :: num 5 = _
  rw [num_lt (by omega)]; rfl
theorem rd_D : rdAll 0 0 [1, 5, 4, 2, 104] = ([], 2, 22) := by
  have h := rdAll_encs [vD] 0 0 [4, 2, 104] (fun v hv => by simp at hv; subst hv; exact ⟨by simp [vD, Val.wf, ByteArray.size], by decide⟩) (by simp)
  have e : rdVal [4, 2, 104] = .err 22 := rdVal_cut (v := vB) wf_B valid_B (p := [4, 2, 104]) (q := [105]) (by rw [enc_B]; rfl) (by simp)
  have e2 : encs [vD] = [1, 5] := by rw [encs_cons, enc_D]; rfl
  rw [rdAll_err (by simp) (by simp) e, e2] at h
  exact h

theorem seesV_whole {w : World} {g : Nat} {t : TypeId} {l : List Val} (h : Whole w g t (rowV l).toArray) : SeesV w (g + 1) (some ⟨g, 0, none⟩) l :=
  ⟨rowV_length l, fun _ => ⟨g, 0, rfl, by omega, fun j u hu => by rw [Nat.zero_add, h.cell j]; simpa using hu⟩⟩
theorem seesB_whole {w : World} {g : Nat} {t : TypeId} {bs : List UInt8} (h : Whole w g t (Lib.byteCells bs).toArray) : Sees w (g + 1) 1 (some ⟨g, 0, none⟩) bs.length (Lib.byteCells bs) :=
  ⟨by simp [Lib.byteCells], fun _ => ⟨g, 0, rfl, by omega, fun j u hu => by rw [Nat.zero_add, h.cell j]; simpa using hu⟩⟩
theorem seesB_mark (w : World) (t : TypeId) (bs : List UInt8) (fr : Nat × Nat) : Sees (w.alloc (.cells (Lib.byteCells bs).toArray t fr)) (w.heap.size + 1) 1 (some ⟨w.heap.size, 0, none⟩) bs.length (Lib.byteCells bs) :=
  ⟨by simp [Lib.byteCells], fun _ => ⟨w.heap.size, 0, rfl, by omega, fun j u hu => by rw [Nat.zero_add, World.cell?_alloc_mark]; simpa using hu⟩⟩
theorem OwnV.sees {w : World} {B : Nat} {A : Option Addr} {n c : Nat} {l : List Val} (h : OwnV w B (.slice A n c) l) (hn : n = l.length) : SeesV w w.heap.size A l := by
  subst hn; exact Sees.own h
theorem OwnB.sees {w : World} {B : Nat} {A : Option Addr} {n c : Nat} {l : List UInt8} (h : OwnB w B (.slice A n c) l) (hn : n = l.length) : Sees w w.heap.size 1 A l.length (Lib.byteCells l) := by
  subst hn; exact Sees.own h

set_option maxHeartbeats 1000000 in
theorem awake_any (w : World) : Calls Try.prog 12 #[] w fun e w' => e = .returned (.bool true) ∧ Below w.heap.size w w' := by
  have hs0 : SeesV (w.alloc (.cells #[.int .i64 1, .int .u64 300, .int .i64 0, .float .f64 0, .string ⟨#[]⟩, .int .i64 4, .int .u64 0, .int .i64 0, .float .f64 0, .string ⟨#[104, 105]⟩] 36)) (w.heap.size + 1) (some ⟨w.heap.size, 0, none⟩) [vA, vB] :=
    seesV_whole (t := 36) (Whole.fresh w 36 _)
  have hwf : ∀ v ∈ [vA, vB], v.wf := by
    intro v hv
    simp at hv
    rcases hv with rfl | rfl
    · exact wf_A
    · exact wf_B
  have HP := Lib.hid (pack_any (w.heap.size + 1) _ 2 [vA, vB] _ hwf hs0 (by simp) (by simp) (by omega))
  clear hs0 hwf
  have kc := fun (w : World) (C : Array Value) (n c : Nat) => Lib.run_convert_bytes_const (P := Try.prog) w 25 5 C n c Try.underlying25 Try.underlying5
  go_enter Try.func12, Try.ntmps12
  go_wp2_with fail
  refine HP.out.mono ?_
  rintro e w1 ⟨v1, rfl, ho1, hb1⟩
  rw [packE_AB]
  rw [packB_AB] at ho1
  obtain ⟨A1, c1, rfl, hc11, hc12⟩ := ho1.slice
  have HB1 := Lib.hid (((Below.refl w.heap.size w).alloc (Nat.le_refl _) _).trans (hb1.mono (by simp)))
  have HO1 := Lib.hid ho1
  clear ho1 hb1
  go_wp2_with fail
  have hs2 : Sees (w1.alloc (.cells #[.int .u8 2, .int .u8 1] 5 (2, 3))) (w1.heap.size + 1) 1 (some ⟨w1.heap.size, 0, none⟩) 2 (Lib.byteCells [2, 1]) := seesB_mark w1 5 [2, 1] (2, 3)
  refine (unpack_any (w1.heap.size + 1) _ 2 [2, 1] _ hs2 (by simp) (by simp) (by omega)).mono ?_
  rintro e w2 ⟨v2, rfl, ho2, hb2⟩
  rw [rd_C] at ho2 ⊢
  obtain ⟨A2, c2, rfl, hc21, hc22⟩ := ho2.slice
  have HB2 := Lib.hid (HB1.out.trans (((Below.refl w1.heap.size w1).alloc (Nat.le_refl _) _).trans (hb2.mono (by simp)) |>.mono HB1.out.size))
  have HO12 := Lib.hid (HO1.out.keep (((Below.refl w1.heap.size w1).alloc (Nat.le_refl _) _).trans (hb2.mono (by simp))) (Nat.le_refl _))
  have HO2 := Lib.hid ho2
  clear ho2 hb2 hs2
  go_wp2_with fail
  have hs3 : Sees (w2.alloc (.cells #[.int .u8 1, .int .u8 5, .int .u8 4, .int .u8 2, .int .u8 104] 5 (5, 6))) (w2.heap.size + 1) 1 (some ⟨w2.heap.size, 0, none⟩) 5 (Lib.byteCells [1, 5, 4, 2, 104]) := seesB_mark w2 5 [1, 5, 4, 2, 104] (5, 6)
  refine (unpack_any (w2.heap.size + 1) _ 5 [1, 5, 4, 2, 104] _ hs3 (by simp) (by simp) (by omega)).mono ?_
  rintro e w3 ⟨v3, rfl, ho3, hb3⟩
  rw [rd_D] at ho3 ⊢
  have hb23 := ((Below.refl w2.heap.size w2).alloc (Nat.le_refl _) (.cells #[.int .u8 1, .int .u8 5, .int .u8 4, .int .u8 2, .int .u8 104] 5 (5, 6))).trans (hb3.mono (by simp))
  have HB3 := Lib.hid (HB2.out.trans (hb23.mono HB2.out.size))
  have HO13 := Lib.hid (HO12.out.keep hb23 (Nat.le_refl _))
  have HO23 := Lib.hid (HO2.out.below hb23 (Nat.le_refl _))
  clear hs3 ho3 hb3 hb23
  have hcv := conv_bytes [1, 172, 2, 4, 2, 104, 105] A1 c1 _ w3 (HO13.out.sees rfl)
  obtain ⟨b0, off, rfl, hb0, hcell⟩ := (HO23.out.sees rfl).cell (k := 0) (v := vC) rfl
  have k2 : w3.cell? ⟨b0, off + 2, none⟩ = some (.int .i64 (-1)) := by
    have := hcell 2 (.int .i64 (-1)) (by omega) rfl
    rw [Nat.zero_mul, Nat.add_zero] at this
    exact this
  clear hcell
  simp only [List.length_cons, List.length_nil] at hcv hc11 hc21
  go_wp2_with fail
  go_ret
  exact ⟨rfl, HB3.out⟩
end Go.Proofs.Ytmaeacklloaeaaa
