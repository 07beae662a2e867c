/- Contract of awake: what the chapter's examples fix is so. -/
import Derived.Test.YthpmpbipdgianaaFrameL
namespace Go.Proofs.Ythpmpbipdgianaa
open Go.RowKit Go.Fm
set_option linter.unusedVariables false
set_option linter.unusedSimpArgs false

theorem frame_a : frame [97] = [0, 0, 0, 1, 229, 140, 151, 146, 97] := by decide +kernel
theorem crc_9 : crc [49, 50, 51, 52, 53, 54, 55, 56, 57] = 3421780262 := by decide +kernel
theorem opened_a : opened [0, 0, 0, 1, 229, 140, 151, 146, 97] = ([97], 9, 0) := by
  have := opened_frame [97] [] (by simp)
  rw [List.append_nil, frame_a] at this
  exact this
theorem scan_12 : scan [1, 2] = ([], 0) := scan_err (by rw [opened_short (show ([1, 2] : List UInt8).length < 8 by simp)]; simp)
theorem scan_a : scan ([0, 0, 0, 1, 229, 140, 151, 146, 97] ++ [1, 2]) = ([[97]], 9) := by
  have h := scan_frame [97] [1, 2] (by simp)
  rw [frame_a, scan_12] at h
  rw [h]; rfl

set_option maxRecDepth 100000 in
set_option maxHeartbeats 1000000 in
theorem awake_any (w : World) : Calls Try.prog 12 #[] w fun e w' => e = .returned (.bool true) ∧ Below w.heap.size w w' := by
  have kc := fun (w : World) (C : Array Value) (n c : Nat) => Lib.run_convert_bytes_const (P := Try.prog) w 22 5 C n c Try.underlying22 Try.underlying5
  have hs1 : Sees (w.alloc (.cells #[.int .u8 97] 5 (1, 2))) (w.heap.size + 1) 1 (some ⟨w.heap.size, 0, none⟩) 1 (Lib.byteCells [97]) := seesB_mark w 5 [97] (1, 2)
  have HS1 := Lib.hid (seal_any _ _ 1 [97] _ hs1 (by simp) (by simp) (by omega) (fun h => by cases h) (by simp))
  clear hs1
  have FA := Lib.hid frame_a
  have OA := Lib.hid opened_a
  have SA := Lib.hid scan_a
  have C9 := Lib.hid crc_9
  go_enter Try.func12, Try.ntmps12
  go_wp2_with fail
  refine HS1.out.mono ?_
  rintro e w1 ⟨v1, rfl, ho1, hb1⟩
  rw [FA.out] at ho1
  have HB1 := Lib.hid (((Below.refl w.heap.size w).alloc (Nat.le_refl _) _).trans (hb1.mono (by simp)))
  have HZ1 := HB1.out.size
  obtain ⟨A1, c1, rfl, hc11, hc12, hn1⟩ := own_slice0 ho1
  generalize hfr : ([0, 0, 0, 1, 229, 140, 151, 146, 97] : List UInt8) = fr at *
  have hfl : fr.length = 9 := by rw [← hfr]; rfl
  have HFR := Lib.hid hfr
  have HN1 := Lib.hid hn1
  rw [hfl] at hc11 ⊢
  have HO1 := Lib.hid ho1
  have HX1 := Lib.hid (ho1.sees rfl)
  have hop := open_any _ A1 c1 fr w1 HX1.out (Nat.le_refl _) (by omega) hc12
  unfold Opens at hop
  rw [OA.out, hfl] at hop
  replace hop := Lib.hid hop
  have hcv1 := fun w0 h => conv_bytes fr A1 c1 w1.heap.size w0 h
  clear ho1 hb1 hfr hn1
  go_wp2_with fail
  refine hop.out.mono ?_
  rintro e w2 ⟨A2, c2, rfl, hc21, hc22, hsee2, hb2⟩
  have HB2 := Lib.hid (HB1.out.trans (hb2.mono HZ1))
  have HZ2 := HB2.out.size
  have HX2 := Lib.hid hsee2
  have HB12 := Lib.hid hb2
  have HZ12 := hb2.size
  have hx12 := fun o => (HX1.out.below hb2).alloc hb2.size o
  rw [hfl] at hx12
  have HX12 := Lib.hid hx12
  clear hb2 hsee2 hx12
  go_wp2_with (at_builtin; refine wpList_appG rfl (.tmp 21) (.tmp 22) _ 5 _ 1 1 rfl info_byte Try.underlying22 rfl (by decide) w2.heap.size _ 0 [] rfl (own_empty w2 5 1) _ A1 9 c1 (Lib.byteCells fr) rfl (HX12.out _) HN1.out (byte_one _) (by omega) (by omega) (by simp) ?_)
  intro v3 w3 ho3 hg3
  have hb3 : Below w2.heap.size w2 w3 := ((Below.refl w2.heap.size w2).alloc (Nat.le_refl _) _).grown hg3 (by simp) fun k hk => by
    have : some w2.heap.size = some k := hk
    injection this with this; omega
  have ho3' : OwnB w3 w2.heap.size v3 fr := by unfold OwnB; rw [hfl]; exact ho3
  have HO3 := Lib.hid ho3'
  have HB3 := Lib.hid (HB2.out.trans (hb3.mono HZ2))
  have HZ3 := HB3.out.size
  have hz3 := hb3.size
  have HX13 := Lib.hid ((HX1.out.below HB12.out).below (hb3.mono HZ12))
  have HX23 := Lib.hid (HX2.out.below hb3)
  have hse : ∀ cs : Array Value, cs.toList = Lib.byteCells [1, 2] → Sees (w3.alloc (.cells cs 5)) (w3.heap.size + 1) 1 (some ⟨w3.heap.size, 0, none⟩) 2 (Lib.byteCells [1, 2]) := fun cs hcs =>
    seesB_whole (bs := [1, 2]) (t := 5) (by rw [← hcs]; exact Whole.fresh w3 5 cs)
  have HSE := Lib.hid hse
  clear ho3 hg3 ho3' hb3 hse
  go_wp2_with (at_builtin; refine wpList_appG rfl (.tmp 23) (.tmp 24) _ 5 _ 1 1 rfl info_byte Try.underlying22 rfl (by decide) w2.heap.size _ fr.length (Lib.byteCells fr) rfl (World.ownsRow.alloc HO3.out _) _ _ 2 2 (Lib.byteCells [1, 2]) rfl (HSE.out _ rfl) (fun h => by cases h) (byte_one _) (by omega) (by omega) (by simp; omega) ?_)
  intro v4 w4 ho4 hg4
  have hb4 : Below w2.heap.size w3 w4 := ((Below.refl w2.heap.size w3).alloc hz3 _).grown hg4 (by simp; omega) fun k hk => (HO3.out.lt k hk).1
  have ho4' : OwnB w4 w2.heap.size v4 (fr ++ [1, 2]) := by unfold OwnB; rw [Lib.byteCells_append, List.length_append, hfl]; exact ho4
  have hfl2 : (fr ++ [1, 2]).length = 11 := by rw [List.length_append, hfl]; rfl
  obtain ⟨g4, c4, rfl, hg41, hg42, hc41, hc42⟩ := ho4'.form (by omega)
  have HB4 := Lib.hid (HB3.out.trans (hb4.mono HZ2))
  have HZ4 := HB4.out.size
  have hz4 := hb4.size
  have hsc := scan_all _ _ c4 (fr ++ [1, 2]) w4 (ho4'.sees rfl) (.inr ⟨g4, 0, rfl, hg42⟩) (Nat.le_refl _) hc41 (by unfold maxLen at hc42; exact hc42) (by omega)
  unfold Scans at hsc
  rw [SA.out] at hsc
  rw [hfl2] at hsc ⊢
  have HSC := Lib.hid hsc
  have HX14 := Lib.hid (HX13.out.below (hb4.mono HZ12))
  have HX24 := Lib.hid (HX23.out.below hb4)
  clear ho4 hg4 ho4' hb4 hsc hfl2
  go_wp2_with fail
  refine HSC.out.mono ?_
  rintro e w5 ⟨h5, g5, cs5, v5, rfl, hsc⟩
  have HB5 := Lib.hid (HB4.out.trans (hsc.below.mono HZ4))
  have HX15 := Lib.hid (HX14.out.below (hsc.below.mono (by omega)))
  have HX25 := Lib.hid (HX24.out.below (hsc.below.mono (by omega)))
  have hz5 := hsc.below.size
  clear hsc
  have hsu := sum_any (w5.heap.size + 1) _ 9 [49, 50, 51, 52, 53, 54, 55, 56, 57] _ (seesB_mark w5 5 [49, 50, 51, 52, 53, 54, 55, 56, 57] (9, 10)) (by simp) (by omega)
  rw [C9.out] at hsu
  replace hsu := Lib.hid hsu
  have hc1 := fun o => hcv1 (w5.alloc o) (HX15.out.alloc (by omega) o)
  have hc2 := fun o => conv_bytes [97] A2 c2 _ (w5.alloc o) (HX25.out.alloc (by omega) o)
  simp only [hfl, List.length_cons, List.length_nil, Nat.zero_add] at hc1 hc2
  have hfs : (⟨fr.toArray⟩ : ByteArray) = ⟨#[0, 0, 0, 1, 229, 140, 151, 146, 97]⟩ := by rw [← HFR.out]
  rw [hfs] at hc1
  clear hfs hcv1
  go_wp2_with fail
  refine hsu.out.mono ?_
  rintro e w6 ⟨rfl, rfl⟩
  go_wp2_with fail
  go_ret
  exact ⟨rfl, HB5.out.alloc HB5.out.size _⟩
end Go.Proofs.Ythpmpbipdgianaa
