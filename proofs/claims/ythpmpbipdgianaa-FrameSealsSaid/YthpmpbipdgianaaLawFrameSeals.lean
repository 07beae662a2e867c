/- Every load has the document's frame, and one that is too long is refused: FrameSeals answers true at every text and number. No condition. -/
import Derived.Test.YthpmpbipdgianaaFrameZ
namespace Go.Proofs.Ythpmpbipdgianaa.frameSeals
open Go.ChangeShapes Go.WideShapes Go.ChangeAt Go.RowKit Go.Fm
set_option linter.unusedVariables false
set_option linter.unusedSimpArgs false

theorem eq_txt (l : List UInt8) : (l == (txt l).toList) = true := by rw [ByteArray.toList_eq, txt_list]; simp
theorem made_noughts (w : World) (n : Nat) : Sees (w.alloc (.cells (madeCells (Value.int .u8 0).cells n) 5)) (w.heap.size + 1) 1 (some ⟨w.heap.size, 0, none⟩) (List.replicate n (0 : UInt8)).length (Lib.byteCells (List.replicate n 0)) := by
  refine ⟨by simp [Lib.byteCells], fun _ => ⟨w.heap.size, 0, rfl, by omega, fun j u hu => ?_⟩⟩
  have hj : j < n := by
    have := (List.getElem?_eq_some_iff.1 hu).1
    simpa [Lib.byteCells] using this
  rw [Nat.zero_add, (Whole.fresh w 5 _).cell j]
  unfold Lib.byteCells at hu
  rw [List.getElem?_map, List.getElem?_replicate, if_pos hj] at hu
  rw [← hu]
  unfold madeCells
  simp [hj, Value.cells]
  rw [Nat.mod_one]; rfl
set_option maxHeartbeats 4000000 in
theorem walk (l : List UInt8) (hl : l.length ≤ 9223372036854775807) (a : Int) (ha : 0 ≤ a ∧ a ≤ 255) (w : World) : Calls Try.prog 4 #[.string (txt l), .int .u8 a] w fun e w' => e = .returned (.bool true) ∧ Below w.heap.size w w' := by
  have HBY := Lib.hid (bytes_any l 2000 w hl (by omega))
  have htl : (l.take 2000).length ≤ 2000 := by rw [List.length_take]; omega
  generalize l.take 2000 = b at *
  obtain ⟨n, hn⟩ : ∃ n : Nat, 65535 + a % 3 = (n : Int) := ⟨(65535 + a % 3).toNat, by omega⟩
  have hn1 : 65535 ≤ n := by omega
  have hn2 : n ≤ 65537 := by omega
  obtain ⟨i0, hi, hz0, hz1, hz2⟩ := info_parts info_byte
  have HMK := Lib.hid (fun w0 => run_make (P := Try.prog) w0 22 5 i0 (.int .u8 0) Try.underlying22 hi hz0 .i64 .i64 (n : Int) (n : Int) (by omega) (by omega) (by rw [hz2]; omega) (by omega))
  go_enter Try.func4, Try.ntmps4
  go_wp2_with fail
  refine HBY.out.mono ?_
  rintro e w1 ⟨g, c, rfl, hc1, hc2, hsee, hb1, -⟩
  have HB1 := Lib.hid hb1
  have HX1 := Lib.hid hsee
  have HZ1 := hb1.size
  have HSE := Lib.hid (seal_any _ _ c b w1 hsee (Nat.le_refl _) hc1 hc2 (fun h => by cases h) (by omega))
  have HRS := Lib.hid (fun w0 => rseal_any b w0 (by omega))
  have hst := eq_txt (frame b)
  clear hb1 hsee
  go_wp2_with fail
  refine HSE.out.mono ?_
  rintro e w2 ⟨v2, rfl, ho2, hb2⟩
  have hfl := frame_length b
  obtain ⟨A2, c2, rfl, hc21, hc22, -⟩ := own_slice0 ho2
  have HB2 := Lib.hid (HB1.out.trans (hb2.mono HZ1))
  have HZ2 := HB2.out.size
  have hcv := conv_bytes b (some ⟨g, 0, none⟩) c w1.heap.size w2 (HX1.out.below hb2)
  have HY2 := Lib.hid (ho2.sees rfl)
  have hcf := fun w0 h => conv_bytes (frame b) A2 c2 w2.heap.size w0 h
  generalize frame b = fr at *
  rw [hfl] at hc21 hcf ⊢
  have HCF := Lib.hid hcf
  clear ho2 hb2 hcf
  go_wp2_with fail
  refine (HRS.out _).mono ?_
  rintro e w3 ⟨rfl, hb3⟩
  have HB3 := Lib.hid (HB2.out.trans (hb3.mono HZ2))
  have HY3 := Lib.hid (HY2.out.below hb3)
  have hz3 := hb3.size
  clear hb3 hcv
  go_wp2_with fail
  refine (awake_any _).mono ?_
  rintro e w4 ⟨rfl, hb4⟩
  have HB4 := Lib.hid (HB3.out.trans (hb4.mono HB3.out.size))
  have HZ4 := HB4.out.size
  have hy4 := HY3.out.below (hb4.mono hz3)
  rw [hfl] at hy4
  have hcf := HCF.out w4 hy4
  clear hy4
  have hmk := HMK.out w4
  simp only [Int.toNat_natCast, hz1, Nat.mul_one] at hmk
  have HMN := Lib.hid (made_noughts w4 n)
  generalize madeCells (Value.int .u8 0).cells n = cs0 at *
  clear hb4 HMK
  by_cases hbig : n ≤ 65536
  · have hse := seal_any _ _ n (List.replicate n (0 : UInt8)) _ HMN.out (by simp) (by simp) (by omega) (fun h => by cases h) (by rw [List.length_replicate]; exact hbig)
    rw [List.length_replicate] at hse
    have hfn := frame_length (List.replicate n (0 : UInt8))
    rw [List.length_replicate] at hfn
    have HSN := Lib.hid hse
    have HFN := Lib.hid hfn
    unfold Seals at HSN
    clear hse hfn
    generalize List.replicate n (0 : UInt8) = rr at *
    generalize frame rr = fn at *
    have hbig2 : (n : Int) ≤ 65536 := by omega
    go_wp2_with fail
    refine HSN.out.mono ?_
    rintro e w5 ⟨v5, rfl, ho5, hb5⟩
    obtain ⟨A5, c5, rfl, hc51, hc52, -⟩ := own_slice0 ho5
    rw [HFN.out] at hc51 ⊢
    have HB5 := Lib.hid ((HB4.out.alloc HZ4 _).trans (hb5.mono (by simp; omega)))
    clear ho5 hb5
    go_wp2_with fail
    go_ret
    exact ⟨rfl, HB5.out⟩
  · have hbig2 : ¬ (n : Int) ≤ 65536 := by omega
    have HSL := Lib.hid (fun w0 => seal_long (some ⟨w4.heap.size, 0, none⟩) n n w0 (by omega))
    go_wp2_with fail
    refine (HSL.out _).mono ?_
    rintro e w5 ⟨rfl, rfl⟩
    go_wp2_with fail
    go_ret
    refine ⟨?_, HB4.out.alloc HZ4 _⟩
    show Ending.returned (.bool (!decide ((n : Int) ≤ 65536))) = _
    rw [decide_eq_false (show ¬ (n : Int) ≤ 65536 by omega)]; rfl

set_option maxRecDepth 100000 in
theorem lifted (os : Os) (started : os.Started) (H : Type) (enc : TypeId × Value → H) :
    ReturnsInHanded {} Try.checked os 4 .any (Rows.frameSealsSpec.pre6 enc Try.prog Try.f4 Rows.frameSealsRow.domain false) (Rows.frameSealsSpec.post enc Try.prog Try.f4 false true false false) := by
  refine returnsInHanded_of_change (C := Try.checked) own started (by kernel_rfl) Try.func4
    (ChangeSpec.witness6 (enc := enc) (C := Try.checked) false ⟨#[], #[.string ⟨#[]⟩, .int .u8 0], []⟩ 8 (by kernel_rfl) (by kernel_rfl) (by kernel_rfl) (by kernel_rfl)) ?_
  intro W base args ds gs before hval0 hW hcnd _
  have hval : ∀ (j : Nat) t v, Try.f4.params[j]? = some t → args[j]? = some v → Value.okWide Try.prog W .any base t v := hval0
  have hW' := hW
  obtain ⟨p, q, hA0, hV, rfl, hfz, hnd⟩ := hW
  have hA : DataW.TrodAll enc Try.prog W 0 (fun _ => true) true Try.f4.params.toList args.toList ds p := hA0
  rw [Try.params4] at hA hval
  obtain ⟨v0, vs0, d0, ds0, p0, q0, hargs, rfl, rfl, h0, r0⟩ := trodAll_cons hA
  obtain ⟨v1, vs1, d1, ds1, p1, q1, rfl, rfl, rfl, h1, r1⟩ := trodAll_cons r0
  obtain ⟨rfl, rfl, rfl⟩ := trodAll_nil r1
  obtain rfl : args = #[v0, v1] := by cases args; simp_all
  obtain ⟨rfl, rfl⟩ := trodVars_none hV
  obtain ⟨a0, rfl⟩ := okWide_string Try.underlying9 (hval 0 9 v0 rfl rfl)
  have w0 : a0.size ≤ maxLen := by
    obtain ⟨m, hm⟩ := h0
    obtain ⟨s, hs, _, hl⟩ := DataW.trod_string Try.underlying9 hm
    simp [Value.cells] at hs
    rw [hs]; exact hl
  obtain ⟨l0, rfl⟩ : ∃ l, a0 = txt l := ⟨a0.data.toList, (txt_of _).symm⟩
  rw [txt_size] at w0; unfold maxLen at w0
  have lt0 : ∀ x ∈ p0, x.block < W.heap.size := by obtain ⟨m, hm⟩ := h0; exact DataW.trod_lt m _ _ _ hm
  obtain ⟨a1, rfl⟩ := okWide_int Try.underlying5 (hval 1 5 v1 rfl rfl)
  have w1 : 0 ≤ a1 ∧ a1 ≤ 255 := by
    obtain ⟨m, hm⟩ := h1
    obtain ⟨s, hs, _, hl⟩ := DataW.trod_int Try.underlying5 hm
    simp [Value.cells] at hs
    rw [hs]; exact bounds_u8 hl
  have lt1 : ∀ x ∈ p1, x.block < W.heap.size := by obtain ⟨m, hm⟩ := h1; exact DataW.trod_lt m _ _ _ hm
  clear hA0 hval0
  simp only [List.append_nil] at hW'
  refine (walk l0 w0 a1 w1 W ).mono fun e W' ⟨he, bel⟩ => ?_
  subst he
  exact ⟨_, rfl, _, _, _, [], _, [], hW', trodAll_mk1 (shut_bool Try.underlying4 _), (trodAll_cons_mk (Below.trod laidOut (by kernel_rfl) (of_decide_eq_true (by kernel_rfl)) h0 bel lt0) (trodAll_cons_mk (Below.trod laidOut (by kernel_rfl) (of_decide_eq_true (by kernel_rfl)) h1 bel lt1) trodAll_mk0)), rfl, bel.frame _, fun h => by cases h⟩

theorem proved : Rows.FrameSealsSaid :=
  OpenClaim.holds_of_wide 4 Try.f4 rfl rfl rfl rfl rfl rfl rfl ⟨rfl, rfl, rfl, rfl, rfl⟩ rfl rfl rfl rfl rfl (by kernel_rfl) Try.func4 (by kernel_rfl)
    (of_decide_eq_true (by kernel_rfl)) (by unfold Func.isWrapper; first | (rw [if_pos (by decide +kernel)]; kernel_rfl) | (rw [if_neg (by decide +kernel)]; exact ⟨rfl, rfl⟩))
    (fun os started H enc _ => lifted os started H enc)
#print axioms proved
end Go.Proofs.Ythpmpbipdgianaa.frameSeals
