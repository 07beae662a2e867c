/- One byte of a sum or a load that is turned is always told: FrameTurned answers true at every two texts and every turn. No condition. -/
import Derived.Test.YthpmpbipdgianaaFrameZ
namespace Go.Proofs.Ythpmpbipdgianaa.frameTurned
open Go.ChangeShapes Go.WideShapes Go.ChangeAt Go.RowKit Go.Fm
set_option linter.unusedVariables false
set_option linter.unusedSimpArgs false

/-- One byte behind the length is turned. -/
theorem turned_told (b tt : List UInt8) (i : Nat) (x y : UInt8) (hb : b.length ≤ 65536) (h4 : 4 ≤ i) (h8 : i < 8 + b.length) (hx : (frame b ++ tt)[i]? = some x) (hne : x ≠ y) : opened ((frame b ++ tt).set i y) = ([], 0, 32) := by
  have hc4 := four_length (crc (four b.length ++ b))
  have e : frame b ++ tt = four b.length ++ (four (crc (four b.length ++ b)) ++ (b ++ tt)) := by unfold frame; rw [List.append_assoc, List.append_assoc]
  rw [e] at hx ⊢
  rw [List.set_append_right _ _ (by rw [four_length]; exact h4), four_length]
  rw [List.getElem?_append_right (by rw [four_length]; exact h4), four_length] at hx
  by_cases hi : i < 8
  · rw [List.set_append_left _ _ (by rw [hc4]; omega)]
    rw [List.getElem?_append_left (by rw [hc4]; omega)] at hx
    refine opened_turned_sum hb (by rw [List.length_set, hc4]) fun h => ?_
    have := congrArg (fun l => l[i - 4]?) h
    simp only [List.getElem?_set_self (show i - 4 < (four (crc (four b.length ++ b))).length by rw [hc4]; omega), hx] at this
    injection this with this
    exact hne this.symm
  · rw [List.set_append_right _ _ (by rw [hc4]; omega), hc4, List.set_append_left _ _ (by omega)]
    rw [List.getElem?_append_right (by rw [hc4]; omega), hc4, List.getElem?_append_left (by omega)] at hx
    have hl := List.getElem?_eq_some_iff.1 hx
    have hs : b.set (i - 4 - 4) y = b.take (i - 4 - 4) ++ y :: b.drop (i - 4 - 4 + 1) := by rw [List.set_eq_take_append_cons_drop, if_pos (by omega)]
    have hs2 : b = b.take (i - 4 - 4) ++ x :: b.drop (i - 4 - 4 + 1) := by
      rw [← hl.2, ← List.drop_eq_getElem_cons hl.1, List.take_append_drop]
    have h := opened_turned_load (p := b.take (i - 4 - 4)) (q := b.drop (i - 4 - 4 + 1)) (t := tt) (x := x) (y := y) (by rw [← hs2]; exact hb) hne
    rw [← hs2] at h
    rw [hs]; exact h
theorem byteCells_set (bs : List UInt8) (i : Nat) (y : UInt8) : (Lib.byteCells bs).set i (.int .u8 (y.toNat : Int)) = Lib.byteCells (bs.set i y) := by unfold Lib.byteCells; rw [List.map_set]
theorem xor_other (x : UInt8) (k : Nat) (h1 : 1 ≤ k) (h2 : k ≤ 255) : ∃ y : UInt8, bits .xor .u8 (x.toNat : Int) (k : Int) = (y.toNat : Int) ∧ x ≠ y := by
  have hx := x.toNat_lt
  have hlt : x.toNat ^^^ k < 256 := Nat.xor_lt_two_pow (n := 8) hx (by omega)
  refine ⟨UInt8.ofNat (x.toNat ^^^ k), ?_, fun h => ?_⟩
  · rw [u8_xor_nat x.toNat k hx (by omega), UInt8.toNat_ofNat', Nat.mod_eq_of_lt hlt]
  · have e := congrArg UInt8.toNat h
    rw [UInt8.toNat_ofNat', Nat.mod_eq_of_lt hlt] at e
    have : x.toNat ^^^ 0 = x.toNat ^^^ k := by rw [Nat.xor_zero]; exact e
    have := cancel2 this
    omega

set_option maxHeartbeats 4000000 in
theorem walk (l : List UInt8) (hl : l.length ≤ 9223372036854775807) (t : List UInt8) (ht : t.length ≤ 9223372036854775807) (xa xb : Int) (hx : (0 ≤ xa ∧ xa ≤ 65535) ∧ (0 ≤ xb ∧ xb ≤ 255)) (w : World) : Calls Try.prog 9 #[.string (txt l), .string (txt t), .agg #[.int .u16 xa, .int .u8 xb]] w fun e w' => e = .returned (.bool true) ∧ Below w.heap.size w w' := by
  obtain ⟨⟨ha0, ha1⟩, hb0, hb1⟩ := hx
  have HBY := Lib.hid (fun w0 => bytes_any l 2000 w0 hl (by omega))
  have HBT := Lib.hid (fun w0 => bytes_any t 100 w0 ht (by omega))
  have htl : (l.take 2000).length ≤ 2000 := by rw [List.length_take]; omega
  have htt : (t.take 100).length ≤ 100 := by rw [List.length_take]; omega
  generalize l.take 2000 = b at *
  generalize t.take 100 = tt at *
  obtain ⟨i, hi⟩ : ∃ i : Nat, 4 + xa % (4 + (b.length : Int)) = (i : Int) := ⟨(4 + xa % (4 + (b.length : Int))).toNat, by
    have := Int.emod_nonneg xa (show (4 + (b.length : Int)) ≠ 0 by omega)
    omega⟩
  have hi4 : 4 ≤ i := by
    have := Int.emod_nonneg xa (show (4 + (b.length : Int)) ≠ 0 by omega)
    omega
  have hi8 : i < 8 + b.length := by
    have := Int.emod_lt_of_pos xa (show (0 : Int) < 4 + (b.length : Int) by omega)
    omega
  obtain ⟨k, hk⟩ : ∃ k : Nat, xb % 255 + 1 = (k : Int) := ⟨(xb % 255 + 1).toNat, by omega⟩
  have hk1 : 1 ≤ k := by omega
  have hk2 : k ≤ 255 := by omega
  have hnz : ((4 : Int) + (b.length : Int) == 0) = false := by simpa using (by omega : ¬ (4 : Int) + (b.length : Int) = 0)
  go_enter Try.func9, Try.ntmps9
  go_wp2_with fail
  have HW0 := Lib.hid (Whole.fresh w 53 #[.int .u16 xa, .int .u8 xb])
  refine (HBY.out _).mono ?_
  rintro e w1 ⟨g, c, rfl, hc1, hc2, hsee, hb1', -⟩
  have HW1 := Lib.hid (HW0.out.below hb1' (by simp))
  have HB1 := Lib.hid (((Below.refl w.heap.size w).alloc (Nat.le_refl _) _).trans (hb1'.mono (by simp)))
  have HZ1 := HB1.out.size
  have HSE := Lib.hid (seal_any _ _ c b w1 hsee (Nat.le_refl _) hc1 hc2 (fun h => by cases h) (by omega))
  clear hb1' hsee
  go_wp2_with fail
  refine HSE.out.mono ?_
  rintro e w2 ⟨v2, rfl, ho2, hb2⟩
  have HO2 := Lib.hid ho2
  have HW2 := Lib.hid (HW1.out.below hb2 HW1.out.lt)
  have HB2 := Lib.hid (HB1.out.trans (hb2.mono HZ1))
  have HZ2 := HB2.out.size
  have hz2 := hb2.size
  clear ho2 hb2
  go_wp2_with fail
  refine (awake_any _).mono ?_
  rintro e w3 ⟨rfl, hb3⟩
  have HO3 := Lib.hid (HO2.out.keep hb3 (Nat.le_refl _))
  have HW3 := Lib.hid (HW2.out.below hb3 HW2.out.lt)
  have HB3 := Lib.hid (HB2.out.trans (hb3.mono HZ2))
  have HZ3 := HB3.out.size
  have hz3 := hb3.size
  clear hb3
  go_wp2_with fail
  refine (HBT.out _).mono ?_
  rintro e w4 ⟨g4, c4, rfl, hd1, hd2, hsee4, hb4, -⟩
  have HO4 := Lib.hid (HO3.out.keep hb4 (Nat.le_refl _))
  have HW4 := Lib.hid (HW3.out.below hb4 HW3.out.lt)
  have HB4 := Lib.hid (HB3.out.trans (hb4.mono HZ3))
  have HZ4 := HB4.out.size
  have hz4 := hb4.size
  have HY4 := Lib.hid hsee4
  have hfl := frame_length b
  have hfb : (frame b).length ≤ 2008 := by omega
  clear hb4 hsee4
  go_wp2_with (at_builtin; refine wpList_appG rfl (.tmp 29) (.tmp 31) _ 5 _ 1 1 rfl info_byte Try.underlying22 rfl (by decide) w1.heap.size v2 (frame b).length (Lib.byteCells (frame b)) rfl HO4.out _ _ tt.length c4 (Lib.byteCells tt) rfl HY4.out (fun h => by cases h) (byte_one _) (by omega) (by omega) (by omega) ?_)
  intro v5 w5 ho5 hg5
  have hb5 : Below w1.heap.size w4 w5 := (Below.refl _ w4).grown hg5 (by omega) fun k hk => (HO4.out.lt k hk).1
  have ho5' : OwnB w5 w1.heap.size v5 (frame b ++ tt) := by unfold OwnB; rw [Lib.byteCells_append, List.length_append, hfl]; exact ho5
  have hlt : (frame b ++ tt).length = 8 + b.length + tt.length := by rw [List.length_append, hfl]
  obtain ⟨g5, c5, rfl, hg51, hg52, hc51, hc52⟩ := ho5'.form (by omega)
  have hc53 : c5 ≤ 9223372036854775807 := by unfold maxLen at hc52; exact hc52
  obtain ⟨x, hx⟩ : ∃ x, (frame b ++ tt)[i]? = some x := ⟨_, List.getElem?_eq_getElem (by omega)⟩
  obtain ⟨y, hy, hxy⟩ := xor_other x k hk1 hk2
  have hot := turned_told b tt i x y (by omega) hi4 hi8 hx hxy
  have g0 := ho5'.cellAt i (by omega)
  rw [bytes_at _ i x hx] at g0
  have g1 := ho5'.frozenAt i
  have hst := ho5'.stored i (.int .u8 (y.toNat : Int))
  rw [byteCells_set] at hst
  have hbox := HW4.out.grown hg5 (by
    intro he
    have := HO4.out.lt w.heap.size he.symm
    have := HW1.out.lt
    omega)
  have g2 := hbox.cell 0
  have g3 := hbox.cell 1
  simp at g2 g3
  have HB5 := Lib.hid (HB4.out.trans (hb5.mono HZ1))
  have HZ5 := HB5.out.size
  have hz5 := hb5.size
  have hlt2 : ((frame b ++ tt).set i y).length = 8 + b.length + tt.length := by rw [List.length_set, hlt]
  rw [hlt] at hc51 hst ⊢
  generalize (frame b ++ tt).set i y = Z at *
  have HST := Lib.hid hst
  have HOT := Lib.hid hot
  have HL2 := Lib.hid hlt2
  have hii : (i : Int) < 8 + (b.length : Int) + (tt.length : Int) := by omega
  generalize hxn : x.toNat = xn at *
  generalize hyn : y.toNat = yn at *
  clear hxn hyn hx hxy hlt hlt2 ho5 hg5 ho5' hot hst hb5 hbox hfl hfb HO4 HO3 HO2
  go_wp2_with fail
  go_region
  have hs6 : Sees (w5.setCell ⟨g5, i, none⟩ (.int .u8 (yn : Int))).drew (w5.setCell ⟨g5, i, none⟩ (.int .u8 (yn : Int))).drew.heap.size 1 (some ⟨g5, 0, none⟩) Z.length (Lib.byteCells Z) := by
    rw [HL2.out]; exact (Sees.own HST.out.1).drewN 1
  have hb6 : Below w.heap.size w (w5.setCell ⟨g5, i, none⟩ (.int .u8 (yn : Int))).drew := (HB5.out.setCell (by show _ ≤ g5; omega) _).drew
  generalize (w5.setCell ⟨g5, i, none⟩ (.int .u8 (yn : Int))).drew = w6 at *
  have HB6 := Lib.hid hb6
  have HX6 := Lib.hid hs6
  have hop := open_any _ _ c5 Z w6 hs6 (Nat.le_refl _) (by rw [HL2.out]; exact hc51) hc53
  unfold Opens at hop
  rw [HOT.out, HL2.out] at hop
  have HOP := Lib.hid hop
  have HSC := Lib.hid (fun w0 (h : Below w6.heap.size w6 w0) => scan_any w6.heap.size g5 0 c5 Z w0 (hs6.below h) (by
    have := hs6.2 (by rw [HL2.out]; omega)
    obtain ⟨b0, o0, hA, hb, _⟩ := this
    injection hA with hA
    injection hA with hA
    omega) h.size (by rw [HL2.out]; exact hc51) hc53 (by rw [HL2.out]; omega))
  unfold Scans at HSC
  rw [HL2.out, scan_err (b := Z) (by rw [HOT.out]; simp)] at HSC
  clear hs6 hb6 hop HST
  go_wp2_with fail
  refine HOP.out.mono ?_
  rintro e w7 ⟨A7, c7, rfl, -, -, -, hb7⟩
  have HB7 := Lib.hid (HB6.out.trans (hb7.mono HB6.out.size))
  have HSC7 := Lib.hid (HSC.out w7 hb7)
  clear hb7
  go_wp2_with fail
  refine HSC7.out.mono ?_
  rintro e w8 ⟨h8, g8, cs8, v8, rfl, hsc⟩
  have HB8 := Lib.hid (HB7.out.trans (hsc.below.mono HB7.out.size))
  clear hsc
  go_wp2_with fail
  go_ret
  exact ⟨rfl, HB8.out⟩

set_option maxRecDepth 100000 in
theorem lifted (os : Os) (started : os.Started) (H : Type) (enc : TypeId × Value → H) :
    ReturnsInHanded {} Try.checked os 9 .any (Rows.frameTurnedSpec.pre6 enc Try.prog Try.f9 Rows.frameTurnedRow.domain false) (Rows.frameTurnedSpec.post enc Try.prog Try.f9 false true false false) := by
  refine returnsInHanded_of_change (C := Try.checked) own started (by kernel_rfl) Try.func9
    (ChangeSpec.witness6 (enc := enc) (C := Try.checked) false ⟨#[], #[.string ⟨#[]⟩, .string ⟨#[]⟩, .agg #[.int .u16 0, .int .u8 0]], []⟩ 8 (by kernel_rfl) (by kernel_rfl) (by kernel_rfl) (by kernel_rfl)) ?_
  intro W base args ds gs before hval0 hW hcnd _
  have hval : ∀ (j : Nat) t v, Try.f9.params[j]? = some t → args[j]? = some v → Value.okWide Try.prog W .any base t v := hval0
  have hW' := hW
  obtain ⟨p, q, hA0, hV, rfl, hfz, hnd⟩ := hW
  have hA : DataW.TrodAll enc Try.prog W 0 (fun _ => true) true Try.f9.params.toList args.toList ds p := hA0
  rw [Try.params9] at hA hval
  obtain ⟨v0, vs0, d0, ds0, p0, q0, hargs, rfl, rfl, h0, r0⟩ := trodAll_cons hA
  obtain ⟨v1, vs1, d1, ds1, p1, q1, rfl, rfl, rfl, h1, r1⟩ := trodAll_cons r0
  obtain ⟨v2, vs2, d2, ds2, p2, q2, rfl, rfl, rfl, h2, r2⟩ := trodAll_cons r1
  obtain ⟨rfl, rfl, rfl⟩ := trodAll_nil r2
  obtain rfl : args = #[v0, v1, v2] := by cases args; simp_all
  obtain ⟨rfl, rfl⟩ := trodVars_none hV
  obtain ⟨a0, rfl⟩ := okWide_string Try.underlying9 (hval 0 9 v0 rfl rfl)
  have w0 : a0.size ≤ maxLen := by
    obtain ⟨m, hm⟩ := h0
    obtain ⟨s, hs, _, hl⟩ := DataW.trod_string Try.underlying9 hm
    simp [Value.cells] at hs
    rw [hs]; exact hl
  obtain ⟨l0, rfl⟩ : ∃ l, a0 = txt l := ⟨a0.data.toList, (txt_of _).symm⟩
  rw [txt_size] at w0; unfold maxLen at w0
  have lt0 : ∀ x ∈ p0, x.block < W.heap.size := by obtain ⟨m, hm⟩ := h0; exact DataW.trod_lt m _ _ _ hm
  obtain ⟨a1, rfl⟩ := okWide_string Try.underlying9 (hval 1 9 v1 rfl rfl)
  have w1 : a1.size ≤ maxLen := by
    obtain ⟨m, hm⟩ := h1
    obtain ⟨s, hs, _, hl⟩ := DataW.trod_string Try.underlying9 hm
    simp [Value.cells] at hs
    rw [hs]; exact hl
  obtain ⟨l1, rfl⟩ : ∃ l, a1 = txt l := ⟨a1.data.toList, (txt_of _).symm⟩
  rw [txt_size] at w1; unfold maxLen at w1
  have lt1 : ∀ x ∈ p1, x.block < W.heap.size := by obtain ⟨m, hm⟩ := h1; exact DataW.trod_lt m _ _ _ hm
  obtain ⟨a2, b2, rfl, w2⟩ := open_turn (hval 2 53 v2 rfl rfl) h2
  have lt2 : ∀ x ∈ p2, x.block < W.heap.size := by obtain ⟨m, hm⟩ := h2; exact DataW.trod_lt m _ _ _ hm
  clear hA0 hval0
  simp only [List.append_nil] at hW'
  refine (walk l0 w0 l1 w1 a2 b2 w2 W ).mono fun e W' ⟨he, bel⟩ => ?_
  subst he
  exact ⟨_, rfl, _, _, _, [], _, [], hW', trodAll_mk1 (shut_bool Try.underlying4 _), (trodAll_cons_mk (Below.trod laidOut (by kernel_rfl) (of_decide_eq_true (by kernel_rfl)) h0 bel lt0) (trodAll_cons_mk (Below.trod laidOut (by kernel_rfl) (of_decide_eq_true (by kernel_rfl)) h1 bel lt1) (trodAll_cons_mk (Below.trod laidOut (by kernel_rfl) (of_decide_eq_true (by kernel_rfl)) h2 bel lt2) trodAll_mk0))), rfl, bel.frame _, fun h => by cases h⟩

theorem proved : Rows.FrameTurnedSaid :=
  OpenClaim.holds_of_wide 9 Try.f9 rfl rfl rfl rfl rfl rfl rfl ⟨rfl, rfl, rfl, rfl, rfl⟩ rfl rfl rfl rfl rfl (by kernel_rfl) Try.func9 (by kernel_rfl)
    (of_decide_eq_true (by kernel_rfl)) (by unfold Func.isWrapper; first | (rw [if_pos (by decide +kernel)]; kernel_rfl) | (rw [if_neg (by decide +kernel)]; exact ⟨rfl, rfl⟩))
    (fun os started H enc _ => lifted os started H enc)
#print axioms proved
end Go.Proofs.Ythpmpbipdgianaa.frameTurned
