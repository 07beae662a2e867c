/- Of bytes that are cut the values that are whole come, or it is told where the first one begins that isn't: WireCuts answers true at every list of values and every cut. No condition. -/
import Derived.Test.YtmaeacklloaeaaaWireZ
namespace Go.Proofs.Ytmaeacklloaeaaa.wireCuts
open Go.ChangeShapes Go.WideShapes Go.ChangeAt Go.RowKit Go.Fl Go.Wr
set_option linter.unusedVariables false
set_option linter.unusedSimpArgs false

theorem wf_f (l : List Val) (h : ∀ v ∈ l, v.wf) : ∀ v ∈ l, v.f < 18446744073709551616 := fun v hv => (h v hv).2.2.2.2.2.2.1
theorem nrm_f (l : List Val) (h : ∀ v ∈ l, v.wf) : ∀ v ∈ l.map nrm, v.f < 18446744073709551616 := by
  intro v hv
  obtain ⟨u, hu, rfl⟩ := List.mem_map.1 hv
  exact (nrm_wf (h u hu)).2.2.2.2.2.2.1
theorem back_same (l : List Val) : sameL (l.map nrm) l = true := (sameL_iff _ l).2 (map_nrm l)
theorem rowV_take (l : List Val) : ∀ k, (rowV l).take (k * 5) = rowV (l.take k) := by
  induction l with
  | nil => intro k; simp [rowV]
  | cons v l ih =>
    intro k
    cases k with
    | zero => simp [rowV]
    | succ k =>
      rw [show rowV (v :: l) = cellsV v ++ rowV l from rfl, List.take_append, show (cellsV v).length = 5 from rfl, List.take_of_length_le (by show 5 ≤ _; omega), show (k + 1) * 5 - 5 = k * 5 by omega, ih]; rfl
theorem firstV {w : World} {B : Nat} {A : Option Addr} {l : List Val} (h : SeesV w B A l) {k : Nat} (hk : k ≤ l.length) : SeesV w B A (l.take k) := by
  have := Sees.first h hk
  rw [rowV_take] at this
  unfold SeesV
  rw [List.length_take, Nat.min_eq_left hk]; exact this
theorem firstB {w : World} {B : Nat} {A : Option Addr} {bs : List UInt8} (h : Sees w B 1 A bs.length (Lib.byteCells bs)) {k : Nat} (hk : k ≤ bs.length) : Sees w B 1 A (bs.take k).length (Lib.byteCells (bs.take k)) := by
  have := Sees.first h hk
  rw [Nat.mul_one] at this
  rw [List.length_take, Nat.min_eq_left hk]
  unfold Lib.byteCells at *
  rw [List.map_take]; exact this

set_option maxHeartbeats 2000000 in
theorem walk_few (A : Option Addr) (len cap : Nat) (l : List Val) (a : Int) (ha : 0 ≤ a ∧ a ≤ 65535) (w : World) (hL : IsL w A len cap l) (hf : fewB l = false) :
    Calls Try.prog 7 #[.slice A len cap, .int .u16 a] w fun e w' => e = .returned (.bool true) ∧ Below w.heap.size w w' := by
  obtain ⟨rfl, hwf, hs, hc1, hc2, hn⟩ := hL
  have HF := Lib.hid (few_any w.heap.size A cap l w hs (Nat.le_refl _) hc1 hc2)
  rw [hf] at HF
  clear hs hwf hn hf
  go_enter Try.func7, Try.ntmps7
  go_wp2_with fail
  refine HF.out.mono ?_
  rintro e w1 ⟨rfl, rfl⟩
  go_wp2_with fail
  refine (awake_any _).mono ?_
  rintro e w2 ⟨rfl, hb2⟩
  have HB2 := Lib.hid hb2
  clear hb2
  go_wp2_with fail
  go_ret
  exact ⟨rfl, HB2.out⟩

set_option maxHeartbeats 2000000 in
theorem walk_idle (A : Option Addr) (len cap : Nat) (l : List Val) (a : Int) (ha : 0 ≤ a ∧ a ≤ 65535) (w : World) (hL : IsL w A len cap l) (hf : fewB l = true) (hE : packE l ≠ 0 ∨ (packE l = 0 ∧ packB l = [])) :
    Calls Try.prog 7 #[.slice A len cap, .int .u16 a] w fun e w' => e = .returned (.bool true) ∧ Below w.heap.size w w' := by
  obtain ⟨rfl, hwf, hs, hc1, hc2, hn⟩ := hL
  have HF := Lib.hid (few_any w.heap.size A cap l w hs (Nat.le_refl _) hc1 hc2)
  rw [hf] at HF
  have HP := Lib.hid (pack_any _ A cap l w hwf hs (Nat.le_refl _) hc1 hc2)
  clear hs hwf hn hf
  rcases hE with hE | hE
  · have hne : (packE l != 0) = true := by simpa using hE
    go_enter Try.func7, Try.ntmps7
    go_wp2_with fail
    refine HF.out.mono ?_
    rintro e w1 ⟨rfl, rfl⟩
    go_wp2_with fail
    refine HP.out.mono ?_
    rintro e w2 ⟨v2, rfl, ho2, hb2⟩
    obtain ⟨A2, c2, rfl, hx1, hx2⟩ := ho2.slice
    have HB2 := Lib.hid hb2
    clear ho2 hb2 hE HP
    generalize packE l = x at *
    generalize (packB l).length = y at *
    go_wp2_with fail
    refine (awake_any _).mono ?_
    rintro e w3 ⟨rfl, hb3⟩
    have HB3 := Lib.hid (HB2.out.trans (hb3.mono HB2.out.size))
    clear hb3
    go_wp2_with fail
    refine (awake_any _).mono ?_
    rintro e w4 ⟨rfl, hb4⟩
    have HB4 := Lib.hid (HB3.out.trans (hb4.mono HB3.out.size))
    clear hb4
    go_wp2_with fail
    go_ret
    exact ⟨rfl, HB4.out⟩
  · go_enter Try.func7, Try.ntmps7
    go_wp2_with fail
    refine HF.out.mono ?_
    rintro e w1 ⟨rfl, rfl⟩
    go_wp2_with fail
    refine HP.out.mono ?_
    rintro e w2 ⟨v2, rfl, ho2, hb2⟩
    rw [hE.1]
    rw [hE.2] at ho2
    obtain ⟨A2, c2, rfl, hx1, hx2⟩ := ho2.slice
    have HB2 := Lib.hid hb2
    clear ho2 hb2 hE HP
    go_wp2_with fail
    refine (awake_any _).mono ?_
    rintro e w3 ⟨rfl, hb3⟩
    have HB3 := Lib.hid (HB2.out.trans (hb3.mono HB2.out.size))
    clear hb3
    go_wp2_with fail
    refine (awake_any _).mono ?_
    rintro e w4 ⟨rfl, hb4⟩
    have HB4 := Lib.hid (HB3.out.trans (hb4.mono HB3.out.size))
    clear hb4
    go_wp2_with fail
    go_ret
    exact ⟨rfl, HB4.out⟩

set_option maxHeartbeats 4000000 in
theorem walk_good (A : Option Addr) (len cap : Nat) (l : List Val) (a : Int) (ha : 0 ≤ a ∧ a ≤ 65535) (w : World) (hL : IsL w A len cap l) (hf : fewB l = true) (hE : packE l = 0) (hne : encs l ≠ []) :
    Calls Try.prog 7 #[.slice A len cap, .int .u16 a] w fun e w' => e = .returned (.bool true) ∧ Below w.heap.size w w' := by
  obtain ⟨rfl, hwf, hs, hc1, hc2, hn⟩ := hL
  have HF := Lib.hid (few_any w.heap.size A cap l w hs (Nat.le_refl _) hc1 hc2)
  rw [hf] at HF
  have HP := Lib.hid (pack_any _ A cap l w hwf hs (Nat.le_refl _) hc1 hc2)
  have hl := ((packE_zero l).1 hE).1
  have hg := good_of l hwf hE
  have hpb : packB l = encs l := by unfold packB; rw [if_pos hE]
  have he1 := encs_le l hg
  have hpos := List.length_pos_iff.2 hne
  have ha0 := ha.1
  have ha1 := ha.2
  obtain ⟨n, hmod⟩ : ∃ n : Nat, a % ((encs l).length : Int) = (n : Int) := ⟨(a % ((encs l).length : Int)).toNat, by
    have := Int.emod_nonneg a (show ((encs l).length : Int) ≠ 0 by omega)
    omega⟩
  have hnlt : n < (encs l).length := by
    have := Int.emod_lt_of_pos a (show (0 : Int) < ((encs l).length : Int) by omega)
    omega
  obtain ⟨i, hi, hcut⟩ := cuts l hg hl n hnlt
  have HW := Lib.hid hwf
  have HS := Lib.hid hs
  have HE := Lib.hid hE
  have HPB := Lib.hid hpb
  have HCUT := Lib.hid hcut
  have h00 : (((encs l).length : Int) == 0) = false := by simpa using (by omega : ¬ ((encs l).length : Int) = 0)
  clear hs hwf hn hf hg hpb hcut hne hE ha
  generalize encs l = bs at *
  go_enter Try.func7, Try.ntmps7
  go_wp2_with fail
  refine HF.out.mono ?_
  rintro e w1 ⟨rfl, rfl⟩
  go_wp2_with fail
  refine HP.out.mono ?_
  rintro e w2 ⟨v2, rfl, ho2, hb2⟩
  rw [HE.out]
  rw [HPB.out] at ho2
  obtain ⟨A2, c2, rfl, hx1, hx2⟩ := ho2.slice
  have HB2 := Lib.hid hb2
  have HO2 := Lib.hid ho2
  have hx3 : c2 ≤ 9223372036854775807 := by unfold maxLen at hx2; exact hx2
  clear ho2 hb2 HP hx2
  go_wp2_with fail
  refine (awake_any _).mono ?_
  rintro e w3 ⟨rfl, hb3⟩
  have HB3 := Lib.hid (HB2.out.trans (hb3.mono HB2.out.size))
  have HO3 := Lib.hid (HO2.out.keep hb3 (Nat.le_refl _))
  clear hb3
  go_wp2_with fail
  have hun := unpack_any _ A2 c2 (bs.take n) w3 (firstB (HO3.out.sees rfl) (by omega)) (Nat.le_refl _) (by rw [List.length_take]; omega) hx3
  rw [show (bs.take n).length = n by rw [List.length_take]; omega] at hun
  refine hun.mono ?_
  rintro e w4 ⟨v4, rfl, ho4, hb4⟩
  clear hun
  have HB4 := Lib.hid (HB3.out.trans (hb4.mono HB3.out.size))
  have HO34 := Lib.hid (HO3.out.keep hb4 (Nat.le_refl _))
  obtain ⟨T, hT⟩ : ∃ T, T = l.take i := ⟨_, rfl⟩
  obtain ⟨K, hK⟩ : ∃ K, K = T.map nrm := ⟨_, rfl⟩
  have hTl : T.length = i := by rw [hT, List.length_take]; omega
  have hKl : K.length = T.length := by rw [hK, List.length_map]
  have hwT : ∀ v ∈ T, v.wf := fun v hv => HW.out v (List.mem_of_mem_take (by rw [← hT]; exact hv))
  have hKT : sameL K T = true := by rw [hK]; exact back_same T
  have hKf : ∀ v ∈ K, v.f < 18446744073709551616 := by rw [hK]; exact nrm_f T hwT
  have hsT : SeesV w1 w1.heap.size A T := by rw [hT]; exact firstV HS.out (by omega)
  have hcut := HCUT.out
  rw [← hT, ← hK] at hcut
  have hKlt : K.length < l.length := by omega
  have hKlt2 : (K.length : Int) < (l.length : Int) := by omega
  have hKc : K.length ≤ cap := by omega
  have HALL := Lib.hid (fun (A1 : Option Addr) (k1 : Nat) (W0 : World) (B1 : Nat) (h1 : SeesV W0 B1 A1 K) (hB1 : B1 ≤ W0.heap.size) (hk1 : K.length ≤ k1) (hk2 : k1 ≤ 9223372036854775807) (hb0 : Below w1.heap.size w1 W0) => by
    have := all_any B1 _ A1 A k1 cap K T W0 (by omega) hKf (wf_f T hwT) h1 (Sees.below hsT hb0) hB1 hb0.size hk1 (by omega) hk2 hc2
    rw [← hKl, hKT] at this
    exact this)
  clear hT hK hTl hKl hwT hKT hKf hsT HCUT
  rcases hcut with hw | ⟨p, hp, hw, hw2⟩
  · rw [hw] at ho4 ⊢
    obtain ⟨A4, c4, rfl, hy1, hy2⟩ := ho4.slice
    have HO4 := Lib.hid ho4
    have hy3 : c4 ≤ 9223372036854775807 := by unfold maxLen at hy2; exact hy2
    clear hw ho4 hb4 hy2
    go_wp2_with fail
    refine (HALL.out A4 c4 w4 _ (HO4.out.sees rfl) (Nat.le_refl _) hy1 hy3 HB4.out).mono ?_
    rintro e w5 ⟨rfl, hb5⟩
    have HB5 := Lib.hid (HB4.out.trans (hb5.mono HB4.out.size))
    clear hb5
    go_wp2_with fail
    go_ret
    exact ⟨rfl, HB5.out⟩
  · rw [hw] at ho4 ⊢
    obtain ⟨A4, c4, rfl, hy1, hy2⟩ := ho4.slice
    have HW2 := Lib.hid hw2
    have hpb : p ≤ bs.length := by omega
    have hpc : p ≤ c2 := by omega
    have hpn : (p : Int) < (n : Int) := by omega
    clear hw hw2 ho4 hb4 hy2
    go_wp2_with fail
    have hun := unpack_any _ A2 c2 (bs.take p) w4 (firstB (HO34.out.sees rfl) (by omega)) (Nat.le_refl _) (by rw [List.length_take]; omega) hx3
    rw [show (bs.take p).length = p by rw [List.length_take]; omega] at hun
    refine hun.mono ?_
    rintro e w5 ⟨v5, rfl, ho5, hb5⟩
    rw [HW2.out] at ho5 ⊢
    obtain ⟨A5, c5, rfl, hz1, hz2⟩ := ho5.slice
    have HB5 := Lib.hid (HB4.out.trans (hb5.mono HB4.out.size))
    have HO5 := Lib.hid ho5
    have hz3 : c5 ≤ 9223372036854775807 := by unfold maxLen at hz2; exact hz2
    clear hun ho5 hb5 hz2
    go_wp2_with fail
    refine (HALL.out A5 c5 w5 _ (HO5.out.sees rfl) (Nat.le_refl _) hz1 hz3 HB5.out).mono ?_
    rintro e w6 ⟨rfl, hb6⟩
    have HB6 := Lib.hid (HB5.out.trans (hb6.mono HB5.out.size))
    clear hb6
    go_wp2_with fail
    go_ret
    exact ⟨rfl, HB6.out⟩

theorem walk (A : Option Addr) (len cap : Nat) (l : List Val) (a : Int) (ha : 0 ≤ a ∧ a ≤ 65535) (w : World) (hL : IsL w A len cap l) :
    Calls Try.prog 7 #[.slice A len cap, .int .u16 a] w fun e w' => e = .returned (.bool true) ∧ Below w.heap.size w w' := by
  cases hf : fewB l with
  | false => exact walk_few A len cap l a ha w hL hf
  | true =>
    by_cases hE : packE l = 0
    · by_cases hne : encs l = []
      · exact walk_idle A len cap l a ha w hL hf (.inr ⟨hE, by unfold packB; rw [if_pos hE]; exact hne⟩)
      · exact walk_good A len cap l a ha w hL hf hE hne
    · exact walk_idle A len cap l a ha w hL hf (.inl hE)

set_option maxRecDepth 100000 in
theorem lifted (os : Os) (started : os.Started) (H : Type) (enc : TypeId × Value → H) :
    ReturnsInHanded {} Try.checked os 7 .any (Rows.wireCutsSpec.pre6 enc Try.prog Try.f7 Rows.wireCutsRow.domain false) (Rows.wireCutsSpec.post enc Try.prog Try.f7 false true false false) := by
  refine returnsInHanded_of_change (C := Try.checked) own started (by kernel_rfl) Try.func7
    (ChangeSpec.witness6 (enc := enc) (C := Try.checked) false ⟨#[], #[.slice none 0 0, .int .u16 0], []⟩ 8 (by kernel_rfl) (by kernel_rfl) (by kernel_rfl) (by kernel_rfl)) ?_
  intro W base args ds gs before hval0 hW hcnd _
  have hval : ∀ (j : Nat) t v, Try.f7.params[j]? = some t → args[j]? = some v → Value.okWide Try.prog W .any base t v := hval0
  have hW' := hW
  obtain ⟨p, q, hA0, hV, rfl, hfz, hnd⟩ := hW
  have hA : DataW.TrodAll enc Try.prog W 0 (fun _ => true) true Try.f7.params.toList args.toList ds p := hA0
  rw [Try.params7] at hA hval
  obtain ⟨v0, vs0, d0, ds0, p0, q0, hargs, rfl, rfl, h0, r0⟩ := trodAll_cons hA
  obtain ⟨v1, vs1, d1, ds1, p1, q1, rfl, rfl, rfl, h1, r1⟩ := trodAll_cons r0
  obtain ⟨rfl, rfl, rfl⟩ := trodAll_nil r1
  obtain rfl : args = #[v0, v1] := by cases args; simp_all
  obtain ⟨rfl, rfl⟩ := trodVars_none hV
  obtain ⟨A0, len0, cap0, rfl⟩ := okWide_slice Try.underlying22 (hval 0 22 v0 rfl rfl)
  obtain ⟨a0, w0⟩ := open_vals h0
  have lt0 : ∀ x ∈ p0, x.block < W.heap.size := by obtain ⟨m, hm⟩ := h0; exact DataW.trod_lt m _ _ _ hm
  obtain ⟨a1, rfl⟩ := okWide_int Try.underlying42 (hval 1 42 v1 rfl rfl)
  have w1 : 0 ≤ a1 ∧ a1 ≤ 65535 := by
    obtain ⟨m, hm⟩ := h1
    obtain ⟨s, hs, _, hl⟩ := DataW.trod_int Try.underlying42 hm
    simp [Value.cells] at hs
    rw [hs]; exact bounds_u16 hl
  have lt1 : ∀ x ∈ p1, x.block < W.heap.size := by obtain ⟨m, hm⟩ := h1; exact DataW.trod_lt m _ _ _ hm
  clear hA0 hval0
  simp only [List.append_nil] at hW'
  refine (walk A0 len0 cap0 a0 a1 w1 W w0).mono fun e W' ⟨he, bel⟩ => ?_
  subst he
  exact ⟨_, rfl, _, _, _, [], _, [], hW', trodAll_mk1 (shut_bool Try.underlying4 _), (trodAll_cons_mk (Below.trod laidOut (by kernel_rfl) (of_decide_eq_true (by kernel_rfl)) h0 bel lt0) (trodAll_cons_mk (Below.trod laidOut (by kernel_rfl) (of_decide_eq_true (by kernel_rfl)) h1 bel lt1) trodAll_mk0)), rfl, bel.frame _, fun h => by cases h⟩

theorem proved : Rows.WireCutsSaid :=
  OpenClaim.holds_of_wide 7 Try.f7 rfl rfl rfl rfl rfl rfl rfl ⟨rfl, rfl, rfl, rfl, rfl⟩ rfl rfl rfl rfl rfl (by kernel_rfl) Try.func7 (by kernel_rfl)
    (of_decide_eq_true (by kernel_rfl)) (by unfold Func.isWrapper; first | (rw [if_pos (by decide +kernel)]; kernel_rfl) | (rw [if_neg (by decide +kernel)]; exact ⟨rfl, rfl⟩))
    (fun os started H enc _ => lifted os started H enc)
#print axioms proved
end Go.Proofs.Ytmaeacklloaeaaa.wireCuts
