/- What comes out is its owner's, changed it changes nothing else: WireOwn answers true at every list of values. No condition. -/
import Derived.Test.YtmaeacklloaeaaaWireZ
namespace Go.Proofs.Ytmaeacklloaeaaa.wireOwn
open Go.ChangeShapes Go.WideShapes Go.ChangeAt Go.RowKit Go.Fl Go.Wr
set_option linter.unusedVariables false
set_option linter.unusedSimpArgs false

theorem wf_f (l : List Val) (h : ∀ v ∈ l, v.wf) : ∀ v ∈ l, v.f < 18446744073709551616 := fun v hv => (h v hv).2.2.2.2.2.2.1
theorem nrm_f (l : List Val) (h : ∀ v ∈ l, v.wf) : ∀ v ∈ l.map nrm, v.f < 18446744073709551616 := by
  intro v hv
  obtain ⟨u, hu, rfl⟩ := List.mem_map.1 hv
  exact (nrm_wf (h u hu)).2.2.2.2.2.2.1
theorem back_same (l : List Val) : sameL (l.map nrm) l = true := (sameL_iff _ l).2 (map_nrm l)
/-- What is owned stays, if only a row below it is written. -/
theorem kept_above {w w' : World} {base size n : Nat} {e : TypeId} {v : Value} {xs : List Value} {row : Option Nat} (h : w.ownsRow base e size v n xs) (hg : w.grownBy w' row) (hr : ∀ k, row = some k → k < base) : w'.ownsRow base e size v n xs := by
  refine h.kept hg ?_
  cases hv : v.ownBlock with
  | none => exact .inl rfl
  | some k =>
    refine .inr fun e => ?_
    have := (h.lt k hv).1
    have := hr k e.symm
    omega
theorem some_form {w : World} {base size n c : Nat} {e : TypeId} {A : Option Addr} {xs : List Value} (h : w.ownsRow base e size (.slice A n c) n xs) (h0 : 0 < n) : ∃ g, A = some ⟨g, 0, none⟩ ∧ n ≤ c := by
  rcases h.2 with ⟨_, h1⟩ | ⟨g, cap, cur, hv, _, _, h2, _⟩
  · omega
  · injection hv with h3 h4 h5
    exact ⟨g, h3, by omega⟩

set_option maxHeartbeats 2000000 in
theorem walk_few (A : Option Addr) (len cap : Nat) (l : List Val) (w : World) (hL : IsL w A len cap l) (hf : fewB l = false) :
    Calls Try.prog 10 #[.slice A len cap] w fun e w' => e = .returned (.bool true) ∧ Below w.heap.size w w' := by
  obtain ⟨rfl, hwf, hs, hc1, hc2, hn⟩ := hL
  have HF := Lib.hid (few_any w.heap.size A cap l w hs (Nat.le_refl _) hc1 hc2)
  rw [hf] at HF
  clear hs hwf hn hf
  go_enter Try.func10, Try.ntmps10
  go_wp2_with fail
  refine HF.out.mono ?_
  rintro e w1 ⟨rfl, rfl⟩
  go_wp2_with fail
  refine (awake_any _).mono ?_
  rintro e w2 ⟨rfl, hb2⟩
  have HB2 := Lib.hid hb2
  clear hb2
  go_wp2_with fail
  go_ret
  exact ⟨rfl, HB2.out⟩

set_option maxHeartbeats 2000000 in
theorem walk_bad (A : Option Addr) (len cap : Nat) (l : List Val) (w : World) (hL : IsL w A len cap l) (hf : fewB l = true) (hE : packE l ≠ 0) :
    Calls Try.prog 10 #[.slice A len cap] w fun e w' => e = .returned (.bool true) ∧ Below w.heap.size w w' := by
  obtain ⟨rfl, hwf, hs, hc1, hc2, hn⟩ := hL
  have HF := Lib.hid (few_any w.heap.size A cap l w hs (Nat.le_refl _) hc1 hc2)
  rw [hf] at HF
  have HW := Lib.hid hwf
  have HS := Lib.hid hs
  clear hs hwf hn hf
  go_enter Try.func10, Try.ntmps10
  go_wp2_with fail
  refine HF.out.mono ?_
  rintro e w1 ⟨rfl, rfl⟩
  go_wp2_with fail
  refine (pack_any _ A cap l _ HW.out HS.out (Nat.le_refl _) hc1 hc2).mono ?_
  rintro e w2 ⟨v2, rfl, ho2, hb2⟩
  have HB2 := Lib.hid hb2
  clear ho2 hb2
  go_wp2_with fail
  refine (pack_any _ A cap l _ HW.out (Sees.below HS.out HB2.out) HB2.out.size hc1 hc2).mono ?_
  rintro e w3 ⟨v3, rfl, ho3, hb3⟩
  have HB3 := Lib.hid (HB2.out.trans (hb3.mono HB2.out.size))
  have hne : (packE l != 0) = true := by simpa using hE
  have hxx : (packE l == packE l) = true := by simp
  have hxn : (packE l != packE l) = false := by simp
  clear ho3 hb3 hE
  generalize packE l = x at *
  go_wp2_with fail
  refine (awake_any _).mono ?_
  rintro e w4 ⟨rfl, hb4⟩
  have HB4 := Lib.hid (HB3.out.trans (hb4.mono HB3.out.size))
  clear hb4
  go_wp2_with fail
  refine (awake_any _).mono ?_
  rintro e w5 ⟨rfl, hb5⟩
  have HB5 := Lib.hid (HB4.out.trans (hb5.mono HB4.out.size))
  clear hb5
  go_wp2_with fail
  go_ret
  exact ⟨rfl, HB5.out⟩

set_option maxHeartbeats 4000000 in
theorem walk_good (A : Option Addr) (len cap : Nat) (l : List Val) (w : World) (hL : IsL w A len cap l) (hf : fewB l = true) (hE : packE l = 0) :
    Calls Try.prog 10 #[.slice A len cap] w fun e w' => e = .returned (.bool true) ∧ Below w.heap.size w w' := by
  obtain ⟨rfl, hwf, hs, hc1, hc2, hn⟩ := hL
  have HF := Lib.hid (few_any w.heap.size A cap l w hs (Nat.le_refl _) hc1 hc2)
  rw [hf] at HF
  have hlen := ((packE_zero l).1 hE).1
  have hbk := back l (good_of l hwf hE) hlen
  have hpb : packB l = encs l := by unfold packB; rw [if_pos hE]
  have he1 := encs_le l (good_of l hwf hE)
  obtain ⟨K, hK⟩ : ∃ K, K = l.map nrm := ⟨_, rfl⟩
  have hKl : K.length = l.length := by rw [hK, List.length_map]
  have hKS : sameL K l = true := by rw [hK]; exact back_same l
  have hKf : ∀ v ∈ K, v.f < 18446744073709551616 := by rw [hK]; exact nrm_f l hwf
  rw [← hK] at hbk
  have hlk : K.length ≤ 1000 := by omega
  have HW := Lib.hid hwf
  have HS := Lib.hid hs
  have HE := Lib.hid hE
  have HPB := Lib.hid hpb
  have HBK := Lib.hid hbk
  have HKS := Lib.hid hKS
  have HKF := Lib.hid hKf
  clear hs hwf hn hf hpb hbk hK hKl hKS hKf hE
  generalize encs l = bs at *
  go_enter Try.func10, Try.ntmps10
  go_wp2_with fail
  refine HF.out.mono ?_
  rintro e w1 ⟨rfl, rfl⟩
  go_wp2_with fail
  refine (pack_any _ A cap l _ HW.out HS.out (Nat.le_refl _) hc1 hc2).mono ?_
  rintro e w2 ⟨v2, rfl, ho2, hb2⟩
  rw [HE.out]
  rw [HPB.out] at ho2
  obtain ⟨A2, c2, rfl, hx1, hx2⟩ := ho2.slice
  have hx3 : c2 ≤ 9223372036854775807 := by unfold maxLen at hx2; exact hx2
  have HB2 := Lib.hid hb2
  have HO2 := Lib.hid ho2
  clear ho2 hb2 hx2
  go_wp2_with fail
  refine (pack_any _ A cap l _ HW.out (Sees.below HS.out HB2.out) HB2.out.size hc1 hc2).mono ?_
  rintro e w3 ⟨v3, rfl, ho3, hb3⟩
  rw [HE.out]
  rw [HPB.out] at ho3
  obtain ⟨A3, c3, rfl, hy1, hy2⟩ := ho3.slice
  have hy3 : c3 ≤ 9223372036854775807 := by unfold maxLen at hy2; exact hy2
  have HB3 := Lib.hid (HB2.out.trans (hb3.mono HB2.out.size))
  have HO23 := Lib.hid (HO2.out.keep hb3 (Nat.le_refl _))
  have hz23 := hb3.size
  have HO3 := Lib.hid ho3
  clear ho3 hb3 hy2
  go_wp2_with fail
  refine (awake_any _).mono ?_
  rintro e w4 ⟨rfl, hb4⟩
  have HB4 := Lib.hid (HB3.out.trans (hb4.mono HB3.out.size))
  have HO24 := Lib.hid (HO23.out.keep hb4 (Nat.le_refl _))
  have HO34 := Lib.hid (HO3.out.keep hb4 (Nat.le_refl _))
  have hz34 := hb4.size
  clear hb4
  go_wp2_with fail
  refine (unpack_any _ A2 c2 bs _ (HO24.out.sees rfl) (Nat.le_refl _) hx1 hx3).mono ?_
  rintro e w5 ⟨v5, rfl, ho5, hb5⟩
  rw [HBK.out] at ho5 ⊢
  obtain ⟨A5, c5, rfl, hp1, hp2⟩ := ho5.slice
  have hp3 : c5 ≤ 9223372036854775807 := by unfold maxLen at hp2; exact hp2
  have HB5 := Lib.hid (HB4.out.trans (hb5.mono HB4.out.size))
  have HO25 := Lib.hid (HO24.out.keep hb5 (Nat.le_refl _))
  have HB45 := Lib.hid hb5
  have hz45 := hb5.size
  have HO5 := Lib.hid ho5
  clear ho5 hb5 hp2
  go_wp2_with fail
  refine (unpack_any _ A2 c2 bs _ (HO25.out.sees rfl) (Nat.le_refl _) hx1 hx3).mono ?_
  rintro e w6 ⟨v6, rfl, ho6, hb6⟩
  rw [HBK.out] at ho6 ⊢
  obtain ⟨A6, c6, rfl, hq1, hq2⟩ := ho6.slice
  have hq3 : c6 ≤ 9223372036854775807 := by unfold maxLen at hq2; exact hq2
  have HB6 := Lib.hid (HB5.out.trans (hb6.mono HB5.out.size))
  have HO26 := Lib.hid (HO25.out.keep hb6 (Nat.le_refl _))
  have HO56 := Lib.hid (HO5.out.below hb6 (Nat.le_refl _))
  have HG46 := Lib.hid (grow_below (HB45.out.trans (hb6.mono hz45)) (Value.ownBlock (.slice A2 bs.length c2)))
  have hz56 := hb6.size
  have HO6 := Lib.hid ho6
  clear ho6 hb6 hq2
  have hrow : ∀ k, (Value.slice A2 bs.length c2).ownBlock = some k → w1.heap.size ≤ k ∧ k < w2.heap.size := fun k hk => HO2.out.lt k hk
  have hrow5 : ∀ k, (Value.slice A5 K.length c5).ownBlock = some k → w4.heap.size ≤ k ∧ k < w5.heap.size := fun k hk => HO5.out.lt k hk
  have HR2 := Lib.hid hrow
  have HR5 := Lib.hid hrow5
  clear hrow hrow5
  go_wp2_with fail
  go_loopw [13] (fun i wr => ∃ (k : Nat) (xs : List Value), k ≤ bs.length ∧ i = .int .i64 (k : Int) ∧ wr.ownsRow w1.heap.size 5 1 (.slice A2 bs.length c2) bs.length xs ∧ w6.grownBy wr (Value.ownBlock (.slice A2 bs.length c2))) (fun i _ => bs.length - (intOf i).toNat)
  case atStart => exact ⟨0, _, by omega, rfl, HO26.out, grow_refl _ _⟩
  case round =>
    obtain ⟨k, xs, hk, rfl, hown, hg⟩ := hrel
    by_cases hlt : k < bs.length
    · obtain ⟨g, rfl, -⟩ := some_form hown (by omega)
      have hcell := hown.cellAt k (by omega)
      have hxl : k < xs.length := by have := hown.1; omega
      rw [List.getElem?_eq_getElem hxl] at hcell
      have hfr := hown.frozenAt k
      have HST := Lib.hid (hown.stored k (.int .u8 255))
      have HG := Lib.hid hg
      have hkl : (k : Int) < (bs.length : Int) := by omega
      clear hown hg
      generalize xs[k] = u at *
      go_wp2_with fail
      go_roundw
      case rel => exact ⟨k + 1, _, by omega, by go_num, HST.out.1, grow_trans HG.out HST.out.2⟩
      case measure => simp [intOf]; omega
    · have hkb : (bs.length : Int) ≤ (k : Int) := by omega
      obtain ⟨wo, hwo⟩ : ∃ wo, wo = wr := ⟨_, rfl⟩
      rw [← hwo] at hown hg ⊢
      have hz45' : w4.heap.size ≤ w5.heap.size := hz45
      have HN := Lib.hid (kept_above HO6.out hg fun k hk => by have := HR2.out k hk; omega)
      have HM := Lib.hid (kept_above HO56.out hg fun k hk => by have := HR2.out k hk; omega)
      have hg4 := grow_trans HG46.out hg
      have HG4 := Lib.hid hg4
      have HBo := Lib.hid (HB6.out.grown hg HB6.out.size fun k hk => (HR2.out k hk).1)
      have hzo := hg.size
      clear hown hg hg4 hwo
      go_wp2_with fail
      go_loopw [14] (fun i wr => ∃ (k : Nat) (xs : List Value), k ≤ K.length ∧ i = .int .i64 (k : Int) ∧ wr.ownsRow w4.heap.size 36 5 (.slice A5 K.length c5) K.length xs ∧ wo.grownBy wr (Value.ownBlock (.slice A5 K.length c5))) (fun i _ => K.length - (intOf i).toNat)
      case atStart => exact ⟨0, _, by omega, rfl, HM.out, grow_refl _ _⟩
      case round =>
        obtain ⟨k2, xs2, hk2, rfl, hown, hg⟩ := hrel
        by_cases hlt2 : k2 < K.length
        · obtain ⟨g, rfl, -⟩ := some_form hown (by omega)
          have hxl : xs2.length = K.length * 5 := hown.1
          have cell : ∀ j, j < 5 → ∃ u, wr.cell? ⟨g, k2 * 5 + j, none⟩ = some u := fun j hj => by
            have hj2 : k2 * 5 + j < xs2.length := by omega
            exact ⟨_, (hown.cellAt (k2 * 5 + j) (by omega)).trans (List.getElem?_eq_getElem hj2)⟩
          obtain ⟨u0, e0⟩ := cell 0 (by omega)
          obtain ⟨u1, e1⟩ := cell 1 (by omega)
          obtain ⟨u2, e2⟩ := cell 2 (by omega)
          obtain ⟨u3, e3⟩ := cell 3 (by omega)
          obtain ⟨u4, e4⟩ := cell 4 (by omega)
          rw [Nat.add_zero] at e0
          have f0 := hown.frozenAt (k2 * 5)
          have f1 := hown.frozenAt (k2 * 5 + 1)
          have f2 := hown.frozenAt (k2 * 5 + 2)
          have f3 := hown.frozenAt (k2 * 5 + 3)
          have f4 := hown.frozenAt (k2 * 5 + 4)
          have s0 := hown.stored (k2 * 5) (.int .i64 0)
          have s1 := s0.1.stored (k2 * 5 + 1) (.int .u64 0)
          have s2 := s1.1.stored (k2 * 5 + 2) (.int .i64 0)
          have s3 := s2.1.stored (k2 * 5 + 3) (.float .f64 0)
          have s4 := s3.1.stored (k2 * 5 + 4) (.string ⟨#[]⟩)
          have HST := Lib.hid s4.1
          have HGG := Lib.hid (grow_trans hg (grow_trans s0.2 (grow_trans s1.2 (grow_trans s2.2 (grow_trans s3.2 s4.2)))))
          have hkl2 : (k2 : Int) < (K.length : Int) := by omega
          clear hown hg s0 s1 s2 s3 s4 cell hxl
          go_wp2_with fail
          go_roundw
          case rel => exact ⟨k2 + 1, _, by omega, by go_num, HST.out, HGG.out⟩
          case measure => simp [intOf]; omega
        · have hkb2 : (K.length : Int) ≤ (k2 : Int) := by omega
          obtain ⟨wp, hwp⟩ : ∃ wp, wp = wr := ⟨_, rfl⟩
          rw [← hwp] at hown hg ⊢
          have HN2 := Lib.hid (kept_above HN.out hg fun k hk => (HR5.out k hk).2)
          have hbelow : Below w4.heap.size wo wp := (Below.refl _ wo).grown hg (by omega) fun k hk => (HR5.out k hk).1
          have HC := Lib.hid (kept_above HO34.out (grow_then HG4.out hbelow) fun k hk => (HR2.out k hk).2)
          have HBp := Lib.hid (HBo.out.trans (hbelow.mono (by have := HB4.out.size; omega)))
          clear hown hg hbelow hwp
          go_wp2_with fail
          refine (unpack_any _ A3 c3 bs _ (OwnB.sees HC.out rfl) (Nat.le_refl _) hy1 hy3).mono ?_
          rintro e w8 ⟨v8, rfl, ho8, hb8⟩
          rw [HBK.out] at ho8 ⊢
          obtain ⟨A8, c8, rfl, hr1, hr2⟩ := ho8.slice
          have hr3 : c8 ≤ 9223372036854775807 := by unfold maxLen at hr2; exact hr2
          have HB8 := Lib.hid (HBp.out.trans (hb8.mono HBp.out.size))
          have HN8 := Lib.hid (OwnV.below (l := K) HN2.out hb8 (Nat.le_refl _))
          have HO8 := Lib.hid ho8
          clear ho8 hb8 hr2
          go_wp2_with fail
          refine (all_any _ _ A8 A c8 cap K l _ (by omega) HKF.out (wf_f l HW.out) (HO8.out.sees rfl) (Sees.below HS.out HB8.out) (Nat.le_refl _) HB8.out.size hr1 hc1 hr3 hc2).mono ?_
          rintro e w9 ⟨rfl, hb9⟩
          rw [HKS.out]
          have HB9 := Lib.hid (HB8.out.trans (hb9.mono HB8.out.size))
          have HN9 := Lib.hid (HN8.out.below hb9 (Nat.le_refl _))
          clear hb9
          go_wp2_with fail
          refine (all_any _ _ A6 A c6 cap K l _ (by omega) HKF.out (wf_f l HW.out) (HN9.out.sees rfl) (Sees.below HS.out HB9.out) (Nat.le_refl _) HB9.out.size hq1 hc1 hq3 hc2).mono ?_
          rintro e w10 ⟨rfl, hb10⟩
          rw [HKS.out]
          have HB10 := Lib.hid (HB9.out.trans (hb10.mono HB9.out.size))
          clear hb10
          go_wp2_with fail
          go_ret
          exact ⟨rfl, HB10.out⟩

theorem walk (A : Option Addr) (len cap : Nat) (l : List Val) (w : World) (hL : IsL w A len cap l) :
    Calls Try.prog 10 #[.slice A len cap] w fun e w' => e = .returned (.bool true) ∧ Below w.heap.size w w' := by
  cases hf : fewB l with
  | false => exact walk_few A len cap l w hL hf
  | true =>
    by_cases hE : packE l = 0
    · exact walk_good A len cap l w hL hf hE
    · exact walk_bad A len cap l w hL hf hE

set_option maxRecDepth 100000 in
theorem lifted (os : Os) (started : os.Started) (H : Type) (enc : TypeId × Value → H) :
    ReturnsInHanded {} Try.checked os 10 .any (Rows.wireOwnSpec.pre6 enc Try.prog Try.f10 Rows.wireOwnRow.domain false) (Rows.wireOwnSpec.post enc Try.prog Try.f10 false true false false) := by
  refine returnsInHanded_of_change (C := Try.checked) own started (by kernel_rfl) Try.func10
    (ChangeSpec.witness6 (enc := enc) (C := Try.checked) false ⟨#[], #[.slice none 0 0], []⟩ 8 (by kernel_rfl) (by kernel_rfl) (by kernel_rfl) (by kernel_rfl)) ?_
  intro W base args ds gs before hval0 hW hcnd _
  have hval : ∀ (j : Nat) t v, Try.f10.params[j]? = some t → args[j]? = some v → Value.okWide Try.prog W .any base t v := hval0
  have hW' := hW
  obtain ⟨p, q, hA0, hV, rfl, hfz, hnd⟩ := hW
  have hA : DataW.TrodAll enc Try.prog W 0 (fun _ => true) true Try.f10.params.toList args.toList ds p := hA0
  rw [Try.params10] at hA hval
  obtain ⟨v0, vs0, d0, ds0, p0, q0, hargs, rfl, rfl, h0, r0⟩ := trodAll_cons hA
  obtain ⟨rfl, rfl, rfl⟩ := trodAll_nil r0
  obtain rfl : args = #[v0] := by cases args; simp_all
  obtain ⟨rfl, rfl⟩ := trodVars_none hV
  obtain ⟨A0, len0, cap0, rfl⟩ := okWide_slice Try.underlying22 (hval 0 22 v0 rfl rfl)
  obtain ⟨a0, w0⟩ := open_vals h0
  have lt0 : ∀ x ∈ p0, x.block < W.heap.size := by obtain ⟨m, hm⟩ := h0; exact DataW.trod_lt m _ _ _ hm
  clear hA0 hval0
  simp only [List.append_nil] at hW'
  refine (walk A0 len0 cap0 a0 W w0).mono fun e W' ⟨he, bel⟩ => ?_
  subst he
  exact ⟨_, rfl, _, _, _, [], _, [], hW', trodAll_mk1 (shut_bool Try.underlying4 _), (trodAll_cons_mk (Below.trod laidOut (by kernel_rfl) (of_decide_eq_true (by kernel_rfl)) h0 bel lt0) trodAll_mk0), rfl, bel.frame _, fun h => by cases h⟩

theorem proved : Rows.WireOwnSaid :=
  OpenClaim.holds_of_wide 10 Try.f10 rfl rfl rfl rfl rfl rfl rfl ⟨rfl, rfl, rfl, rfl, rfl⟩ rfl rfl rfl rfl rfl (by kernel_rfl) Try.func10 (by kernel_rfl)
    (of_decide_eq_true (by kernel_rfl)) (by unfold Func.isWrapper; first | (rw [if_pos (by decide +kernel)]; kernel_rfl) | (rw [if_neg (by decide +kernel)]; exact ⟨rfl, rfl⟩))
    (fun os started H enc _ => lifted os started H enc)
#print axioms proved
end Go.Proofs.Ytmaeacklloaeaaa.wireOwn
