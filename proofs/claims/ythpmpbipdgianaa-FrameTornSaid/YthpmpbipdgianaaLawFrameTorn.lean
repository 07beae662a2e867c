/- Of frames that are cut anywhere just those are told that are whole: FrameTorn answers true at every list of texts and every cut. No condition. -/
import Derived.Test.YthpmpbipdgianaaFrameZ
namespace Go.Proofs.Ythpmpbipdgianaa.frameTorn
open Go.ChangeShapes Go.WideShapes Go.ChangeAt Go.RowKit Go.Fm
set_option linter.unusedVariables false
set_option linter.unusedSimpArgs false

theorem own_place {w : World} {B : Nat} {A : Option Addr} {n c : Nat} {bs : List UInt8} (h : OwnB w B (.slice A n c) bs) : (A = none ∧ c = 0) ∨ ∃ b0 off, A = some ⟨b0, off, none⟩ ∧ b0 < w.heap.size := by
  rcases h.2 with ⟨hv, h0⟩ | ⟨g, cap, cur, hv, hb, hg, _⟩
  · injection hv with h1 h2 h3
    exact .inl ⟨h1, h3⟩
  · injection hv with h1 h2 h3
    exact .inr ⟨g, 0, h1, (Array.getElem?_eq_some_iff.1 hg).1⟩
theorem strs_take (ls : List (List UInt8)) (k : Nat) : (strs ls).take k = strs (ls.take k) := by unfold strs; rw [List.map_take]
theorem Sees.firstS {w : World} {B : Nat} {A : Option Addr} {ls : List (List UInt8)} (h : Sees w B 1 A ls.length (strs ls)) {k : Nat} (hk : k ≤ ls.length) : Sees w B 1 A (ls.take k).length (strs (ls.take k)) := by
  have := Sees.first h hk
  rw [Nat.mul_one, strs_take] at this
  rw [List.length_take, Nat.min_eq_left hk]; exact this

/-- The law behind its opening: the loads are few and short, and are sealed. -/
theorem shorts_few (ls : List (List UInt8)) : (shorts (ls.take 12)).length ≤ 12 ∧ ∀ l ∈ shorts (ls.take 12), l.length ≤ 300 := by
  refine ⟨by rw [shorts_length, List.length_take]; omega, fun l hl => ?_⟩
  obtain ⟨x, _, rfl⟩ := List.mem_map.1 hl
  rw [List.length_take]; omega
theorem frames_small (ms : List (List UInt8)) (h : ∀ l ∈ ms, l.length ≤ 300) : (frames ms).length ≤ ms.length * 308 := by
  induction ms with
  | nil => simp [frames]
  | cons l m ih =>
    have := ih fun x hx => h x (List.mem_cons_of_mem _ hx)
    have := h l (by simp)
    rw [frames_cons, List.length_append, frame_length, List.length_cons]; omega

set_option maxHeartbeats 4000000 in
theorem walk (A : Option Addr) (len cap : Nat) (ls : List (List UInt8)) (xa : Int) (hxa : 0 ≤ xa ∧ xa ≤ 65535) (w : World) (hL : IsS w A len cap ls) :
    Calls Try.prog 8 #[.slice A len cap, .int .u16 xa] w fun e w' => e = .returned (.bool true) ∧ Below w.heap.size w w' := by
  obtain ⟨rfl, hs, hc1, hc2, hlens⟩ := hL
  have HLD := Lib.hid (loads_any _ A cap ls w hs (Nat.le_refl _) (by omega) hlens)
  have hsf := shorts_few ls
  generalize shorts (ls.take 12) = ms at *
  obtain ⟨hm12, hm300⟩ := hsf
  have hF := frames_small ms hm300
  have HM3 := Lib.hid hm300
  have hlow : ∀ l ∈ ms, l.length ≤ 65536 := fun l hl => by have := hm300 l hl; omega
  obtain ⟨n, hn⟩ : ∃ n : Nat, xa % (((frames ms).length : Int) + 1) = (n : Int) := ⟨(xa % (((frames ms).length : Int) + 1)).toNat, by
    have := Int.emod_nonneg xa (show (((frames ms).length : Int) + 1) ≠ 0 by omega)
    omega⟩
  have hnF : n ≤ (frames ms).length := by
    have := Int.emod_lt_of_pos xa (show (0 : Int) < ((frames ms).length : Int) + 1 by omega)
    omega
  have hnz : (((frames ms).length : Int) + 1 == 0) = false := by simpa using (by omega : ¬ ((frames ms).length : Int) + 1 = 0)
  have hfull := fun k => frames_upto ms k
  have HUP := Lib.hid hfull
  have HTORN := Lib.hid (fun k => scan_torn ms n k hlow)
  clear hs hlens hm300 hlow hfull
  go_enter Try.func8, Try.ntmps8
  go_wp2_with fail
  refine HLD.out.mono ?_
  rintro e w1 ⟨v1, rfl, ho1, hb1⟩
  obtain ⟨A1, c1, rfl, hc11, hc12, -⟩ := own_slice0 ho1
  have HB1 := Lib.hid hb1
  have HZ1 := hb1.size
  have HX1 := Lib.hid (Sees.own ho1)
  have HSL := Lib.hid (sealed_any _ A1 c1 ms w1 (Sees.own ho1) (Nat.le_refl _) (by omega) HM3.out)
  clear ho1 hb1
  go_wp2_with fail
  refine HSL.out.mono ?_
  rintro e w2 ⟨v2, rfl, ho2, hb2⟩
  have HO2 := Lib.hid ho2
  have HB2 := Lib.hid (HB1.out.trans (hb2.mono HZ1))
  have HZ2 := HB2.out.size
  have HX2 := Lib.hid (HX1.out.below hb2)
  have hz2 := hb2.size
  obtain ⟨A2, c2, rfl, hc21, hc22, -⟩ := own_slice0 ho2
  have hpl := own_place ho2
  have HPL := Lib.hid hpl
  clear ho2 hb2 hpl
  go_wp2_with fail
  refine (awake_any _).mono ?_
  rintro e w3 ⟨rfl, hb3⟩
  have HO3 := Lib.hid (HO2.out.keep hb3 (Nat.le_refl _))
  have HB3 := Lib.hid (HB2.out.trans (hb3.mono HZ2))
  have HZ3 := HB3.out.size
  have hz3 := hb3.size
  have HX3 := Lib.hid (HX2.out.below (hb3.mono hz2))
  clear hb3
  have HSEB := Lib.hid (HO3.out.sees rfl)
  generalize hFL : (frames ms).length = F at *
  have HFL := Lib.hid hFL
  clear hFL
  go_wp2_with fail
  go_loop [9, 10] (fun i j => ∃ k : Nat, k ≤ ms.length ∧ i = .int .i64 (k : Int) ∧ j = .int .i64 (((frames (ms.take k)).length : Nat) : Int) ∧ (frames (ms.take k)).length ≤ n) (fun i _ => ms.length - (intOf i).toNat)
  case atStart => exact ⟨0, by omega, rfl, rfl, by simp [frames]⟩
  case round =>
    obtain ⟨k, hk, rfl, rfl, hkn⟩ := hrel
    by_cases hlt : k < ms.length
    · obtain ⟨l, hl⟩ : ∃ l, ms[k]? = some l := ⟨_, List.getElem?_eq_getElem hlt⟩
      obtain ⟨b0, off, rfl, hb, hcell⟩ := HX3.out.2 (by omega)
      have g0 := hcell k _ (strs_at ms k l hl)
      have hsz := txt_size l
      have hft := congrArg List.length (frames_take ms k l hl)
      rw [List.length_append, frame_length] at hft
      have hl3 := HM3.out l (List.mem_of_getElem? hl)
      have HFT := Lib.hid hft
      have HLK := Lib.hid hl
      clear hcell hl hft
      by_cases hfit : (frames (ms.take k)).length + 8 + l.length ≤ n
      · generalize (frames (ms.take k)).length = p at *
        go_wp2_with fail
        go_round
        case rel => exact ⟨k + 1, by omega, by go_num, by rw [HFT.out]; go_num, by rw [HFT.out]; omega⟩
        case measure => simp [intOf]; omega
      · have HT := Lib.hid (HTORN.out k hk hkn (fun l' hl' => by
          have := HLK.out.symm.trans hl'
          injection this with this
          subst this
          omega))
        have hsc := scan_all _ A2 c2 ((frames ms).take n) w3 (Sees.firstB (by rw [HFL.out]; exact HSEB.out) (by rw [HFL.out]; exact hnF)) (by
          rcases HPL.out with h | ⟨b1, o1, h, hb1⟩
          · exact .inl h
          · exact .inr ⟨b1, o1, h, by omega⟩) (Nat.le_refl _) (by rw [List.length_take]; omega) hc22 (by rw [List.length_take]; omega)
        unfold Scans at hsc
        rw [HT.out, show ((frames ms).take n).length = n by rw [List.length_take, HFL.out]; omega] at hsc
        have HSC := Lib.hid hsc
        have hkl : (ms.take k).length = k := by rw [List.length_take]; omega
        have HFK := Lib.hid (HUP.out k)
        have HXK := Lib.hid (Sees.firstS HX3.out (k := k) (by omega))
        have HPP : Hid (∀ (h : Nat) (A1' : Option Addr) (c1' : Nat) (w0 : World) (B0 : Nat), ShowsL w0 B0 (some ⟨h, 0, none⟩) (ms.take k) → Below w1.heap.size w3 w0 → B0 ≤ w0.heap.size → w1.heap.size ≤ w0.heap.size → Calls Try.prog 21 #[.slice (some ⟨h, 0, none⟩) k k, .slice (some ⟨b0, off, none⟩) k c1] w0 fun e w' => e = .returned (.bool true) ∧ Below w0.heap.size w0 w') := Lib.hid (fun h _ _ w0 B0 h1 h2 h3 h4 => by
          have := same_any B0 w1.heap.size (some ⟨h, 0, none⟩) (some ⟨b0, off, none⟩) k c1 (ms.take k) (ms.take k) w0 (by omega) h1 (HXK.out.below h2) h3 h4
          rw [hkl, decide_eq_true rfl] at this
          exact this)
        rw [hkl] at HSC
        clear hsc HTORN
        have hnc : n ≤ c2 := by omega
        generalize (frames (ms.take k)).length = p at *
        cases A2 with
        | none =>
          go_wp2_with fail
          refine HSC.out.mono ?_
          rintro e w4 ⟨h4, g4, cs4, v4, rfl, hsc4⟩
          have HB4 := Lib.hid (HB3.out.trans (hsc4.below.mono HZ3))
          have HS4 := Lib.hid (hsc4.shows (by have := HUP.out k; omega))
          have hb34 := Lib.hid (hsc4.below.mono (show w1.heap.size ≤ w3.heap.size by omega))
          have hz4 := hsc4.below.size
          clear hsc4
          go_wp2_with fail
          refine (HPP.out h4 none 0 w4 _ HS4.out hb34.out (Nat.le_refl _) (by omega)).mono ?_
          rintro e w5 ⟨rfl, hb5⟩
          have HB5 := Lib.hid (HB4.out.trans (hb5.mono HB4.out.size))
          clear hb5
          go_wp2_with fail
          go_ret
          exact ⟨rfl, HB5.out⟩
        | some ad =>
          go_wp2_with fail
          refine HSC.out.mono ?_
          rintro e w4 ⟨h4, g4, cs4, v4, rfl, hsc4⟩
          have HB4 := Lib.hid (HB3.out.trans (hsc4.below.mono HZ3))
          have HS4 := Lib.hid (hsc4.shows (by have := HUP.out k; omega))
          have hb34 := Lib.hid (hsc4.below.mono (show w1.heap.size ≤ w3.heap.size by omega))
          have hz4 := hsc4.below.size
          clear hsc4
          go_wp2_with fail
          refine (HPP.out h4 none 0 w4 _ HS4.out hb34.out (Nat.le_refl _) (by omega)).mono ?_
          rintro e w5 ⟨rfl, hb5⟩
          have HB5 := Lib.hid (HB4.out.trans (hb5.mono HB4.out.size))
          clear hb5
          go_wp2_with fail
          go_ret
          exact ⟨rfl, HB5.out⟩
    · obtain rfl : k = ms.length := by omega
      have HT := Lib.hid (HTORN.out ms.length hk hkn (fun l' hl' => by
        have := (List.getElem?_eq_some_iff.1 hl').1
        omega))
      have hsc := scan_all _ A2 c2 ((frames ms).take n) w3 (Sees.firstB (by rw [HFL.out]; exact HSEB.out) (by rw [HFL.out]; exact hnF)) (by
        rcases HPL.out with h | ⟨b1, o1, h, hb1⟩
        · exact .inl h
        · exact .inr ⟨b1, o1, h, by omega⟩) (Nat.le_refl _) (by rw [List.length_take]; omega) hc22 (by rw [List.length_take]; omega)
      unfold Scans at hsc
      rw [HT.out, show ((frames ms).take n).length = n by rw [List.length_take, HFL.out]; omega] at hsc
      have HSC := Lib.hid hsc
      have hkl : (ms.take ms.length).length = ms.length := by rw [List.length_take]; omega
      have HFK := Lib.hid (HUP.out ms.length)
      have HXK := Lib.hid (Sees.firstS HX3.out (k := ms.length) (by omega))
      have HPP : Hid (∀ (h : Nat) (A1' : Option Addr) (c1' : Nat) (w0 : World) (B0 : Nat), ShowsL w0 B0 (some ⟨h, 0, none⟩) (ms.take ms.length) → Below w1.heap.size w3 w0 → B0 ≤ w0.heap.size → w1.heap.size ≤ w0.heap.size → Calls Try.prog 21 #[.slice (some ⟨h, 0, none⟩) ms.length ms.length, .slice A1 ms.length c1] w0 fun e w' => e = .returned (.bool true) ∧ Below w0.heap.size w0 w') := Lib.hid (fun h _ _ w0 B0 h1 h2 h3 h4 => by
        have := same_any B0 w1.heap.size (some ⟨h, 0, none⟩) A1 ms.length c1 (ms.take ms.length) (ms.take ms.length) w0 (by omega) h1 (HXK.out.below h2) h3 h4
        rw [hkl, decide_eq_true rfl] at this
        exact this)
      rw [hkl] at HSC
      clear hsc HTORN
      have hnc : n ≤ c2 := by omega
      cases A2 with
      | none =>
        go_wp2_with fail
        refine HSC.out.mono ?_
        rintro e w4 ⟨h4, g4, cs4, v4, rfl, hsc4⟩
        have HB4 := Lib.hid (HB3.out.trans (hsc4.below.mono HZ3))
        have HS4 := Lib.hid (hsc4.shows (by have := HUP.out ms.length; omega))
        have hb34 := Lib.hid (hsc4.below.mono (show w1.heap.size ≤ w3.heap.size by omega))
        have hz4 := hsc4.below.size
        clear hsc4
        go_wp2_with fail
        refine (HPP.out h4 none 0 w4 _ HS4.out hb34.out (Nat.le_refl _) (by omega)).mono ?_
        rintro e w5 ⟨rfl, hb5⟩
        have HB5 := Lib.hid (HB4.out.trans (hb5.mono HB4.out.size))
        clear hb5
        go_wp2_with fail
        go_ret
        exact ⟨rfl, HB5.out⟩
      | some ad =>
        go_wp2_with fail
        refine HSC.out.mono ?_
        rintro e w4 ⟨h4, g4, cs4, v4, rfl, hsc4⟩
        have HB4 := Lib.hid (HB3.out.trans (hsc4.below.mono HZ3))
        have HS4 := Lib.hid (hsc4.shows (by have := HUP.out ms.length; omega))
        have hb34 := Lib.hid (hsc4.below.mono (show w1.heap.size ≤ w3.heap.size by omega))
        have hz4 := hsc4.below.size
        clear hsc4
        go_wp2_with fail
        refine (HPP.out h4 none 0 w4 _ HS4.out hb34.out (Nat.le_refl _) (by omega)).mono ?_
        rintro e w5 ⟨rfl, hb5⟩
        have HB5 := Lib.hid (HB4.out.trans (hb5.mono HB4.out.size))
        clear hb5
        go_wp2_with fail
        go_ret
        exact ⟨rfl, HB5.out⟩

set_option maxRecDepth 100000 in
theorem lifted (os : Os) (started : os.Started) (H : Type) (enc : TypeId × Value → H) :
    ReturnsInHanded {} Try.checked os 8 .any (Rows.frameTornSpec.pre6 enc Try.prog Try.f8 Rows.frameTornRow.domain false) (Rows.frameTornSpec.post enc Try.prog Try.f8 false true false false) := by
  refine returnsInHanded_of_change (C := Try.checked) own started (by kernel_rfl) Try.func8
    (ChangeSpec.witness6 (enc := enc) (C := Try.checked) false ⟨#[], #[.slice none 0 0, .int .u16 0], []⟩ 8 (by kernel_rfl) (by kernel_rfl) (by kernel_rfl) (by kernel_rfl)) ?_
  intro W base args ds gs before hval0 hW hcnd _
  have hval : ∀ (j : Nat) t v, Try.f8.params[j]? = some t → args[j]? = some v → Value.okWide Try.prog W .any base t v := hval0
  have hW' := hW
  obtain ⟨p, q, hA0, hV, rfl, hfz, hnd⟩ := hW
  have hA : DataW.TrodAll enc Try.prog W 0 (fun _ => true) true Try.f8.params.toList args.toList ds p := hA0
  rw [Try.params8] at hA hval
  obtain ⟨v0, vs0, d0, ds0, p0, q0, hargs, rfl, rfl, h0, r0⟩ := trodAll_cons hA
  obtain ⟨v1, vs1, d1, ds1, p1, q1, rfl, rfl, rfl, h1, r1⟩ := trodAll_cons r0
  obtain ⟨rfl, rfl, rfl⟩ := trodAll_nil r1
  obtain rfl : args = #[v0, v1] := by cases args; simp_all
  obtain ⟨rfl, rfl⟩ := trodVars_none hV
  obtain ⟨A0, len0, cap0, rfl⟩ := okWide_slice Try.underlying42 (hval 0 42 v0 rfl rfl)
  obtain ⟨l0, w0⟩ := open_strs h0
  have lt0 : ∀ x ∈ p0, x.block < W.heap.size := by obtain ⟨m, hm⟩ := h0; exact DataW.trod_lt m _ _ _ hm
  obtain ⟨a1, rfl⟩ := okWide_int Try.underlying47 (hval 1 47 v1 rfl rfl)
  have w1 : 0 ≤ a1 ∧ a1 ≤ 65535 := by
    obtain ⟨m, hm⟩ := h1
    obtain ⟨s, hs, _, hl⟩ := DataW.trod_int Try.underlying47 hm
    simp [Value.cells] at hs
    rw [hs]; exact bounds_u16 hl
  have lt1 : ∀ x ∈ p1, x.block < W.heap.size := by obtain ⟨m, hm⟩ := h1; exact DataW.trod_lt m _ _ _ hm
  clear hA0 hval0
  simp only [List.append_nil] at hW'
  refine (walk A0 len0 cap0 l0 a1 w1 W w0).mono fun e W' ⟨he, bel⟩ => ?_
  subst he
  exact ⟨_, rfl, _, _, _, [], _, [], hW', trodAll_mk1 (shut_bool Try.underlying4 _), (trodAll_cons_mk (Below.trod laidOut (by kernel_rfl) (of_decide_eq_true (by kernel_rfl)) h0 bel lt0) (trodAll_cons_mk (Below.trod laidOut (by kernel_rfl) (of_decide_eq_true (by kernel_rfl)) h1 bel lt1) trodAll_mk0)), rfl, bel.frame _, fun h => by cases h⟩

theorem proved : Rows.FrameTornSaid :=
  OpenClaim.holds_of_wide 8 Try.f8 rfl rfl rfl rfl rfl rfl rfl ⟨rfl, rfl, rfl, rfl, rfl⟩ rfl rfl rfl rfl rfl (by kernel_rfl) Try.func8 (by kernel_rfl)
    (of_decide_eq_true (by kernel_rfl)) (by unfold Func.isWrapper; first | (rw [if_pos (by decide +kernel)]; kernel_rfl) | (rw [if_neg (by decide +kernel)]; exact ⟨rfl, rfl⟩))
    (fun os started H enc _ => lifted os started H enc)
#print axioms proved
end Go.Proofs.Ythpmpbipdgianaa.frameTorn
