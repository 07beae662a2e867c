/- What is unpacked has just these bytes: WireOnce answers true at every text. No condition. -/
import Derived.Test.YtmaeacklloaeaaaWireZ
namespace Go.Proofs.Ytmaeacklloaeaaa.wireOnce
open Go.ChangeShapes Go.WideShapes Go.ChangeAt Go.RowKit Go.Fl Go.Wr
set_option linter.unusedVariables false
set_option linter.unusedSimpArgs false

theorem text_run (s : ByteArray) (w : World) : ∃ c W', (convert 9 25 (.string s)).run Try.prog w = .ok (.slice (some ⟨w.heap.size, 0, none⟩) s.size c) W' ∧ s.size ≤ c ∧ (s.size ≤ 9223372036854775807 → c ≤ 9223372036854775807) ∧
    Sees W' (w.heap.size + 1) 1 (some ⟨w.heap.size, 0, none⟩) s.data.toList.length (Lib.byteCells s.data.toList) ∧ Below w.heap.size w W' ∧ w.heap.size + 1 ≤ W'.heap.size := by
  have h := run_bytes_of_string w 9 25 5 s Try.underlying9 Try.underlying25 Try.underlying5
  refine ⟨_, _, h, grownCap_ge _ _ _ _, fun hm => ?_, ?_, ?_, ?_⟩
  · have := grownCap_le_maxLen w s.size 0 5 (by unfold maxLen; exact hm)
    unfold maxLen at this; exact this
  · refine ⟨by simp [Lib.byteCells], fun _ => ⟨w.heap.size, 0, rfl, by omega, fun j u hu => ?_⟩⟩
    have hj : j < s.data.size := by
      have := (List.getElem?_eq_some_iff.1 hu).1
      simpa [Lib.byteCells] using this
    rw [Nat.zero_add, show w.heap.size = w.drew.heap.size from rfl, World.cell?_alloc_mark, bytesRow_at s _ j hj]
    unfold Lib.byteCells at hu
    rw [List.getElem?_map, List.getElem?_eq_getElem (by simpa using hj)] at hu
    simpa using hu
  · exact ((Below.refl w.heap.size w).drew).alloc (Nat.le_refl _) _
  · show _ ≤ (w.drew.alloc _).heap.size
    simp

set_option maxHeartbeats 1000000 in
theorem walk (s : ByteArray) (hs : s.size ≤ maxLen) (w : World) : Calls Try.prog 6 #[.string s] w fun e w' => e = .returned (.bool true) ∧ Below w.heap.size w w' := by
  unfold maxLen at hs
  by_cases hbig : 20000 < s.size
  · have hd : decide ((20000 : Int) < (s.size : Int)) = true := by simpa using (by omega : (20000 : Int) < (s.size : Int))
    go_enter Try.func6, Try.ntmps6
    go_wp2_with fail
    refine (awake_any _).mono ?_
    rintro e w2 ⟨rfl, hb2⟩
    have HB2 := Lib.hid hb2
    clear hb2
    go_wp2_with fail
    go_ret
    exact ⟨rfl, HB2.out⟩
  · have hd : decide ((20000 : Int) < (s.size : Int)) = false := by simpa using (by omega : (s.size : Int) ≤ 20000)
    obtain ⟨c, W1, hrun, hc1, hc2, hsee, hbel, hz⟩ := text_run s w
    have hc3 := hc2 hs
    have hbs : s.data.toList.length = s.size := ba_size s
    obtain ⟨bs, hbs0⟩ : ∃ bs, bs = s.data.toList := ⟨_, rfl⟩
    have hbt : (⟨bs.toArray⟩ : ByteArray) = s := by rw [hbs0]
    rw [← hbs0] at hsee hbs
    have HUN := Lib.hid (unpack_any (w.heap.size + 1) _ c bs W1 hsee hz (by omega) hc3)
    rw [hbs] at HUN
    have HSE := Lib.hid hsee
    have HBL := Lib.hid hbel
    have HBT := Lib.hid hbt
    have HBS := Lib.hid hbs
    clear hsee hbel hbs0 hbs hbt hc2
    go_enter Try.func6, Try.ntmps6
    go_wp2_with fail
    refine HUN.out.mono ?_
    rintro e w2 ⟨v2, rfl, ho2, hb2⟩
    obtain ⟨⟨m, p, x⟩, hrd⟩ : ∃ y, rdAll 0 0 bs = y := ⟨_, rfl⟩
    have hbad := rdAll_bad bs
    rw [hrd] at ho2 hbad ⊢
    simp only at ho2 hbad ⊢
    obtain ⟨A2, c2, rfl, hx1, hx2⟩ := ho2.slice
    have HB2 := Lib.hid (HBL.out.trans (hb2.mono HBL.out.size))
    have HO2 := Lib.hid ho2
    clear hb2 ho2
    by_cases hx : x = 0
    · subst hx
      obtain ⟨hgood, hnorm, henc, hlen, -⟩ := once bs.length bs 0 0 m p (Nat.le_refl _) (by omega) hrd
      have hE : packE m = 0 := (packE_zero m).2 ⟨by omega, fun v hv => (hgood v hv).2⟩
      have hB : packB m = bs := by unfold packB; rw [if_pos hE, henc]
      have HE := Lib.hid hE
      have HPB := Lib.hid hB
      have HW := Lib.hid (fun v hv => (hgood v hv).1 : ∀ v ∈ m, v.wf)
      clear hgood hnorm henc hE hB hrd hbad
      go_wp2_with fail
      refine (awake_any _).mono ?_
      rintro e w3 ⟨rfl, hb3⟩
      have HO3 := Lib.hid (HO2.out.below hb3 (Nat.le_refl _))
      have HB3 := Lib.hid (HB2.out.trans (hb3.mono HB2.out.size))
      clear hb3
      go_wp2_with fail
      refine (pack_any _ A2 c2 m _ HW.out (HO3.out.sees rfl) (Nat.le_refl _) hx1 (by unfold maxLen at hx2; exact hx2)).mono ?_
      rintro e w4 ⟨v4, rfl, ho4, hb4⟩
      rw [HE.out]
      rw [HPB.out] at ho4
      obtain ⟨A4, c4, rfl, hy1, hy2⟩ := ho4.slice
      have HB4 := Lib.hid (HB3.out.trans (hb4.mono HB3.out.size))
      have hcv := conv_bytes bs A4 c4 _ w4 (ho4.sees rfl)
      rw [HBT.out, HBS.out] at hcv
      rw [HBS.out]
      have hst : (s.toList == s.toList) = true := by simp
      clear ho4 hb4
      go_wp2_with fail
      go_ret
      exact ⟨rfl, HB4.out⟩
    · have hm := hbad hx
      subst hm
      have hne : (x != 0) = true := by simpa using hx
      clear hrd hbad hx
      go_wp2_with fail
      refine (awake_any _).mono ?_
      rintro e w3 ⟨rfl, hb3⟩
      have HB3 := Lib.hid (HB2.out.trans (hb3.mono HB2.out.size))
      clear hb3
      go_wp2_with fail
      refine (awake_any _).mono ?_
      rintro e w4 ⟨rfl, hb4⟩
      have HB4 := Lib.hid (HB3.out.trans (hb4.mono HB3.out.size))
      clear hb4
      go_wp2_with fail
      go_ret
      exact ⟨rfl, HB4.out⟩

set_option maxRecDepth 100000 in
theorem lifted (os : Os) (started : os.Started) (H : Type) (enc : TypeId × Value → H) :
    ReturnsInHanded {} Try.checked os 6 .any (Rows.wireOnceSpec.pre6 enc Try.prog Try.f6 Rows.wireOnceRow.domain false) (Rows.wireOnceSpec.post enc Try.prog Try.f6 false true false false) := by
  refine returnsInHanded_of_change (C := Try.checked) own started (by kernel_rfl) Try.func6
    (ChangeSpec.witness6 (enc := enc) (C := Try.checked) false ⟨#[], #[.string ⟨#[]⟩], []⟩ 8 (by kernel_rfl) (by kernel_rfl) (by kernel_rfl) (by kernel_rfl)) ?_
  intro W base args ds gs before hval0 hW hcnd _
  have hval : ∀ (j : Nat) t v, Try.f6.params[j]? = some t → args[j]? = some v → Value.okWide Try.prog W .any base t v := hval0
  have hW' := hW
  obtain ⟨p, q, hA0, hV, rfl, hfz, hnd⟩ := hW
  have hA : DataW.TrodAll enc Try.prog W 0 (fun _ => true) true Try.f6.params.toList args.toList ds p := hA0
  rw [Try.params6] at hA hval
  obtain ⟨v0, vs0, d0, ds0, p0, q0, hargs, rfl, rfl, h0, r0⟩ := trodAll_cons hA
  obtain ⟨rfl, rfl, rfl⟩ := trodAll_nil r0
  obtain rfl : args = #[v0] := by cases args; simp_all
  obtain ⟨rfl, rfl⟩ := trodVars_none hV
  obtain ⟨a0, rfl⟩ := okWide_string Try.underlying9 (hval 0 9 v0 rfl rfl)
  have w0 : a0.size ≤ maxLen := by
    obtain ⟨m, hm⟩ := h0
    obtain ⟨s, hs, _, hl⟩ := DataW.trod_string Try.underlying9 hm
    simp [Value.cells] at hs
    rw [hs]; exact hl
  have lt0 : ∀ x ∈ p0, x.block < W.heap.size := by obtain ⟨m, hm⟩ := h0; exact DataW.trod_lt m _ _ _ hm
  clear hA0 hval0
  simp only [List.append_nil] at hW'
  refine (walk a0 w0 W ).mono fun e W' ⟨he, bel⟩ => ?_
  subst he
  exact ⟨_, rfl, _, _, _, [], _, [], hW', trodAll_mk1 (shut_bool Try.underlying4 _), (trodAll_cons_mk (Below.trod laidOut (by kernel_rfl) (of_decide_eq_true (by kernel_rfl)) h0 bel lt0) trodAll_mk0), rfl, bel.frame _, fun h => by cases h⟩

theorem proved : Rows.WireOnceSaid :=
  OpenClaim.holds_of_wide 6 Try.f6 rfl rfl rfl rfl rfl rfl rfl ⟨rfl, rfl, rfl, rfl, rfl⟩ rfl rfl rfl rfl rfl (by kernel_rfl) Try.func6 (by kernel_rfl)
    (of_decide_eq_true (by kernel_rfl)) (by unfold Func.isWrapper; first | (rw [if_pos (by decide +kernel)]; kernel_rfl) | (rw [if_neg (by decide +kernel)]; exact ⟨rfl, rfl⟩))
    (fun os started H enc _ => lifted os started H enc)
#print axioms proved
end Go.Proofs.Ytmaeacklloaeaaa.wireOnce
