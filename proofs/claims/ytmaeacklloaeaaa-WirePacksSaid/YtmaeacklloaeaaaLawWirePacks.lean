/- Every list of values has the document's bytes, or is refused with its error: WirePacks answers true at every list of values. No condition. -/
import Derived.Test.YtmaeacklloaeaaaWireZ
namespace Go.Proofs.Ytmaeacklloaeaaa.wirePacks
open Go.ChangeShapes Go.WideShapes Go.ChangeAt Go.RowKit Go.Fl Go.Wr
set_option linter.unusedVariables false
set_option linter.unusedSimpArgs false

theorem wf_f (l : List Val) (h : ∀ v ∈ l, v.wf) : ∀ v ∈ l, v.f < 18446744073709551616 := fun v hv => (h v hv).2.2.2.2.2.2.1
theorem same_self (l : List Val) : sameL l l = true := (sameL_iff l l).2 rfl

set_option maxHeartbeats 2000000 in
theorem walk (A : Option Addr) (len cap : Nat) (l : List Val) (w : World) (hL : IsL w A len cap l) : Calls Try.prog 3 #[.slice A len cap] w fun e w' => e = .returned (.bool true) ∧ Below w.heap.size w w' := by
  obtain ⟨rfl, hwf, hs, hc1, hc2, hn⟩ := hL
  have HF := Lib.hid (few_any w.heap.size A cap l w hs (Nat.le_refl _) hc1 hc2)
  have HW := Lib.hid hwf
  have HS := Lib.hid hs
  have HN := Lib.hid hn
  clear hs hwf hn
  cases hfew : fewB l with
  | false =>
    rw [hfew] at HF
    clear hfew
    go_enter Try.func3, Try.ntmps3
    go_wp2_with fail
    refine HF.out.mono ?_
    rintro e w1 ⟨rfl, rfl⟩
    go_wp2_with fail
    refine (awake_any _).mono ?_
    rintro e w2 ⟨rfl, hb2⟩
    have HB2 := Lib.hid hb2
    clear hb2
    go_wp2_with fail
    go_ret
    exact ⟨rfl, HB2.out⟩
  | true =>
    rw [hfew] at HF
    have hlen : l.length ≤ 2000 := by
      unfold fewB at hfew
      simp only [Bool.and_eq_true, decide_eq_true_eq] at hfew
      exact hfew.1
    clear hfew
    go_enter Try.func3, Try.ntmps3
    go_wp2_with fail
    refine HF.out.mono ?_
    rintro e w1 ⟨rfl, rfl⟩
    go_wp2_with (at_builtin; refine wpList_appG rfl (.tmp 12) (.tmp 13) _ 36 _ 5 48 rfl info_value Try.underlying22 rfl (by decide) w1.heap.size _ 0 [] rfl (own_empty w1 36 5) _ A l.length cap (rowV l) rfl (Sees.alloc HS.out (Nat.le_refl _) _) HN.out (rowV_one _) (by omega) (by omega) (by simp) ?_)
    intro v2 w2 ho2 hg2
    have hb2 : Below w1.heap.size w1 w2 := ((Below.refl w1.heap.size w1).alloc (Nat.le_refl _) _).grown hg2 (by simp) fun k hk => by
      have : some w1.heap.size = some k := hk
      injection this with this; omega
    have ho2' : OwnV w2 w1.heap.size v2 l := ho2
    obtain ⟨A2, c2, rfl, hx1, hx2⟩ := ho2'.slice
    have HO2 := Lib.hid ho2'
    have HB2 := Lib.hid hb2
    have hz2 := hb2.size
    clear ho2 ho2' hg2 hb2
    go_wp2_with fail
    refine (pack_any _ A2 c2 l _ HW.out (HO2.out.sees rfl) (Nat.le_refl _) hx1 (by unfold maxLen at hx2; exact hx2)).mono ?_
    rintro e w3 ⟨v3, rfl, ho3, hb3⟩
    obtain ⟨A3, c3, rfl, hy1, hy2⟩ := ho3.slice
    have HO3 := Lib.hid ho3
    have HO23 := Lib.hid (HO2.out.below hb3 (Nat.le_refl _))
    have HB3 := Lib.hid (HB2.out.trans (hb3.mono hz2))
    clear ho3 hb3
    go_wp2_with fail
    refine (rpack_any _ A cap l _ HW.out (Sees.below HS.out HB3.out) HB3.out.size hc1 hc2).mono ?_
    rintro e w4 ⟨rfl, hb4⟩
    have HO34 := Lib.hid (HO3.out.keep hb4 (Nat.le_refl _))
    have HO24 := Lib.hid (HO23.out.below hb4 (Nat.le_refl _))
    have HB4 := Lib.hid (HB3.out.trans (hb4.mono HB3.out.size))
    clear hb4
    generalize packE l = x at *
    generalize packB l = bs at *
    have hxx : (x == x) = true := by simp
    go_wp2_with fail
    refine (awake_any _).mono ?_
    rintro e w5 ⟨rfl, hb5⟩
    have HO25 := Lib.hid (HO24.out.below hb5 (Nat.le_refl _))
    have HB5 := Lib.hid (HB4.out.trans (hb5.mono HB4.out.size))
    have hcv : (convert 25 9 (.slice A3 bs.length c3)).run Try.prog w5 = .ok (.string (txt bs)) w5 := conv_bytes bs A3 c3 _ w5 ((HO34.out.keep hb5 (Nat.le_refl _)).sees rfl)
    have hst : ((txt bs).toList == (txt bs).toList) = true := by simp
    clear hb5
    generalize txt bs = st at *
    go_wp2_with fail
    refine (all_any _ _ A2 A c2 cap l l _ (by omega) (wf_f l HW.out) (wf_f l HW.out) (HO25.out.sees rfl) (Sees.below HS.out HB5.out) (Nat.le_refl _) HB5.out.size hx1 hc1 (by unfold maxLen at hx2; exact hx2) hc2).mono ?_
    rintro e w6 ⟨rfl, hb6⟩
    rw [same_self]
    have HB6 := Lib.hid (HB5.out.trans (hb6.mono HB5.out.size))
    clear hb6
    go_wp2_with fail
    go_ret
    exact ⟨rfl, HB6.out⟩

set_option maxRecDepth 100000 in
theorem lifted (os : Os) (started : os.Started) (H : Type) (enc : TypeId × Value → H) :
    ReturnsInHanded {} Try.checked os 3 .any (Rows.wirePacksSpec.pre6 enc Try.prog Try.f3 Rows.wirePacksRow.domain false) (Rows.wirePacksSpec.post enc Try.prog Try.f3 false true false false) := by
  refine returnsInHanded_of_change (C := Try.checked) own started (by kernel_rfl) Try.func3
    (ChangeSpec.witness6 (enc := enc) (C := Try.checked) false ⟨#[], #[.slice none 0 0], []⟩ 8 (by kernel_rfl) (by kernel_rfl) (by kernel_rfl) (by kernel_rfl)) ?_
  intro W base args ds gs before hval0 hW hcnd _
  have hval : ∀ (j : Nat) t v, Try.f3.params[j]? = some t → args[j]? = some v → Value.okWide Try.prog W .any base t v := hval0
  have hW' := hW
  obtain ⟨p, q, hA0, hV, rfl, hfz, hnd⟩ := hW
  have hA : DataW.TrodAll enc Try.prog W 0 (fun _ => true) true Try.f3.params.toList args.toList ds p := hA0
  rw [Try.params3] at hA hval
  obtain ⟨v0, vs0, d0, ds0, p0, q0, hargs, rfl, rfl, h0, r0⟩ := trodAll_cons hA
  obtain ⟨rfl, rfl, rfl⟩ := trodAll_nil r0
  obtain rfl : args = #[v0] := by cases args; simp_all
  obtain ⟨rfl, rfl⟩ := trodVars_none hV
  obtain ⟨A0, len0, cap0, rfl⟩ := okWide_slice Try.underlying22 (hval 0 22 v0 rfl rfl)
  obtain ⟨a0, w0⟩ := open_vals h0
  have lt0 : ∀ x ∈ p0, x.block < W.heap.size := by obtain ⟨m, hm⟩ := h0; exact DataW.trod_lt m _ _ _ hm
  clear hA0 hval0
  simp only [List.append_nil] at hW'
  refine (walk A0 len0 cap0 a0 W w0).mono fun e W' ⟨he, bel⟩ => ?_
  subst he
  exact ⟨_, rfl, _, _, _, [], _, [], hW', trodAll_mk1 (shut_bool Try.underlying4 _), (trodAll_cons_mk (Below.trod laidOut (by kernel_rfl) (of_decide_eq_true (by kernel_rfl)) h0 bel lt0) trodAll_mk0), rfl, bel.frame _, fun h => by cases h⟩

theorem proved : Rows.WirePacksSaid :=
  OpenClaim.holds_of_wide 3 Try.f3 rfl rfl rfl rfl rfl rfl rfl ⟨rfl, rfl, rfl, rfl, rfl⟩ rfl rfl rfl rfl rfl (by kernel_rfl) Try.func3 (by kernel_rfl)
    (of_decide_eq_true (by kernel_rfl)) (by unfold Func.isWrapper; first | (rw [if_pos (by decide +kernel)]; kernel_rfl) | (rw [if_neg (by decide +kernel)]; exact ⟨rfl, rfl⟩))
    (fun os started H enc _ => lifted os started H enc)
#print axioms proved
end Go.Proofs.Ytmaeacklloaeaaa.wirePacks
