/- Any numbers come to the document's total, or are refused: AmountTotals answers true at every list of numbers. No condition. -/
import Derived.Test.YtggmbkmkjkllkaaAmtZ
namespace Go.Proofs.Ytggmbkmkjkllkaa.amountTotals
open Go.ChangeShapes Go.WideShapes Go.ChangeAt Go.RowKit Go.Am Go.Fl
set_option linter.unusedVariables false
set_option linter.unusedSimpArgs false

set_option maxHeartbeats 4000000 in
theorem walk (A : Option Addr) (len cap : Nat) (l : List Int) (w : World) (hL : IsN w A len cap l) :
    Calls Try.prog 4 #[.slice A len cap] w fun e w' => e = .returned (.bool true) ∧ Below w.heap.size w w' := by
  obtain ⟨rfl, hs, hc1, hc2, hn, hr⟩ := hL
  by_cases hbig : 5000 < l.length
  · clear hs hr hn
    have hd : (5000 : Int) < (l.length : Int) := by omega
    go_enter Try.func4, Try.ntmps4
    go_wp2_with fail
    refine (awake_any _).mono ?_
    rintro e w1 ⟨rfl, hb1⟩
    go_wp2_with fail
    go_ret
    exact ⟨rfl, hb1⟩
  · have HS := Lib.hid hs
    have HN := Lib.hid hn
    have HR := Lib.hid hr
    have hd : (l.length : Int) ≤ 5000 := by omega
    have hlen : l.length ≤ 5000 := by omega
    have htc := tot_cases l
    clear hs hn hr hbig
    rcases htc with ⟨he, ho, -, -⟩ | ⟨he, ho, -, -⟩
    all_goals
      have HE := Lib.hid he
      have HO := Lib.hid ho
      clear he ho
      go_enter Try.func4, Try.ntmps4
      go_wp2_with (at_builtin; refine wpList_appG rfl (.tmp 12) (.tmp 13) _ 2 _ 1 8 rfl info_i64 Try.underlying27 rfl (by decide) w.heap.size _ 0 [] rfl (own_empty w 2 1) _ A l.length cap (vals l) rfl (HS.out.alloc (Nat.le_refl _) _) HN.out (vals_one _) (by omega) (by omega) (by simp) ?_)
      intro v1 w1 ho1 hg1
      have hb1 : Below w.heap.size w w1 := ((Below.refl w.heap.size w).alloc (Nat.le_refl _) _).grown hg1 (by simp) fun k hk => by
        have : some w.heap.size = some k := hk
        injection this with this; omega
      have ho1' : OwnN w1 w.heap.size v1 l := by unfold OwnN; simpa using ho1
      obtain ⟨A1, c1, rfl, hc11, hc12, -⟩ := own_slice0 ho1'
      have HX1 := Lib.hid (ho1'.sees rfl)
      have HB1 := Lib.hid hb1
      have hz1 := hb1.size
      clear ho1 hg1 ho1' hb1
      have HT := Lib.hid (total_any _ A1 c1 l w1 HX1.out (Nat.le_refl _) (by omega) HR.out)
      rw [HE.out] at HT
      go_wp2_with fail
      refine HT.out.mono ?_
      rintro e w2 ⟨rfl, hb2⟩
      have HB2 := Lib.hid (HB1.out.trans (hb2.mono hz1))
      have HX2 := Lib.hid (HX1.out.below hb2)
      have hz2 := hb2.size
      have HRT := Lib.hid (rtotal_any _ A cap l w2 (HS.out.below HB2.out) (by omega))
      rw [HO.out] at HRT
      clear hb2 HT
      generalize totV l = V at *
      go_wp2_with fail
      refine HRT.out.mono ?_
      rintro e w3 ⟨rfl, rfl⟩
      go_wp2_with fail
      refine (awake_any _).mono ?_
      rintro e w4 ⟨rfl, hb4⟩
      have HB4 := Lib.hid (HB2.out.trans (hb4.mono HB2.out.size))
      have HX4 := Lib.hid (HX2.out.below (hb4.mono hz2))
      have HY4 := Lib.hid (HS.out.below HB4.out)
      have hz4 := HB4.out.size
      have hz41 := hb4.size
      clear hb4 HRT
      go_wp2_with fail
      refine (same_any _ _ A1 A c1 cap l l w4 (by omega) HX4.out HY4.out (by omega) hz4).mono ?_
      rintro e w5 ⟨rfl, hb5⟩
      rw [decide_eq_true (rfl : l = l)]
      have HB5 := Lib.hid (HB4.out.trans (hb5.mono HB4.out.size))
      clear hb5
      go_wp2_with fail
      go_ret
      exact ⟨rfl, HB5.out⟩

set_option maxRecDepth 100000 in
theorem lifted (os : Os) (started : os.Started) (H : Type) (enc : TypeId × Value → H) :
    ReturnsInHanded {} Try.checked os 4 .any (Rows.amountTotalsSpec.pre6 enc Try.prog Try.f4 Rows.amountTotalsRow.domain false) (Rows.amountTotalsSpec.post enc Try.prog Try.f4 false true false false) := by
  refine returnsInHanded_of_change (C := Try.checked) own started (by kernel_rfl) Try.func4
    (ChangeSpec.witness6 (enc := enc) (C := Try.checked) false ⟨#[], #[.slice none 0 0], []⟩ 8 (by kernel_rfl) (by kernel_rfl) (by kernel_rfl) (by kernel_rfl)) ?_
  intro W base args ds gs before hval0 hW hcnd _
  have hval : ∀ (j : Nat) t v, Try.f4.params[j]? = some t → args[j]? = some v → Value.okWide Try.prog W .any base t v := hval0
  have hW' := hW
  obtain ⟨p, q, hA0, hV, rfl, hfz, hnd⟩ := hW
  have hA : DataW.TrodAll enc Try.prog W 0 (fun _ => true) true Try.f4.params.toList args.toList ds p := hA0
  rw [Try.params4] at hA hval
  obtain ⟨v0, vs0, d0, ds0, p0, q0, hargs, rfl, rfl, h0, r0⟩ := trodAll_cons hA
  obtain ⟨rfl, rfl, rfl⟩ := trodAll_nil r0
  obtain rfl : args = #[v0] := by cases args; simp_all
  obtain ⟨rfl, rfl⟩ := trodVars_none hV
  obtain ⟨A0, len0, cap0, rfl⟩ := okWide_slice Try.underlying27 (hval 0 27 v0 rfl rfl)
  obtain ⟨l0, w0⟩ := open_nums h0
  have lt0 : ∀ x ∈ p0, x.block < W.heap.size := by obtain ⟨m, hm⟩ := h0; exact DataW.trod_lt m _ _ _ hm
  clear hA0 hval0
  simp only [List.append_nil] at hW'
  refine (walk A0 len0 cap0 l0 W w0).mono fun e W' ⟨he, bel⟩ => ?_
  subst he
  exact ⟨_, rfl, _, _, _, [], _, [], hW', trodAll_mk1 (shut_bool Try.underlying4 _), (trodAll_cons_mk (Below.trod laidOut (by kernel_rfl) (of_decide_eq_true (by kernel_rfl)) h0 bel lt0) trodAll_mk0), rfl, bel.frame _, fun h => by cases h⟩

theorem proved : Rows.AmountTotalsSaid :=
  OpenClaim.holds_of_wide 4 Try.f4 rfl rfl rfl rfl rfl rfl rfl ⟨rfl, rfl, rfl, rfl, rfl⟩ rfl rfl rfl rfl rfl (by kernel_rfl) Try.func4 (by kernel_rfl)
    (of_decide_eq_true (by kernel_rfl)) (by unfold Func.isWrapper; first | (rw [if_pos (by decide +kernel)]; kernel_rfl) | (rw [if_neg (by decide +kernel)]; exact ⟨rfl, rfl⟩))
    (fun os started H enc _ => lifted os started H enc)
#print axioms proved
end Go.Proofs.Ytggmbkmkjkllkaa.amountTotals
