/- Any spans are joined as the document says: SpanJoins answers true at every list of spans. No condition. -/
import Derived.Test.YtaoldfndidngbaaSpanZ
namespace Go.Proofs.Ytaoldfndidngbaa.spanJoins
open Go.ChangeShapes Go.WideShapes Go.ChangeAt Go.RowKit Go.Sp Go.Fl
set_option linter.unusedVariables false
set_option linter.unusedSimpArgs false

theorem info_span : (Try.prog.info? 23).map (fun i => (i.zero, i.size, i.bytes)) = some (some (.agg #[.int .i64 0, .int .i64 0]), 2, 16) := by kernel_rfl
set_option maxHeartbeats 8000000 in
theorem walk (A : Option Addr) (len cap : Nat) (l : List (Int × Int)) (w : World) (hL : IsL w A len cap l) :
    Calls Try.prog 6 #[.slice A len cap] w fun e w' => e = .returned (.bool true) ∧ Below w.heap.size w w' := by
  obtain ⟨rfl, hs, hc1, hc2, hn, hr⟩ := hL
  by_cases hbig : 2000 < l.length
  · clear hs hr hn
    have hd : (2000 : Int) < (l.length : Int) := by omega
    go_enter Try.func6, Try.ntmps6
    go_wp2_with fail
    refine (awake_any _).mono ?_
    rintro e w1 ⟨rfl, hb1⟩
    go_wp2_with fail
    go_ret
    exact ⟨rfl, hb1⟩
  · have HS := Lib.hid hs
    have HN := Lib.hid hn
    have HR := Lib.hid hr
    have hd : (l.length : Int) ≤ 2000 := by omega
    have hlen : l.length ≤ 2000 := by omega
    clear hs hn hr hbig
    go_enter Try.func6, Try.ntmps6
    go_wp2_with (at_builtin; refine wpList_appG rfl (.tmp 12) (.tmp 13) _ 23 _ 2 16 rfl info_span Try.underlying40 rfl (by decide) w.heap.size _ 0 [] rfl (own_empty w 23 2) _ A l.length cap (spans l) rfl (HS.out.alloc (Nat.le_refl _) _) HN.out (spans_one _) (by omega) (by omega) (by simp) ?_)
    intro v1 w1 ho1 hg1
    have hb1 : Below w.heap.size w w1 := ((Below.refl w.heap.size w).alloc (Nat.le_refl _) _).grown hg1 (by simp) fun k hk => by
      have : some w.heap.size = some k := hk
      injection this with this; omega
    obtain ⟨A1, c1, rfl, hc11, hc12, -⟩ := own_slice0 ho1
    have HX1 := Lib.hid (Sees.own ho1)
    have H1 := Lib.hid ((St.start w).call hb1)
    have hz1 := hb1.size
    clear ho1 hg1 hb1
    have HT := Lib.hid (sjoin_any _ A1 c1 l w1 HX1.out (Nat.le_refl _) (by omega) HR.out (by omega))
    have HU := Lib.hid (fun w2 (h : Below w.heap.size w w2) => rjoin_any _ A cap l w2 (HS.out.below h) h.size (by omega))
    generalize joiL l = L at *
    generalize joiH l = M at *
    generalize joiB l = b at *
    go_wp2_with fail
    refine HT.out.mono ?_
    rintro e w2 ⟨rfl, hb2⟩
    have H2 := Lib.hid ((H1.out.call hb2).alloc w2.heap.size rfl 23 #[.int .i64 L, .int .i64 M])
    clear hb2 HT
    go_wp2_with fail
    refine (HU.out _ H2.out.below).mono ?_
    rintro e w3 ⟨rfl, hb3⟩
    have H3 := Lib.hid ((H2.out.call hb3).alloc w3.heap.size rfl 23 #[.int .i64 L, .int .i64 M])
    clear hb3
    go_wp2_with fail
    refine (awake_any _).mono ?_
    rintro e w4 ⟨rfl, hb4⟩
    have H4 := Lib.hid (H3.out.call hb4)
    clear hb4
    obtain ⟨c0, e0, d0, f0, z0⟩ := H4.out.two 0 w3.heap.size rfl
    obtain ⟨c1, e1, d1, f1, z1⟩ := H4.out.two 1 w2.heap.size rfl
    go_wp2_with fail
    go_ret
    exact ⟨by first | rfl | (simp; done), H4.out.below⟩

set_option maxRecDepth 100000 in
theorem lifted (os : Os) (started : os.Started) (H : Type) (enc : TypeId × Value → H) :
    ReturnsInHanded {} Try.checked os 6 .any (Rows.spanJoinsSpec.pre6 enc Try.prog Try.f6 Rows.spanJoinsRow.domain false) (Rows.spanJoinsSpec.post enc Try.prog Try.f6 false true false false) := by
  refine returnsInHanded_of_change (C := Try.checked) own started (by kernel_rfl) Try.func6
    (ChangeSpec.witness6 (enc := enc) (C := Try.checked) false ⟨#[], #[.slice none 0 0], []⟩ 8 (by kernel_rfl) (by kernel_rfl) (by kernel_rfl) (by kernel_rfl)) ?_
  intro W base args ds gs before hval0 hW hcnd _
  have hval : ∀ (j : Nat) t v, Try.f6.params[j]? = some t → args[j]? = some v → Value.okWide Try.prog W .any base t v := hval0
  have hW' := hW
  obtain ⟨p, q, hA0, hV, rfl, hfz, hnd⟩ := hW
  have hA : DataW.TrodAll enc Try.prog W 0 (fun _ => true) true Try.f6.params.toList args.toList ds p := hA0
  rw [Try.params6] at hA hval
  obtain ⟨v0, vs0, d0, ds0, p0, q0, hargs, rfl, rfl, h0, r0⟩ := trodAll_cons hA
  obtain ⟨rfl, rfl, rfl⟩ := trodAll_nil r0
  obtain rfl : args = #[v0] := by cases args; simp_all
  obtain ⟨rfl, rfl⟩ := trodVars_none hV
  obtain ⟨A0, len0, cap0, rfl⟩ := okWide_slice Try.underlying40 (hval 0 40 v0 rfl rfl)
  obtain ⟨l0, w0⟩ := open_spans h0
  have lt0 : ∀ x ∈ p0, x.block < W.heap.size := by obtain ⟨m, hm⟩ := h0; exact DataW.trod_lt m _ _ _ hm
  clear hA0 hval0
  simp only [List.append_nil] at hW'
  refine (walk A0 len0 cap0 l0 W w0).mono fun e W' ⟨he, bel⟩ => ?_
  subst he
  exact ⟨_, rfl, _, _, _, [], _, [], hW', trodAll_mk1 (shut_bool Try.underlying4 _), (trodAll_cons_mk (Below.trod laidOut (by kernel_rfl) (of_decide_eq_true (by kernel_rfl)) h0 bel lt0) trodAll_mk0), rfl, bel.frame _, fun h => by cases h⟩

theorem proved : Rows.SpanJoinsSaid :=
  OpenClaim.holds_of_wide 6 Try.f6 rfl rfl rfl rfl rfl rfl rfl ⟨rfl, rfl, rfl, rfl, rfl⟩ rfl rfl rfl rfl rfl (by kernel_rfl) Try.func6 (by kernel_rfl)
    (of_decide_eq_true (by kernel_rfl)) (by unfold Func.isWrapper; first | (rw [if_pos (by decide +kernel)]; kernel_rfl) | (rw [if_neg (by decide +kernel)]; exact ⟨rfl, rfl⟩))
    (fun os started H enc _ => lifted os started H enc)
#print axioms proved
end Go.Proofs.Ytaoldfndidngbaa.spanJoins
