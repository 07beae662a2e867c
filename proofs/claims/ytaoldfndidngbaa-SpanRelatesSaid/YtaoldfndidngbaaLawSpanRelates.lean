/- What any two spans have both, whether one is before the other one, and which times are in one, is as the document says: SpanRelates answers true at every two spans and every number. No condition. -/
import Derived.Test.YtaoldfndidngbaaSpanZ
namespace Go.Proofs.Ytaoldfndidngbaa.spanRelates
open Go.ChangeShapes Go.WideShapes Go.ChangeAt Go.RowKit Go.Sp Go.Fl
set_option linter.unusedVariables false
set_option linter.unusedSimpArgs false

set_option maxHeartbeats 8000000 in
theorem walk (lo hi : Int) (hs : R64 lo ∧ R64 hi) (lo' hi' : Int) (hs' : R64 lo' ∧ R64 hi') (t : Int) (ht : -9223372036854775808 ≤ t ∧ t ≤ 9223372036854775807) (w : World) :
    Calls Try.prog 5 #[.agg #[.int .i64 lo, .int .i64 hi], .agg #[.int .i64 lo', .int .i64 hi'], .int .i64 t] w fun e w' => e = .returned (.bool true) ∧ Below w.heap.size w w' := by
  have HM := Lib.hid (fun w0 => smeet_any lo hi lo' hi' w0 hs.1 hs.2 hs'.1 hs'.2)
  have HN := Lib.hid (fun w0 => rmeet_any lo hi lo' hi' w0)
  have HI := Lib.hid (fun w0 => ris_any lo hi w0)
  have HJ := Lib.hid (fun w0 => ris_any lo' hi' w0)
  have HH := Lib.hid (fun w0 => shas_any lo hi t w0 hs.1 hs.2 (r64 t (by omega)))
  have HR := Lib.hid (fun w0 => rhas_any lo hi t w0)
  have HB := Lib.hid (fun w0 => sbefore_any lo hi lo' hi' w0 hs.1 hs.2 hs'.1 hs'.2)
  have H0 := Lib.hid (((St.start w).alloc w.heap.size rfl 23 #[.int .i64 lo, .int .i64 hi]).alloc (w.heap.size + 1) (by simp) 23 #[.int .i64 lo', .int .i64 hi'])
  clear hs hs' ht
  generalize mL lo hi lo' hi' = L at *
  generalize mH lo hi lo' hi' = M at *
  generalize metB lo hi lo' hi' = b at *
  generalize hasB lo hi t = h at *
  have key : (isS lo hi = false ∧ befB lo hi lo' hi' = false) ∨ (isS lo hi = true ∧ isS lo' hi' = false ∧ befB lo hi lo' hi' = false) ∨ (isS lo hi = true ∧ isS lo' hi' = true ∧ befB lo hi lo' hi' = decide (hi < lo')) := by
    unfold befB
    cases isS lo hi <;> cases isS lo' hi' <;> simp
  have tail : ∀ (bb : Bool), True := fun _ => trivial
  clear tail
  rcases key with ⟨k1, k3⟩ | ⟨k1, k2, k3⟩ | ⟨k1, k2, k3⟩
  · rw [k1] at HI
    rw [k3] at HB
    clear k1 k3
    go_enter Try.func5, Try.ntmps5
    go_wp2_with fail
    refine (HM.out _).mono ?_
    rintro e w1 ⟨rfl, hb1⟩
    have H1 := Lib.hid (H0.out.call hb1)
    obtain ⟨c0, e0, d0, f0, z0⟩ := H1.out.two 0 (w.heap.size + 1) rfl
    obtain ⟨c1, e1, d1, f1, z1⟩ := H1.out.two 1 w.heap.size rfl
    clear hb1
    go_wp2_with fail
    refine (HN.out _).mono ?_
    rintro e w2 ⟨rfl, hb2⟩
    clear c0 e0 d0 f0 z0 c1 e1 d1 f1 z1
    have H2 := Lib.hid ((H1.out.alloc w1.heap.size rfl 23 #[.int .i64 L, .int .i64 M]).call hb2)
    obtain ⟨c1, e1, d1, f1, z1⟩ := H2.out.two 1 (w.heap.size + 1) rfl
    obtain ⟨c2, e2, d2, f2, z2⟩ := H2.out.two 2 w.heap.size rfl
    clear hb2
    go_wp2_with fail
    refine (HI.out _).mono ?_
    rintro e w3 ⟨rfl, hb3⟩
    clear c1 e1 d1 f1 z1 c2 e2 d2 f2 z2
    have H3 := Lib.hid ((H2.out.alloc w2.heap.size rfl 23 #[.int .i64 L, .int .i64 M]).call hb3)
    obtain ⟨c0, e0, d0, f0, z0⟩ := H3.out.two 0 w2.heap.size rfl
    obtain ⟨c1, e1, d1, f1, z1⟩ := H3.out.two 1 w1.heap.size rfl
    obtain ⟨c2, e2, d2, f2, z2⟩ := H3.out.two 2 (w.heap.size + 1) rfl
    obtain ⟨c3, e3, d3, f3, z3⟩ := H3.out.two 3 w.heap.size rfl
    clear hb3
    have H4 := H3
    clear H0 H1 H2 H3 c0 e0 d0 f0 z0 c1 e1 d1 f1 z1 c2 e2 d2 f2 z2 c3 e3 d3 f3 z3
    obtain ⟨C, hC, HCc, HCf⟩ := H4.out.class
    clear H4
    go_wp2_with fail
    refine region_in C hC (by kernel_rfl) (by kernel_rfl) ?_
    iterate 28
      (refine WQ.step (fun K hK => ?_)
       go_simp
       first
         | (refine hK _ ?_; clear hK K)
         | (apply Exists.intro
            refine ⟨fun x hx => ?_, hK _ ?_⟩
            · first
                | rfl
                | (go_at_call 15; refine (awake_any _).mono ?_; rintro e x1 ⟨rfl, hb⟩; exact ⟨rfl, HCc.out _ _ hx hb⟩)
                | (go_at_call 22; refine (HH.out _).mono ?_; rintro e x1 ⟨rfl, hb⟩; exact ⟨rfl, HCc.out _ _ hx hb⟩)
                | (go_at_call 23; refine (HR.out _).mono ?_; rintro e x1 ⟨rfl, hb⟩; exact ⟨rfl, HCc.out _ _ hx hb⟩)
                | (go_at_call 24; refine (HB.out _).mono ?_; rintro e x1 ⟨rfl, hb⟩; exact ⟨rfl, HCc.out _ _ hx hb⟩)
                | (have HX := HCf.out _ hx
                   obtain ⟨c0, e0, d0, f0, z0⟩ := HX.two 0 w2.heap.size rfl
                   obtain ⟨c1, e1, d1, f1, z1⟩ := HX.two 1 w1.heap.size rfl
                   obtain ⟨c2, e2, d2, f2, z2⟩ := HX.two 2 (w.heap.size + 1) rfl
                   obtain ⟨c3, e3, d3, f3, z3⟩ := HX.two 3 w.heap.size rfl
                   clear HX
                   go_simp
                   rfl)
            clear hK K))
    refine WQ.nil ?_
    intro w7 hw
    have H7 := Lib.hid (HCf.out _ hw)
    clear hw hC HCc HCf C
    go_wp2_with fail
    go_ret
    exact ⟨by first | rfl | (simp; done), H7.out.below⟩
  · rw [k1] at HI
    rw [k2] at HJ
    rw [k3] at HB
    clear k1 k2 k3
    go_enter Try.func5, Try.ntmps5
    go_wp2_with fail
    refine (HM.out _).mono ?_
    rintro e w1 ⟨rfl, hb1⟩
    have H1 := Lib.hid (H0.out.call hb1)
    obtain ⟨c0, e0, d0, f0, z0⟩ := H1.out.two 0 (w.heap.size + 1) rfl
    obtain ⟨c1, e1, d1, f1, z1⟩ := H1.out.two 1 w.heap.size rfl
    clear hb1
    go_wp2_with fail
    refine (HN.out _).mono ?_
    rintro e w2 ⟨rfl, hb2⟩
    clear c0 e0 d0 f0 z0 c1 e1 d1 f1 z1
    have H2 := Lib.hid ((H1.out.alloc w1.heap.size rfl 23 #[.int .i64 L, .int .i64 M]).call hb2)
    obtain ⟨c1, e1, d1, f1, z1⟩ := H2.out.two 1 (w.heap.size + 1) rfl
    obtain ⟨c2, e2, d2, f2, z2⟩ := H2.out.two 2 w.heap.size rfl
    clear hb2
    go_wp2_with fail
    refine (HI.out _).mono ?_
    rintro e w3 ⟨rfl, hb3⟩
    clear c1 e1 d1 f1 z1 c2 e2 d2 f2 z2
    have H3 := Lib.hid ((H2.out.alloc w2.heap.size rfl 23 #[.int .i64 L, .int .i64 M]).call hb3)
    obtain ⟨c0, e0, d0, f0, z0⟩ := H3.out.two 0 w2.heap.size rfl
    obtain ⟨c1, e1, d1, f1, z1⟩ := H3.out.two 1 w1.heap.size rfl
    obtain ⟨c2, e2, d2, f2, z2⟩ := H3.out.two 2 (w.heap.size + 1) rfl
    obtain ⟨c3, e3, d3, f3, z3⟩ := H3.out.two 3 w.heap.size rfl
    clear hb3
    go_wp2_with fail
    refine (HJ.out _).mono ?_
    rintro e w4 ⟨rfl, hb4⟩
    clear c0 e0 d0 f0 z0 c1 e1 d1 f1 z1 c2 e2 d2 f2 z2 c3 e3 d3 f3 z3
    have H4 := Lib.hid (H3.out.call hb4)
    obtain ⟨c2, e2, d2, f2, z2⟩ := H4.out.two 2 (w.heap.size + 1) rfl
    obtain ⟨c3, e3, d3, f3, z3⟩ := H4.out.two 3 w.heap.size rfl
    clear hb4 H0 H1 H2 H3
    obtain ⟨C, hC, HCc, HCf⟩ := H4.out.class
    clear H4
    go_wp2_with fail
    refine region_in C hC (by kernel_rfl) (by kernel_rfl) ?_
    iterate 28
      (refine WQ.step (fun K hK => ?_)
       go_simp
       first
         | (refine hK _ ?_; clear hK K)
         | (apply Exists.intro
            refine ⟨fun x hx => ?_, hK _ ?_⟩
            · first
                | rfl
                | (go_at_call 15; refine (awake_any _).mono ?_; rintro e x1 ⟨rfl, hb⟩; exact ⟨rfl, HCc.out _ _ hx hb⟩)
                | (go_at_call 22; refine (HH.out _).mono ?_; rintro e x1 ⟨rfl, hb⟩; exact ⟨rfl, HCc.out _ _ hx hb⟩)
                | (go_at_call 23; refine (HR.out _).mono ?_; rintro e x1 ⟨rfl, hb⟩; exact ⟨rfl, HCc.out _ _ hx hb⟩)
                | (go_at_call 24; refine (HB.out _).mono ?_; rintro e x1 ⟨rfl, hb⟩; exact ⟨rfl, HCc.out _ _ hx hb⟩)
                | (have HX := HCf.out _ hx
                   obtain ⟨c0, e0, d0, f0, z0⟩ := HX.two 0 w2.heap.size rfl
                   obtain ⟨c1, e1, d1, f1, z1⟩ := HX.two 1 w1.heap.size rfl
                   obtain ⟨c2, e2, d2, f2, z2⟩ := HX.two 2 (w.heap.size + 1) rfl
                   obtain ⟨c3, e3, d3, f3, z3⟩ := HX.two 3 w.heap.size rfl
                   clear HX
                   go_simp
                   rfl)
            clear hK K))
    refine WQ.nil ?_
    intro w7 hw
    have H7 := Lib.hid (HCf.out _ hw)
    clear hw hC HCc HCf C
    go_wp2_with fail
    go_ret
    exact ⟨by first | rfl | (simp; done), H7.out.below⟩
  · rw [k1] at HI
    rw [k2] at HJ
    rw [k3] at HB
    clear k1 k2 k3
    go_enter Try.func5, Try.ntmps5
    go_wp2_with fail
    refine (HM.out _).mono ?_
    rintro e w1 ⟨rfl, hb1⟩
    have H1 := Lib.hid (H0.out.call hb1)
    obtain ⟨c0, e0, d0, f0, z0⟩ := H1.out.two 0 (w.heap.size + 1) rfl
    obtain ⟨c1, e1, d1, f1, z1⟩ := H1.out.two 1 w.heap.size rfl
    clear hb1
    go_wp2_with fail
    refine (HN.out _).mono ?_
    rintro e w2 ⟨rfl, hb2⟩
    clear c0 e0 d0 f0 z0 c1 e1 d1 f1 z1
    have H2 := Lib.hid ((H1.out.alloc w1.heap.size rfl 23 #[.int .i64 L, .int .i64 M]).call hb2)
    obtain ⟨c1, e1, d1, f1, z1⟩ := H2.out.two 1 (w.heap.size + 1) rfl
    obtain ⟨c2, e2, d2, f2, z2⟩ := H2.out.two 2 w.heap.size rfl
    clear hb2
    go_wp2_with fail
    refine (HI.out _).mono ?_
    rintro e w3 ⟨rfl, hb3⟩
    clear c1 e1 d1 f1 z1 c2 e2 d2 f2 z2
    have H3 := Lib.hid ((H2.out.alloc w2.heap.size rfl 23 #[.int .i64 L, .int .i64 M]).call hb3)
    obtain ⟨c0, e0, d0, f0, z0⟩ := H3.out.two 0 w2.heap.size rfl
    obtain ⟨c1, e1, d1, f1, z1⟩ := H3.out.two 1 w1.heap.size rfl
    obtain ⟨c2, e2, d2, f2, z2⟩ := H3.out.two 2 (w.heap.size + 1) rfl
    obtain ⟨c3, e3, d3, f3, z3⟩ := H3.out.two 3 w.heap.size rfl
    clear hb3
    go_wp2_with fail
    refine (HJ.out _).mono ?_
    rintro e w4 ⟨rfl, hb4⟩
    clear c0 e0 d0 f0 z0 c1 e1 d1 f1 z1 c2 e2 d2 f2 z2 c3 e3 d3 f3 z3
    have H4 := Lib.hid (H3.out.call hb4)
    obtain ⟨c2, e2, d2, f2, z2⟩ := H4.out.two 2 (w.heap.size + 1) rfl
    obtain ⟨c3, e3, d3, f3, z3⟩ := H4.out.two 3 w.heap.size rfl
    clear hb4 H0 H1 H2 H3
    obtain ⟨C, hC, HCc, HCf⟩ := H4.out.class
    clear H4
    go_wp2_with fail
    refine region_in C hC (by kernel_rfl) (by kernel_rfl) ?_
    iterate 28
      (refine WQ.step (fun K hK => ?_)
       go_simp
       first
         | (refine hK _ ?_; clear hK K)
         | (apply Exists.intro
            refine ⟨fun x hx => ?_, hK _ ?_⟩
            · first
                | rfl
                | (go_at_call 15; refine (awake_any _).mono ?_; rintro e x1 ⟨rfl, hb⟩; exact ⟨rfl, HCc.out _ _ hx hb⟩)
                | (go_at_call 22; refine (HH.out _).mono ?_; rintro e x1 ⟨rfl, hb⟩; exact ⟨rfl, HCc.out _ _ hx hb⟩)
                | (go_at_call 23; refine (HR.out _).mono ?_; rintro e x1 ⟨rfl, hb⟩; exact ⟨rfl, HCc.out _ _ hx hb⟩)
                | (go_at_call 24; refine (HB.out _).mono ?_; rintro e x1 ⟨rfl, hb⟩; exact ⟨rfl, HCc.out _ _ hx hb⟩)
                | (have HX := HCf.out _ hx
                   obtain ⟨c0, e0, d0, f0, z0⟩ := HX.two 0 w2.heap.size rfl
                   obtain ⟨c1, e1, d1, f1, z1⟩ := HX.two 1 w1.heap.size rfl
                   obtain ⟨c2, e2, d2, f2, z2⟩ := HX.two 2 (w.heap.size + 1) rfl
                   obtain ⟨c3, e3, d3, f3, z3⟩ := HX.two 3 w.heap.size rfl
                   clear HX
                   go_simp
                   rfl)
            clear hK K))
    refine WQ.nil ?_
    intro w7 hw
    have H7 := Lib.hid (HCf.out _ hw)
    clear hw hC HCc HCf C
    go_wp2_with fail
    go_ret
    exact ⟨by first | rfl | (simp; done), H7.out.below⟩

set_option maxRecDepth 100000 in
theorem lifted (os : Os) (started : os.Started) (H : Type) (enc : TypeId × Value → H) :
    ReturnsInHanded {} Try.checked os 5 .any (Rows.spanRelatesSpec.pre6 enc Try.prog Try.f5 Rows.spanRelatesRow.domain false) (Rows.spanRelatesSpec.post enc Try.prog Try.f5 false true false false) := by
  refine returnsInHanded_of_change (C := Try.checked) own started (by kernel_rfl) Try.func5
    (ChangeSpec.witness6 (enc := enc) (C := Try.checked) false ⟨#[], #[.agg #[.int .i64 0, .int .i64 0], .agg #[.int .i64 0, .int .i64 0], .int .i64 0], []⟩ 8 (by kernel_rfl) (by kernel_rfl) (by kernel_rfl) (by kernel_rfl)) ?_
  intro W base args ds gs before hval0 hW hcnd _
  have hval : ∀ (j : Nat) t v, Try.f5.params[j]? = some t → args[j]? = some v → Value.okWide Try.prog W .any base t v := hval0
  have hW' := hW
  obtain ⟨p, q, hA0, hV, rfl, hfz, hnd⟩ := hW
  have hA : DataW.TrodAll enc Try.prog W 0 (fun _ => true) true Try.f5.params.toList args.toList ds p := hA0
  rw [Try.params5] at hA hval
  obtain ⟨v0, vs0, d0, ds0, p0, q0, hargs, rfl, rfl, h0, r0⟩ := trodAll_cons hA
  obtain ⟨v1, vs1, d1, ds1, p1, q1, rfl, rfl, rfl, h1, r1⟩ := trodAll_cons r0
  obtain ⟨v2, vs2, d2, ds2, p2, q2, rfl, rfl, rfl, h2, r2⟩ := trodAll_cons r1
  obtain ⟨rfl, rfl, rfl⟩ := trodAll_nil r2
  obtain rfl : args = #[v0, v1, v2] := by cases args; simp_all
  obtain ⟨rfl, rfl⟩ := trodVars_none hV
  obtain ⟨a0, b0, rfl, w0⟩ := open_span (hval 0 23 v0 rfl rfl) h0
  have lt0 : ∀ x ∈ p0, x.block < W.heap.size := by obtain ⟨m, hm⟩ := h0; exact DataW.trod_lt m _ _ _ hm
  obtain ⟨a1, b1, rfl, w1⟩ := open_span (hval 1 23 v1 rfl rfl) h1
  have lt1 : ∀ x ∈ p1, x.block < W.heap.size := by obtain ⟨m, hm⟩ := h1; exact DataW.trod_lt m _ _ _ hm
  obtain ⟨a2, rfl⟩ := okWide_int Try.underlying2 (hval 2 2 v2 rfl rfl)
  have w2 : -9223372036854775808 ≤ a2 ∧ a2 ≤ 9223372036854775807 := by
    obtain ⟨m, hm⟩ := h2
    obtain ⟨s, hs, _, hl⟩ := DataW.trod_int Try.underlying2 hm
    simp [Value.cells] at hs
    rw [hs]; have := bounds_i64 hl; omega
  have lt2 : ∀ x ∈ p2, x.block < W.heap.size := by obtain ⟨m, hm⟩ := h2; exact DataW.trod_lt m _ _ _ hm
  clear hA0 hval0
  simp only [List.append_nil] at hW'
  refine (walk a0 b0 w0 a1 b1 w1 a2 w2 W ).mono fun e W' ⟨he, bel⟩ => ?_
  subst he
  exact ⟨_, rfl, _, _, _, [], _, [], hW', trodAll_mk1 (shut_bool Try.underlying4 _), (trodAll_cons_mk (Below.trod laidOut (by kernel_rfl) (of_decide_eq_true (by kernel_rfl)) h0 bel lt0) (trodAll_cons_mk (Below.trod laidOut (by kernel_rfl) (of_decide_eq_true (by kernel_rfl)) h1 bel lt1) (trodAll_cons_mk (Below.trod laidOut (by kernel_rfl) (of_decide_eq_true (by kernel_rfl)) h2 bel lt2) trodAll_mk0))), rfl, bel.frame _, fun h => by cases h⟩

theorem proved : Rows.SpanRelatesSaid :=
  OpenClaim.holds_of_wide 5 Try.f5 rfl rfl rfl rfl rfl rfl rfl ⟨rfl, rfl, rfl, rfl, rfl⟩ rfl rfl rfl rfl rfl (by kernel_rfl) Try.func5 (by kernel_rfl)
    (of_decide_eq_true (by kernel_rfl)) (by unfold Func.isWrapper; first | (rw [if_pos (by decide +kernel)]; kernel_rfl) | (rw [if_neg (by decide +kernel)]; exact ⟨rfl, rfl⟩))
    (fun os started H enc _ => lifted os started H enc)
#print axioms proved
end Go.Proofs.Ytaoldfndidngbaa.spanRelates
