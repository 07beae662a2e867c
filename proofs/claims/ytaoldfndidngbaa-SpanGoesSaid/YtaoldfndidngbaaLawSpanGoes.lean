/- To be before goes through, and not back: SpanGoes answers true at every three spans. No condition. -/
import Derived.Test.YtaoldfndidngbaaSpanZ
namespace Go.Proofs.Ytaoldfndidngbaa.spanGoes
open Go.ChangeShapes Go.WideShapes Go.ChangeAt Go.RowKit Go.Sp Go.Fl
set_option linter.unusedVariables false
set_option linter.unusedSimpArgs false

set_option maxHeartbeats 16000000 in
theorem walk (lo hi : Int) (hs : R64 lo ∧ R64 hi) (lo' hi' : Int) (hs' : R64 lo' ∧ R64 hi') (l3 h3 : Int) (hs3 : R64 l3 ∧ R64 h3) (w : World) :
    Calls Try.prog 9 #[.agg #[.int .i64 lo, .int .i64 hi], .agg #[.int .i64 lo', .int .i64 hi'], .agg #[.int .i64 l3, .int .i64 h3]] w fun e w' => e = .returned (.bool true) ∧ Below w.heap.size w w' := by
  have HAA := Lib.hid (fun w0 => sbefore_any lo hi lo hi w0 hs.1 hs.2 hs.1 hs.2)
  have HAB := Lib.hid (fun w0 => sbefore_any lo hi lo' hi' w0 hs.1 hs.2 hs'.1 hs'.2)
  have HBA := Lib.hid (fun w0 => sbefore_any lo' hi' lo hi w0 hs'.1 hs'.2 hs.1 hs.2)
  have HBC := Lib.hid (fun w0 => sbefore_any lo' hi' l3 h3 w0 hs'.1 hs'.2 hs3.1 hs3.2)
  have HAC := Lib.hid (fun w0 => sbefore_any lo hi l3 h3 w0 hs.1 hs.2 hs3.1 hs3.2)
  have H0 := Lib.hid ((((St.start w).alloc w.heap.size rfl 23 #[.int .i64 lo, .int .i64 hi]).alloc (w.heap.size + 1) (by simp) 23 #[.int .i64 lo', .int .i64 hi']).alloc (w.heap.size + 2) (by simp) 23 #[.int .i64 l3, .int .i64 h3])
  have kaa : befB lo hi lo hi = false := by
    unfold befB
    cases h : isS lo hi with
    | false => rfl
    | true =>
      have := (isS_iff lo hi).1 h
      simp; omega
  have key : (befB lo hi lo' hi' = false) ∨ (befB lo hi lo' hi' = true ∧ befB lo' hi' lo hi = false ∧ (befB lo' hi' l3 h3 = false ∨ befB lo' hi' l3 h3 = true ∧ befB lo hi l3 h3 = true)) := by
    unfold befB
    cases h1 : isS lo hi <;> cases h2 : isS lo' hi' <;> cases h4 : isS l3 h3 <;> simp
    · have p1 := (isS_iff _ _).1 h1
      have p2 := (isS_iff _ _).1 h2
      omega
    · have p1 := (isS_iff _ _).1 h1
      have p2 := (isS_iff _ _).1 h2
      omega
  rw [kaa] at HAA
  clear hs hs' hs3 kaa
  rcases key with k1 | ⟨k1, k2, k3⟩
  · rw [k1] at HAB
    clear k1
    go_enter Try.func9, Try.ntmps9
    go_wp2_with fail
    refine (awake_any _).mono ?_
    rintro e x ⟨rfl, hb⟩
    replace H0 := Lib.hid (H0.out.call hb)
    clear hb
    obtain ⟨c0, e0, d0, f0, z0⟩ := H0.out.two 0 (w.heap.size + 2) rfl
    obtain ⟨c1, e1, d1, f1, z1⟩ := H0.out.two 1 (w.heap.size + 1) rfl
    obtain ⟨c2, e2, d2, f2, z2⟩ := H0.out.two 2 w.heap.size rfl
    go_wp2_with fail
    refine (HAA.out _).mono ?_
    rintro e x ⟨rfl, hb⟩
    replace H0 := Lib.hid (H0.out.call hb)
    clear hb c0 e0 d0 f0 z0 c1 e1 d1 f1 z1 c2 e2 d2 f2 z2
    obtain ⟨c0, e0, d0, f0, z0⟩ := H0.out.two 0 (w.heap.size + 2) rfl
    obtain ⟨c1, e1, d1, f1, z1⟩ := H0.out.two 1 (w.heap.size + 1) rfl
    obtain ⟨c2, e2, d2, f2, z2⟩ := H0.out.two 2 w.heap.size rfl
    go_wp2_with fail
    refine (HAB.out _).mono ?_
    rintro e x ⟨rfl, hb⟩
    replace H0 := Lib.hid (H0.out.call hb)
    clear hb c0 e0 d0 f0 z0 c1 e1 d1 f1 z1 c2 e2 d2 f2 z2
    obtain ⟨c0, e0, d0, f0, z0⟩ := H0.out.two 0 (w.heap.size + 2) rfl
    obtain ⟨c1, e1, d1, f1, z1⟩ := H0.out.two 1 (w.heap.size + 1) rfl
    obtain ⟨c2, e2, d2, f2, z2⟩ := H0.out.two 2 w.heap.size rfl
    go_wp2_with fail
    refine (HAB.out _).mono ?_
    rintro e x ⟨rfl, hb⟩
    replace H0 := Lib.hid (H0.out.call hb)
    clear hb c0 e0 d0 f0 z0 c1 e1 d1 f1 z1 c2 e2 d2 f2 z2
    obtain ⟨c0, e0, d0, f0, z0⟩ := H0.out.two 0 (w.heap.size + 2) rfl
    obtain ⟨c1, e1, d1, f1, z1⟩ := H0.out.two 1 (w.heap.size + 1) rfl
    obtain ⟨c2, e2, d2, f2, z2⟩ := H0.out.two 2 w.heap.size rfl
    go_wp2_with fail
    go_ret
    exact ⟨rfl, H0.out.below⟩
  · rw [k1] at HAB
    rw [k2] at HBA
    rcases k3 with k3 | ⟨k3, k4⟩
    · rw [k3] at HBC
      clear k1 k2 k3
      go_enter Try.func9, Try.ntmps9
      go_wp2_with fail
      refine (awake_any _).mono ?_
      rintro e x ⟨rfl, hb⟩
      replace H0 := Lib.hid (H0.out.call hb)
      clear hb
      obtain ⟨c0, e0, d0, f0, z0⟩ := H0.out.two 0 (w.heap.size + 2) rfl
      obtain ⟨c1, e1, d1, f1, z1⟩ := H0.out.two 1 (w.heap.size + 1) rfl
      obtain ⟨c2, e2, d2, f2, z2⟩ := H0.out.two 2 w.heap.size rfl
      go_wp2_with fail
      refine (HAA.out _).mono ?_
      rintro e x ⟨rfl, hb⟩
      replace H0 := Lib.hid (H0.out.call hb)
      clear hb c0 e0 d0 f0 z0 c1 e1 d1 f1 z1 c2 e2 d2 f2 z2
      obtain ⟨c0, e0, d0, f0, z0⟩ := H0.out.two 0 (w.heap.size + 2) rfl
      obtain ⟨c1, e1, d1, f1, z1⟩ := H0.out.two 1 (w.heap.size + 1) rfl
      obtain ⟨c2, e2, d2, f2, z2⟩ := H0.out.two 2 w.heap.size rfl
      go_wp2_with fail
      refine (HAB.out _).mono ?_
      rintro e x ⟨rfl, hb⟩
      replace H0 := Lib.hid (H0.out.call hb)
      clear hb c0 e0 d0 f0 z0 c1 e1 d1 f1 z1 c2 e2 d2 f2 z2
      obtain ⟨c0, e0, d0, f0, z0⟩ := H0.out.two 0 (w.heap.size + 2) rfl
      obtain ⟨c1, e1, d1, f1, z1⟩ := H0.out.two 1 (w.heap.size + 1) rfl
      obtain ⟨c2, e2, d2, f2, z2⟩ := H0.out.two 2 w.heap.size rfl
      go_wp2_with fail
      refine (HBA.out _).mono ?_
      rintro e x ⟨rfl, hb⟩
      replace H0 := Lib.hid (H0.out.call hb)
      clear hb c0 e0 d0 f0 z0 c1 e1 d1 f1 z1 c2 e2 d2 f2 z2
      obtain ⟨c0, e0, d0, f0, z0⟩ := H0.out.two 0 (w.heap.size + 2) rfl
      obtain ⟨c1, e1, d1, f1, z1⟩ := H0.out.two 1 (w.heap.size + 1) rfl
      obtain ⟨c2, e2, d2, f2, z2⟩ := H0.out.two 2 w.heap.size rfl
      go_wp2_with fail
      refine (HAB.out _).mono ?_
      rintro e x ⟨rfl, hb⟩
      replace H0 := Lib.hid (H0.out.call hb)
      clear hb c0 e0 d0 f0 z0 c1 e1 d1 f1 z1 c2 e2 d2 f2 z2
      obtain ⟨c0, e0, d0, f0, z0⟩ := H0.out.two 0 (w.heap.size + 2) rfl
      obtain ⟨c1, e1, d1, f1, z1⟩ := H0.out.two 1 (w.heap.size + 1) rfl
      obtain ⟨c2, e2, d2, f2, z2⟩ := H0.out.two 2 w.heap.size rfl
      go_wp2_with fail
      refine (HBC.out _).mono ?_
      rintro e x ⟨rfl, hb⟩
      replace H0 := Lib.hid (H0.out.call hb)
      clear hb c0 e0 d0 f0 z0 c1 e1 d1 f1 z1 c2 e2 d2 f2 z2
      obtain ⟨c0, e0, d0, f0, z0⟩ := H0.out.two 0 (w.heap.size + 2) rfl
      obtain ⟨c1, e1, d1, f1, z1⟩ := H0.out.two 1 (w.heap.size + 1) rfl
      obtain ⟨c2, e2, d2, f2, z2⟩ := H0.out.two 2 w.heap.size rfl
      go_wp2_with fail
      go_ret
      exact ⟨rfl, H0.out.below⟩
    · rw [k3] at HBC
      rw [k4] at HAC
      clear k1 k2 k3 k4
      go_enter Try.func9, Try.ntmps9
      go_wp2_with fail
      refine (awake_any _).mono ?_
      rintro e x ⟨rfl, hb⟩
      replace H0 := Lib.hid (H0.out.call hb)
      clear hb
      obtain ⟨c0, e0, d0, f0, z0⟩ := H0.out.two 0 (w.heap.size + 2) rfl
      obtain ⟨c1, e1, d1, f1, z1⟩ := H0.out.two 1 (w.heap.size + 1) rfl
      obtain ⟨c2, e2, d2, f2, z2⟩ := H0.out.two 2 w.heap.size rfl
      go_wp2_with fail
      refine (HAA.out _).mono ?_
      rintro e x ⟨rfl, hb⟩
      replace H0 := Lib.hid (H0.out.call hb)
      clear hb c0 e0 d0 f0 z0 c1 e1 d1 f1 z1 c2 e2 d2 f2 z2
      obtain ⟨c0, e0, d0, f0, z0⟩ := H0.out.two 0 (w.heap.size + 2) rfl
      obtain ⟨c1, e1, d1, f1, z1⟩ := H0.out.two 1 (w.heap.size + 1) rfl
      obtain ⟨c2, e2, d2, f2, z2⟩ := H0.out.two 2 w.heap.size rfl
      go_wp2_with fail
      refine (HAB.out _).mono ?_
      rintro e x ⟨rfl, hb⟩
      replace H0 := Lib.hid (H0.out.call hb)
      clear hb c0 e0 d0 f0 z0 c1 e1 d1 f1 z1 c2 e2 d2 f2 z2
      obtain ⟨c0, e0, d0, f0, z0⟩ := H0.out.two 0 (w.heap.size + 2) rfl
      obtain ⟨c1, e1, d1, f1, z1⟩ := H0.out.two 1 (w.heap.size + 1) rfl
      obtain ⟨c2, e2, d2, f2, z2⟩ := H0.out.two 2 w.heap.size rfl
      go_wp2_with fail
      refine (HBA.out _).mono ?_
      rintro e x ⟨rfl, hb⟩
      replace H0 := Lib.hid (H0.out.call hb)
      clear hb c0 e0 d0 f0 z0 c1 e1 d1 f1 z1 c2 e2 d2 f2 z2
      obtain ⟨c0, e0, d0, f0, z0⟩ := H0.out.two 0 (w.heap.size + 2) rfl
      obtain ⟨c1, e1, d1, f1, z1⟩ := H0.out.two 1 (w.heap.size + 1) rfl
      obtain ⟨c2, e2, d2, f2, z2⟩ := H0.out.two 2 w.heap.size rfl
      go_wp2_with fail
      refine (HAB.out _).mono ?_
      rintro e x ⟨rfl, hb⟩
      replace H0 := Lib.hid (H0.out.call hb)
      clear hb c0 e0 d0 f0 z0 c1 e1 d1 f1 z1 c2 e2 d2 f2 z2
      obtain ⟨c0, e0, d0, f0, z0⟩ := H0.out.two 0 (w.heap.size + 2) rfl
      obtain ⟨c1, e1, d1, f1, z1⟩ := H0.out.two 1 (w.heap.size + 1) rfl
      obtain ⟨c2, e2, d2, f2, z2⟩ := H0.out.two 2 w.heap.size rfl
      go_wp2_with fail
      refine (HBC.out _).mono ?_
      rintro e x ⟨rfl, hb⟩
      replace H0 := Lib.hid (H0.out.call hb)
      clear hb c0 e0 d0 f0 z0 c1 e1 d1 f1 z1 c2 e2 d2 f2 z2
      obtain ⟨c0, e0, d0, f0, z0⟩ := H0.out.two 0 (w.heap.size + 2) rfl
      obtain ⟨c1, e1, d1, f1, z1⟩ := H0.out.two 1 (w.heap.size + 1) rfl
      obtain ⟨c2, e2, d2, f2, z2⟩ := H0.out.two 2 w.heap.size rfl
      go_wp2_with fail
      refine (HAC.out _).mono ?_
      rintro e x ⟨rfl, hb⟩
      replace H0 := Lib.hid (H0.out.call hb)
      clear hb c0 e0 d0 f0 z0 c1 e1 d1 f1 z1 c2 e2 d2 f2 z2
      obtain ⟨c0, e0, d0, f0, z0⟩ := H0.out.two 0 (w.heap.size + 2) rfl
      obtain ⟨c1, e1, d1, f1, z1⟩ := H0.out.two 1 (w.heap.size + 1) rfl
      obtain ⟨c2, e2, d2, f2, z2⟩ := H0.out.two 2 w.heap.size rfl
      go_wp2_with fail
      go_ret
      exact ⟨rfl, H0.out.below⟩

set_option maxRecDepth 100000 in
theorem lifted (os : Os) (started : os.Started) (H : Type) (enc : TypeId × Value → H) :
    ReturnsInHanded {} Try.checked os 9 .any (Rows.spanGoesSpec.pre6 enc Try.prog Try.f9 Rows.spanGoesRow.domain false) (Rows.spanGoesSpec.post enc Try.prog Try.f9 false true false false) := by
  refine returnsInHanded_of_change (C := Try.checked) own started (by kernel_rfl) Try.func9
    (ChangeSpec.witness6 (enc := enc) (C := Try.checked) false ⟨#[], #[.agg #[.int .i64 0, .int .i64 0], .agg #[.int .i64 0, .int .i64 0], .agg #[.int .i64 0, .int .i64 0]], []⟩ 8 (by kernel_rfl) (by kernel_rfl) (by kernel_rfl) (by kernel_rfl)) ?_
  intro W base args ds gs before hval0 hW hcnd _
  have hval : ∀ (j : Nat) t v, Try.f9.params[j]? = some t → args[j]? = some v → Value.okWide Try.prog W .any base t v := hval0
  have hW' := hW
  obtain ⟨p, q, hA0, hV, rfl, hfz, hnd⟩ := hW
  have hA : DataW.TrodAll enc Try.prog W 0 (fun _ => true) true Try.f9.params.toList args.toList ds p := hA0
  rw [Try.params9] at hA hval
  obtain ⟨v0, vs0, d0, ds0, p0, q0, hargs, rfl, rfl, h0, r0⟩ := trodAll_cons hA
  obtain ⟨v1, vs1, d1, ds1, p1, q1, rfl, rfl, rfl, h1, r1⟩ := trodAll_cons r0
  obtain ⟨v2, vs2, d2, ds2, p2, q2, rfl, rfl, rfl, h2, r2⟩ := trodAll_cons r1
  obtain ⟨rfl, rfl, rfl⟩ := trodAll_nil r2
  obtain rfl : args = #[v0, v1, v2] := by cases args; simp_all
  obtain ⟨rfl, rfl⟩ := trodVars_none hV
  obtain ⟨a0, b0, rfl, w0⟩ := open_span (hval 0 23 v0 rfl rfl) h0
  have lt0 : ∀ x ∈ p0, x.block < W.heap.size := by obtain ⟨m, hm⟩ := h0; exact DataW.trod_lt m _ _ _ hm
  obtain ⟨a1, b1, rfl, w1⟩ := open_span (hval 1 23 v1 rfl rfl) h1
  have lt1 : ∀ x ∈ p1, x.block < W.heap.size := by obtain ⟨m, hm⟩ := h1; exact DataW.trod_lt m _ _ _ hm
  obtain ⟨a2, b2, rfl, w2⟩ := open_span (hval 2 23 v2 rfl rfl) h2
  have lt2 : ∀ x ∈ p2, x.block < W.heap.size := by obtain ⟨m, hm⟩ := h2; exact DataW.trod_lt m _ _ _ hm
  clear hA0 hval0
  simp only [List.append_nil] at hW'
  refine (walk a0 b0 w0 a1 b1 w1 a2 b2 w2 W ).mono fun e W' ⟨he, bel⟩ => ?_
  subst he
  exact ⟨_, rfl, _, _, _, [], _, [], hW', trodAll_mk1 (shut_bool Try.underlying4 _), (trodAll_cons_mk (Below.trod laidOut (by kernel_rfl) (of_decide_eq_true (by kernel_rfl)) h0 bel lt0) (trodAll_cons_mk (Below.trod laidOut (by kernel_rfl) (of_decide_eq_true (by kernel_rfl)) h1 bel lt1) (trodAll_cons_mk (Below.trod laidOut (by kernel_rfl) (of_decide_eq_true (by kernel_rfl)) h2 bel lt2) trodAll_mk0))), rfl, bel.frame _, fun h => by cases h⟩

theorem proved : Rows.SpanGoesSaid :=
  OpenClaim.holds_of_wide 9 Try.f9 rfl rfl rfl rfl rfl rfl rfl ⟨rfl, rfl, rfl, rfl, rfl⟩ rfl rfl rfl rfl rfl (by kernel_rfl) Try.func9 (by kernel_rfl)
    (of_decide_eq_true (by kernel_rfl)) (by unfold Func.isWrapper; first | (rw [if_pos (by decide +kernel)]; kernel_rfl) | (rw [if_neg (by decide +kernel)]; exact ⟨rfl, rfl⟩))
    (fun os started H enc _ => lifted os started H enc)
#print axioms proved
end Go.Proofs.Ytaoldfndidngbaa.spanGoes
