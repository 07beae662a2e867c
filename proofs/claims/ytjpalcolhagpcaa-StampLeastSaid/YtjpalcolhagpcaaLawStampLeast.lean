/- A stamp is the least one that it may be: one less isn't above all; for every input, without conditions. -/
import Derived.Test.YtjpalcolhagpcaaStmpO
namespace Go.Proofs.Ytjpalcolhagpcaa.stampLeast
open Go.ChangeShapes Go.WideShapes Go.ChangeAt Go.RowKit Go.Sp Go.Fl Go.Ck Go.Tp
set_option linter.unusedVariables false
set_option linter.unusedSimpArgs false

set_option maxHeartbeats 8000000 in
set_option maxRecDepth 100000 in
theorem walk (n : Int) (hn : -9223372036854775808 ≤ n ∧ n ≤ 9223372036854775807) (lo hi : Int) (hs : R64 lo ∧ R64 hi) (A : Option Addr) (len cap : Nat) (l : List Int) (w : World) (hL : IsR w A len cap 1 encI R64 l) :
    Calls Try.prog 7 #[.int .i64 n, .agg #[.int .i64 lo, .int .i64 hi], .slice A len cap] w fun r w' => r = .returned (.bool true) ∧ Below w.heap.size w w' := by
  obtain ⟨rfl, hr⟩ := rw_of_row hL
  clear hL
  have HR := Lib.hid hr
  clear hr
  have H := Lib.hid ((St.start w).alloc w.heap.size rfl 28 #[.int .i64 lo, .int .i64 hi])
  by_cases hlen : l.length ≤ 100
  case neg =>
    have hlen' : (100 : Int) < (l.length : Int) := by omega
    clear hs hn HR
    go_enter Try.func7, Try.ntmps7
    go_wp2_with fail
    refine (snew_any _).mono ?_
    rintro r w1 ⟨rfl, hb1, -⟩
    replace H := Lib.hid (H.out.call hb1)
    clear hb1
    go_wp2_with fail
    refine (sawake_any _).mono ?_
    rintro r w2 ⟨rfl, hb1⟩
    replace H := Lib.hid (H.out.call hb1)
    clear hb1
    go_wp2_with fail
    refine (sawake_any _).mono ?_
    rintro r w3 ⟨rfl, hb1⟩
    replace H := Lib.hid (H.out.call hb1)
    clear hb1
    go_wp2_with fail
    go_ret
    exact ⟨rfl, H.out.below⟩
  have hlen' : (l.length : Int) ≤ 100 := by omega
  have HK := Lib.hid (fun (w0 : World) (g : Nat) (h : Src w0 g 0) => keep_any g 0 n w0 h)
  have key : ∃ K : Int, (0 ≤ K ∧ K ≤ 1125899906842624) ∧ keepN 0 n = K ∧ ((keepE n = 0 ∧ K = n) ∨ (keepE n = 100 ∧ K = 0)) := by
    rcases keep_cases 0 n with ⟨-, h1, h2, h3⟩ | ⟨-, -, h2, h3⟩
    · have := mx_cases 0 n
      exact ⟨n, by omega, by omega, .inl ⟨h2, rfl⟩⟩
    · exact ⟨0, by omega, h3, .inr ⟨h2, rfl⟩⟩
  obtain ⟨K, hK, kN, kE⟩ := key
  have HN := Lib.hid (fun (w0 : World) (g : Nat) (h : Src w0 g K) (hr : Rw w0 A cap l) => next_any g K lo hi hK hs.1 hs.2 A cap l w0 h hr)
  rw [kN] at HK
  have key2 : (nextE K lo hi l = 0 ∧ ∃ R : Int, (0 ≤ R ∧ R < 1125899906842624) ∧ nextV K lo hi l = R + 1 ∧ nextN K lo hi l = R + 1 ∧ (R = hi ∨ (R ≠ hi ∧ R = K) ∨ (R ≠ hi ∧ R ≠ K ∧ R ≠ 0 ∧ R ∈ l) ∨ (R ≠ hi ∧ R ≠ K ∧ R = 0))) ∨ ((nextE K lo hi l = 100 ∨ nextE K lo hi l = 101) ∧ nextV K lo hi l = 0 ∧ nextN K lo hi l = K) := by
    rcases next_cases K lo hi l with ⟨e1, e2, e3, e4, e5⟩ | ⟨e1, e2, e3, e4, e5⟩ | ⟨e1, e3, e4, e5⟩
    · refine .inl ⟨e3, reach K hi l, ⟨by have := (reach_ge K hi l).1; omega, e2⟩, e4, e5, ?_⟩
      have hi2 := reach_is K hi l
      generalize reach K hi l = R at *
      by_cases q1 : R = hi
      · exact .inl q1
      · by_cases q2 : R = K
        · exact .inr (.inl ⟨q1, q2⟩)
        · by_cases q3 : R = 0
          · exact .inr (.inr (.inr ⟨q1, q2, q3⟩))
          · exact .inr (.inr (.inl ⟨q1, q2, q3, by rcases hi2 with h | h | h; exact absurd h q2; exact absurd h q1; exact h⟩))
    · exact .inr ⟨.inr e3, e4, e5⟩
    · exact .inr ⟨.inl e3, e4, e5⟩
  generalize nextE K lo hi l = E at *
  generalize nextV K lo hi l = V at *
  generalize nextN K lo hi l = N at *
  generalize keepE n = F at *
  have hR4 : 0 ≤ (l.length : Int) := by omega
  clear kN hs
  rcases kE with ⟨rfl, rfl⟩ | ⟨rfl, rfl⟩
  all_goals
    rcases key2 with ⟨rfl, R, hR, rfl, rfl, rfl | ⟨q1, rfl⟩ | ⟨q1, q2, q3, q4⟩ | ⟨q1, q2, rfl⟩⟩ | ⟨e3, rfl, rfl⟩
  all_goals try (exact absurd rfl q2)
  all_goals try (rcases e3 with rfl | rfl)
  all_goals
    obtain ⟨c0, c1, d0, d1, z0⟩ := H.out.two 0 w.heap.size rfl
    go_enter Try.func7, Try.ntmps7
    go_wp2_with fail
    refine (snew_at _ (w.heap.size + 1) (by simp)).mono ?_
    rintro r w1 ⟨rfl, hb1, k1⟩
    have hl9 := (k1.lt)
    have HG := Lib.hid (show Lg w w1 _ (w.heap.size + 1) 0 from ⟨H.out.call hb1, k1, by omega, fun r hr => by rw [List.mem_singleton.1 hr]; simp⟩)
    clear hb1 k1 c0 c1 d0 d1 z0
    go_wp2_with fail
    refine (sawake_any _).mono ?_
    rintro r w2 ⟨rfl, hb1⟩
    replace HG := Lib.hid (HG.out.call hb1)
    clear hb1
    go_wp2_with fail
    refine (HK.out _ _ HG.out.src).mono ?_
    rintro r w3 ⟨rfl, hb1, k1⟩
    replace HG := Lib.hid (HG.out.turn hb1 k1)
    clear hb1 k1
    obtain ⟨c0, c1, d0, d1, z0⟩ := HG.out.st.two 0 w.heap.size rfl
    go_wp2_with fail
    refine (HN.out _ _ HG.out.src (HR.out.call HG.out.st.below)).mono ?_
    rintro r w4 ⟨rfl, hb1, k1⟩
    replace HG := Lib.hid (HG.out.turn hb1 k1)
    clear hb1 k1 c0 c1 d0 d1 z0
    obtain ⟨c0, c1, d0, d1, z0⟩ := HG.out.st.two 0 w.heap.size rfl
    go_wp2_with fail
    try
      refine (last_any (w.heap.size + 1) _ _ HG.out.src).mono ?_
      rintro r w5 ⟨rfl, e5⟩
      subst w5
      go_wp2_with fail
      go_ret
      exact ⟨by first | rfl | (simp; done) | (simp; omega), HG.out.st.below⟩
  all_goals
    obtain ⟨j, hj⟩ := List.mem_iff_getElem?.1 q4
    have hjl := (List.getElem?_eq_some_iff.1 hj).1
    go_loopw [12] (fun i wr => ∃ k : Nat, k ≤ j ∧ i = .int .i64 (k : Int) ∧ wr = w4) (fun i _ => l.length - (intOf i).toNat)
    case atStart => exact ⟨0, by omega, rfl, rfl⟩
    case round =>
      obtain ⟨k, hk, rfl, e⟩ := hrel
      subst e
      have hlt : k < l.length := by omega
      obtain ⟨m, hm⟩ : ∃ m, l[k]? = some m := ⟨_, List.getElem?_eq_getElem hlt⟩
      have HRW := HR.out.call HG.out.st.below
      obtain ⟨b0, off, rfl, hb0, g0⟩ := HRW.cell k m hm
      have hkl : (k : Int) < (l.length : Int) := by omega
      have hne : k < j ∨ m = R := by
        rcases Nat.lt_or_ge k j with h | h
        · exact .inl h
        · have : k = j := by omega
          subst this
          rw [hj] at hm
          injection hm with hm
          exact .inr hm.symm
      clear hm HRW
      by_cases hmr : m = R
      · subst hmr
        go_wp2_with fail
        refine (last_any (w.heap.size + 1) _ _ HG.out.src).mono ?_
        rintro r w5 ⟨rfl, e5⟩
        subst w5
        go_wp2_with fail
        go_ret
        exact ⟨by first | rfl | (simp; done) | (simp; omega), HG.out.st.below⟩
      · have hmr' : R ≠ m := fun h => hmr h.symm
        have hk2 : k < j := by rcases hne with h | h; exact h; exact absurd h hmr
        go_wp2_with fail
        go_roundw
        case rel => exact ⟨k + 1, by omega, by go_num, by first | rfl | trivial⟩
        case measure => simp [intOf]; omega

set_option maxRecDepth 100000 in
theorem lifted (os : Os) (started : os.Started) (H : Type) (enc : TypeId × Value → H) :
    ReturnsInHanded {} Try.checked os 7 .any (Rows.stampLeastSpec.pre6 enc Try.prog Try.f7 Rows.stampLeastRow.domain false) (Rows.stampLeastSpec.post enc Try.prog Try.f7 false true false false) := by
  refine returnsInHanded_of_change (C := Try.checked) own started (by kernel_rfl) Try.func7
    (ChangeSpec.witness6 (enc := enc) (C := Try.checked) false ⟨#[], #[.int .i64 0, .agg #[.int .i64 0, .int .i64 0], .slice none 0 0], []⟩ 8 (by kernel_rfl) (by kernel_rfl) (by kernel_rfl) (by kernel_rfl)) ?_
  intro W base args ds gs before hval0 hW hcnd _
  have hval : ∀ (j : Nat) t v, Try.f7.params[j]? = some t → args[j]? = some v → Value.okWide Try.prog W .any base t v := hval0
  have hW' := hW
  obtain ⟨p, q, hA0, hV, rfl, hfz, hnd⟩ := hW
  have hA : DataW.TrodAll enc Try.prog W 0 (fun _ => true) true Try.f7.params.toList args.toList ds p := hA0
  rw [Try.params7] at hA hval
  obtain ⟨v0, vs0, d0, ds0, p0, q0, hargs, rfl, rfl, h0, r0⟩ := trodAll_cons hA
  obtain ⟨v1, vs1, d1, ds1, p1, q1, rfl, rfl, rfl, h1, r1⟩ := trodAll_cons r0
  obtain ⟨v2, vs2, d2, ds2, p2, q2, rfl, rfl, rfl, h2, r2⟩ := trodAll_cons r1
  obtain ⟨rfl, rfl, rfl⟩ := trodAll_nil r2
  obtain rfl : args = #[v0, v1, v2] := by cases args; simp_all
  obtain ⟨rfl, rfl⟩ := trodVars_none hV
  obtain ⟨a0, rfl⟩ := okWide_int Try.underlying2 (hval 0 2 v0 rfl rfl)
  have w0 : -9223372036854775808 ≤ a0 ∧ a0 ≤ 9223372036854775807 := by
    obtain ⟨m, hm⟩ := h0
    obtain ⟨s, hs, _, hl⟩ := DataW.trod_int Try.underlying2 hm
    simp [Value.cells] at hs
    rw [hs]; have := bounds_i64 hl; omega
  have lt0 : ∀ x ∈ p0, x.block < W.heap.size := by obtain ⟨m, hm⟩ := h0; exact DataW.trod_lt m _ _ _ hm
  obtain ⟨a1, b1, rfl, w1⟩ := open_span (hval 1 28 v1 rfl rfl) h1
  have lt1 : ∀ x ∈ p1, x.block < W.heap.size := by obtain ⟨m, hm⟩ := h1; exact DataW.trod_lt m _ _ _ hm
  obtain ⟨A2, len2, cap2, rfl⟩ := okWide_slice Try.underlying26 (hval 2 26 v2 rfl rfl)
  obtain ⟨l2, w2⟩ := open_nums h2
  have lt2 : ∀ x ∈ p2, x.block < W.heap.size := by obtain ⟨m, hm⟩ := h2; exact DataW.trod_lt m _ _ _ hm
  clear hA0 hval0
  simp only [List.append_nil] at hW'
  refine (walk a0 w0 a1 b1 w1 A2 len2 cap2 l2 W w2).mono fun e W' ⟨he, bel⟩ => ?_
  subst he
  exact ⟨_, rfl, _, _, _, [], _, [], hW', trodAll_mk1 (shut_bool Try.underlying4 _), (trodAll_cons_mk (Below.trod laidOut (by kernel_rfl) (of_decide_eq_true (by kernel_rfl)) h0 bel lt0) (trodAll_cons_mk (Below.trod laidOut (by kernel_rfl) (of_decide_eq_true (by kernel_rfl)) h1 bel lt1) (trodAll_cons_mk (Below.trod laidOut (by kernel_rfl) (of_decide_eq_true (by kernel_rfl)) h2 bel lt2) trodAll_mk0))), rfl, bel.frame _, fun h => by cases h⟩

theorem proved : Rows.StampLeastSaid :=
  OpenClaim.holds_of_wide 7 Try.f7 rfl rfl rfl rfl rfl rfl rfl ⟨rfl, rfl, rfl, rfl, rfl⟩ rfl rfl rfl rfl rfl (by kernel_rfl) Try.func7 (by kernel_rfl)
    (of_decide_eq_true (by kernel_rfl)) (by unfold Func.isWrapper; first | (rw [if_pos (by decide +kernel)]; kernel_rfl) | (rw [if_neg (by decide +kernel)]; exact ⟨rfl, rfl⟩))
    (fun os started H enc _ => lifted os started H enc)
#print axioms proved
end Go.Proofs.Ytjpalcolhagpcaa.stampLeast
