/- A chain takes as many versions as it may, and no more; pruned it has just those that still count; for every input, without conditions. -/
import Derived.Test.YtiocghhhfhobbaaChnL
namespace Go.Proofs.Ytiocghhhfhobbaa.chainFull
open Go.ChangeShapes Go.WideShapes Go.ChangeAt Go.RowKit Go.Cn
set_option linter.unusedVariables false
set_option linter.unusedSimpArgs false

set_option maxHeartbeats 16000000 in
set_option maxRecDepth 100000 in
theorem walk (n : Int) (hn : 0 ≤ n ∧ n ≤ 255) (mark : Int) (hm : -9223372036854775808 ≤ mark ∧ mark ≤ 9223372036854775807) (w : World) :
    Calls Try.prog 6 #[.int .u8 n, .int .i64 mark] w fun r w' => r = .returned (.bool true) ∧ Below w.heap.size w w' := by
  have hk := and_low mark
  go_enter Try.func6, Try.ntmps6
  go_wp2_with fail
  refine (cnew_any _).mono ?_
  rintro r w1 ⟨rfl, hb1, k1⟩
  have H : Hid (Pl w w1 [] w.heap.size ⟨[], 0⟩ none 0 []) := Lib.hid (.start hb1 k1)
  clear hb1 k1
  go_wp2_with fail
  refine (cawake_any _).mono ?_
  rintro r w2 ⟨rfl, hb1⟩
  replace H := Lib.hid (H.out.call hb1)
  clear hb1
  go_wp2_with fail
  go_loopw [6] (fun i wr => ∃ j : Nat, j ≤ 10000 ∧ i = .int .i64 ((j : Int) + 1) ∧ Pl w wr [] w.heap.size ⟨full j, 0⟩ none 0 []) (fun i _ => 10001 - (intOf i).toNat)
  case atStart => exact ⟨0, by omega, rfl, H.out⟩
  case round =>
    obtain ⟨j, hj, rfl, hp⟩ := hrel
    have HP := Lib.hid hp
    clear hp H
    by_cases hlt : j < 10000
    · have HF := Lib.hid (full_put j hlt)
      have HQ := Lib.hid (pput (2 * ((j : Int) + 1)) (-((j : Int) + 1)) HP.out)
      rw [HF.out.1, HF.out.2] at HQ
      have i1 : (j : Int) + 1 ≤ 10000 := by omega
      go_wp2_with fail
      refine HQ.out.mono ?_
      rintro r w3 ⟨rfl, hp⟩
      have HP3 := Lib.hid hp
      clear hp
      go_wp2_with fail
      go_roundw
      case rel => exact ⟨j + 1, by omega, by go_num, HP3.out⟩
      case measure => simp [intOf]; omega
    · have hj2 : j = 10000 := by omega
      have i1 : ¬ (j : Int) + 1 ≤ 10000 := by omega
      have HQ := Lib.hid (pput 20001 0 HP.out)
      rw [(full_more j hj2 0).1, (full_more j hj2 0).2] at HQ
      go_wp2_with fail
      refine HQ.out.mono ?_
      rintro r w3 ⟨rfl, hp⟩
      have HP3 := Lib.hid hp
      clear hp
      go_wp2_with fail
      generalize bits .and .i64 mark 16383 = k at *
      refine (pprune k HP3.out).mono ?_
      rintro r w4 ⟨rfl, hp⟩
      obtain ⟨e1, e2⟩ := full_prune j hj2 k hk
      rw [e1]
      have HP4 := Lib.hid hp
      have HN := Lib.hid e2
      have hk0 := hk.1
      have hk1 := hk.2
      obtain ⟨a, ha⟩ : ∃ a : Int, ((k + n) / 2 < 10000 ∧ a = (k + n) / 2) ∨ (10000 ≤ (k + n) / 2 ∧ a = 10000) := by
        by_cases h : (k + n) / 2 < 10000
        · exact ⟨_, .inl ⟨h, rfl⟩⟩
        · exact ⟨_, .inr ⟨by omega, rfl⟩⟩
      have HGT := Lib.hid (full_get j hj2 k (k + n) hk (by omega) a ha)
      clear hp e1 e2 HP HP3 HQ
      generalize prune ⟨full j, 0⟩ k = c at *
      have HGE := Lib.hid (pget (k + n) HP4.out)
      generalize getE c (k + n) = E at *
      generalize getV c (k + n) = V at *
      have ha2 : a = (k + n) / 2 := by omega
      clear hj2 i1 ha
      by_cases h4 : 4 ≤ k
      case' pos => have hlen : (c.l.length : Int) = 10000 - (k / 2 - 1) := by have := HN.out; omega
      case' neg => have hlen : (c.l.length : Int) = 10000 := by have := HN.out; omega
      all_goals
        have HLN := Lib.hid hlen
        clear hlen
        go_wp2_with fail
        refine HGE.out.mono ?_
        rintro r w5 ⟨rfl, hb⟩
        replace HP4 := Lib.hid ((HP4.out.call hb).alloc w5.heap.size rfl 34 #[.int .i64 V.1, .int .i64 V.2])
        obtain ⟨c0, c1, d0, d1, z0⟩ := HP4.out.st.knows.two 0 w5.heap.size rfl
        clear hb
        go_wp2_with fail
        have h63 : (k + n) / 2 < 10000 := by omega
        rw [ha2] at HGT
        clear ha2
        generalize hq : (k + n) / 2 = b at *
        clear hq
        refine (plist HP4.out).mono ?_
        rintro r w6 ⟨A6, c6, rfl, hb, -⟩
        replace HP4 := Lib.hid (HP4.out.call hb)
        clear hb c0 c1 d0 d1 z0
        obtain ⟨c0, c1, d0, d1, z0⟩ := HP4.out.st.knows.two 0 w5.heap.size rfl
        have hlen := HLN.out
        rcases HGT.out with ⟨rfl, rfl⟩ | ⟨hpos, rfl, rfl⟩
        · go_wp2_with fail
          go_ret
          exact ⟨by first | rfl | (simp; done) | (simp; omega), HP4.out.st.below⟩
        · have hpn : (b == 0) = false := by simp; omega
          go_wp2_with fail
          go_ret
          exact ⟨by first | rfl | (simp; done) | (simp; omega), HP4.out.st.below⟩

set_option maxRecDepth 100000 in
theorem lifted (os : Os) (started : os.Started) (H : Type) (enc : TypeId × Value → H) :
    ReturnsInHanded {} Try.checked os 6 .any (Rows.chainFullSpec.pre6 enc Try.prog Try.f6 Rows.chainFullRow.domain false) (Rows.chainFullSpec.post enc Try.prog Try.f6 false true false false) := by
  refine returnsInHanded_of_change (C := Try.checked) own started (by kernel_rfl) Try.func6
    (ChangeSpec.witness6 (enc := enc) (C := Try.checked) false ⟨#[], #[.int .u8 0, .int .i64 0], []⟩ 8 (by kernel_rfl) (by kernel_rfl) (by kernel_rfl) (by kernel_rfl)) ?_
  intro W base args ds gs before hval0 hW hcnd _
  have hval : ∀ (j : Nat) t v, Try.f6.params[j]? = some t → args[j]? = some v → Value.okWide Try.prog W .any base t v := hval0
  have hW' := hW
  obtain ⟨p, q, hA0, hV, rfl, hfz, hnd⟩ := hW
  have hA : DataW.TrodAll enc Try.prog W 0 (fun _ => true) true Try.f6.params.toList args.toList ds p := hA0
  rw [Try.params6] at hA hval
  obtain ⟨v0, vs0, d0, ds0, p0, q0, hargs, rfl, rfl, h0, r0⟩ := trodAll_cons hA
  obtain ⟨v1, vs1, d1, ds1, p1, q1, rfl, rfl, rfl, h1, r1⟩ := trodAll_cons r0
  obtain ⟨rfl, rfl, rfl⟩ := trodAll_nil r1
  obtain rfl : args = #[v0, v1] := by cases args; simp_all
  obtain ⟨rfl, rfl⟩ := trodVars_none hV
  obtain ⟨a0, rfl⟩ := okWide_int Try.underlying5 (hval 0 5 v0 rfl rfl)
  have w0 : 0 ≤ a0 ∧ a0 ≤ 255 := by
    obtain ⟨m, hm⟩ := h0
    obtain ⟨s, hs, _, hl⟩ := DataW.trod_int Try.underlying5 hm
    simp [Value.cells] at hs
    rw [hs]; have := bounds_u8 hl; omega
  have lt0 : ∀ x ∈ p0, x.block < W.heap.size := by obtain ⟨m, hm⟩ := h0; exact DataW.trod_lt m _ _ _ hm
  obtain ⟨a1, rfl⟩ := okWide_int Try.underlying2 (hval 1 2 v1 rfl rfl)
  have w1 : -9223372036854775808 ≤ a1 ∧ a1 ≤ 9223372036854775807 := by
    obtain ⟨m, hm⟩ := h1
    obtain ⟨s, hs, _, hl⟩ := DataW.trod_int Try.underlying2 hm
    simp [Value.cells] at hs
    rw [hs]; have := bounds_i64 hl; omega
  have lt1 : ∀ x ∈ p1, x.block < W.heap.size := by obtain ⟨m, hm⟩ := h1; exact DataW.trod_lt m _ _ _ hm
  clear hA0 hval0
  simp only [List.append_nil] at hW'
  refine (walk a0 w0 a1 w1 W ).mono fun e W' ⟨he, bel⟩ => ?_
  subst he
  exact ⟨_, rfl, _, _, _, [], _, [], hW', trodAll_mk1 (shut_bool Try.underlying4 _), (trodAll_cons_mk (Below.trod laidOut (by kernel_rfl) (of_decide_eq_true (by kernel_rfl)) h0 bel lt0) (trodAll_cons_mk (Below.trod laidOut (by kernel_rfl) (of_decide_eq_true (by kernel_rfl)) h1 bel lt1) trodAll_mk0)), rfl, bel.frame _, fun h => by cases h⟩

theorem proved : Rows.ChainFullSaid :=
  OpenClaim.holds_of_wide 6 Try.f6 rfl rfl rfl rfl rfl rfl rfl ⟨rfl, rfl, rfl, rfl, rfl⟩ rfl rfl rfl rfl rfl (by kernel_rfl) Try.func6 (by kernel_rfl)
    (of_decide_eq_true (by kernel_rfl)) (by unfold Func.isWrapper; first | (rw [if_pos (by decide +kernel)]; kernel_rfl) | (rw [if_neg (by decide +kernel)]; exact ⟨rfl, rfl⟩))
    (fun os started H enc _ => lifted os started H enc)
#print axioms proved
end Go.Proofs.Ytiocghhhfhobbaa.chainFull
