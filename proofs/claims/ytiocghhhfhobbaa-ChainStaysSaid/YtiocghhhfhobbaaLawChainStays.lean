/- What counts at a time that is still told is changed neither by what is put later nor by pruning up to there; for every input, without conditions (of more calls the first 60 are made, and then the first 40). -/
import Derived.Test.YtiocghhhfhobbaaChnL
namespace Go.Proofs.Ytiocghhhfhobbaa.chainStays
open Go.ChangeShapes Go.WideShapes Go.ChangeAt Go.RowKit Go.Cn
set_option linter.unusedVariables false
set_option linter.unusedSimpArgs false

set_option maxHeartbeats 16000000 in
set_option maxRecDepth 100000 in
theorem walk (A : Option Addr) (len cap : Nat) (l : List Op11) (A' : Option Addr) (len' cap' : Nat) (m : List Op11) (s : Int) (hs0 : -9223372036854775808 ≤ s ∧ s ≤ 9223372036854775807) (w : World) (hL : IsR w A len cap 3 encO GO l) (hM : IsR w A' len' cap' 3 encO GO m) :
    Calls Try.prog 4 #[.slice A len cap, .slice A' len' cap', .int .i64 s] w fun r w' => r = .returned (.bool true) ∧ Below w.heap.size w w' := by
  have HMA := Lib.hid (made_any A len cap l w hL w.heap.size rfl)
  obtain ⟨hlen, hs, hc1, hc2, hnil, hg⟩ := hM
  subst hlen
  have HS := Lib.hid hs
  clear hs hg hnil hL
  go_enter Try.func4, Try.ntmps4
  go_wp2_with fail
  refine HMA.out.mono ?_
  rintro r w1 ⟨rfl, hp⟩
  have H := Lib.hid hp
  clear hp HMA
  generalize mk l (min l.length 60) = c at *
  go_wp2_with fail
  refine (cawake_any _).mono ?_
  rintro r w2 ⟨rfl, hb1⟩
  replace H := Lib.hid (H.out.call hb1)
  clear hb1
  go_wp2_with fail
  refine (pget s H.out).mono ?_
  rintro r w3 ⟨rfl, hb1⟩
  replace H := Lib.hid ((H.out.call hb1).alloc w3.heap.size rfl 34 #[.int .i64 (getV c s).1, .int .i64 (getV c s).2])
  have hx := (H.out.st.knows.at 0 rfl).lt
  generalize hE : getE c s = E at *
  generalize hV : getV c s = V at *
  have HG : Hid (getE c s = E ∧ getV c s = V) := Lib.hid ⟨hE, hV⟩
  clear hb1 hE hV
  go_wp2_with fail
  go_loopw [10] (fun i wr => ∃ (n : Nat) (c' : Cs), n ≤ m.length ∧ n ≤ 40 ∧ i = .int .i64 (n : Int) ∧ Hid (getE c' s = E ∧ getV c' s = V) ∧ Pl w wr [(w3.heap.size, 34, #[.int .i64 V.1, .int .i64 V.2])] w.heap.size c' none 0 []) (fun i _ => m.length - (intOf i).toNat)
  case atStart => exact ⟨0, c, by omega, by omega, rfl, HG, H.out⟩
  case round =>
    obtain ⟨n, c', hn1, hn2, rfl, HI, hp⟩ := hrel
    have HP := Lib.hid hp
    clear hp H HG
    by_cases hlt : n < m.length ∧ n < 40
    · obtain ⟨h1, h2⟩ := hlt
      obtain ⟨o, ho⟩ : ∃ o, m[n]? = some o := ⟨_, List.getElem?_eq_getElem h1⟩
      obtain ⟨b0, off, rfl, hb, hcc⟩ := (HS.out.below HP.out.st.below).item encO_len (by omega) n o ho
      obtain ⟨k, t, v⟩ := o
      have q0 := hcc 0 _ rfl
      have q1 := hcc 1 _ rfl
      have q2 := hcc 2 _ rfl
      rw [Nat.add_zero] at q0
      simp only at q0 q1 q2
      have i1 : (n : Int) < (m.length : Int) := by omega
      have i2 : (n : Int) < 40 := by omega
      have HPA := Lib.hid (HP.out.alloc wr.heap.size rfl 32 #[.int .i64 k, .int .i64 t, .int .i64 v])
      clear hcc ho
      by_cases hk0 : k = 0
      · subst hk0
        by_cases ht : s < t
        · have HI2 : Hid (getE (put c' t v) s = E ∧ getV (put c' t v) s = V) := Lib.hid (by obtain ⟨e1, e2⟩ := get_put (c := c') t v s ht; rw [e1, e2]; exact HI.out)
          clear HI
          go_wp2_with fail
          refine (pput t v HPA.out).mono ?_
          rintro r w4 ⟨rfl, hp⟩
          have HP2 := Lib.hid (hp.few (L' := [(w3.heap.size, 34, #[.int .i64 V.1, .int .i64 V.2])]) (by simp))
          clear hp
          go_wp2_with fail
          go_roundw
          case rel => exact ⟨n + 1, _, by omega, by omega, by go_num, HI2, HP2.out⟩
          case measure => simp [intOf]; omega
        · have HP2 := Lib.hid (HPA.out.few (L' := [(w3.heap.size, 34, #[.int .i64 V.1, .int .i64 V.2])]) (by simp))
          go_wp2_with fail
          go_roundw
          case rel => exact ⟨n + 1, _, by omega, by omega, by go_num, HI, HP2.out⟩
          case measure => simp [intOf]; omega
      · by_cases hk2 : k = 2
        · subst hk2
          clear hk0
          by_cases ht : t ≤ s
          · have HI2 : Hid (getE (prune c' t) s = E ∧ getV (prune c' t) s = V) := Lib.hid (by obtain ⟨e1, e2⟩ := get_prune (c := c') t s ht; rw [e1, e2]; exact HI.out)
            clear HI
            go_wp2_with fail
            refine (pprune t HPA.out).mono ?_
            rintro r w4 ⟨rfl, hp⟩
            have HP2 := Lib.hid (hp.few (L' := [(w3.heap.size, 34, #[.int .i64 V.1, .int .i64 V.2])]) (by simp))
            clear hp
            go_wp2_with fail
            go_roundw
            case rel => exact ⟨n + 1, _, by omega, by omega, by go_num, HI2, HP2.out⟩
            case measure => simp [intOf]; omega
          · have HP2 := Lib.hid (HPA.out.few (L' := [(w3.heap.size, 34, #[.int .i64 V.1, .int .i64 V.2])]) (by simp))
            go_wp2_with fail
            go_roundw
            case rel => exact ⟨n + 1, _, by omega, by omega, by go_num, HI, HP2.out⟩
            case measure => simp [intOf]; omega
        · have HP2 := Lib.hid (HPA.out.few (L' := [(w3.heap.size, 34, #[.int .i64 V.1, .int .i64 V.2])]) (by simp))
          go_wp2_with fail
          go_roundw
          case rel => exact ⟨n + 1, _, by omega, by omega, by go_num, HI, HP2.out⟩
          case measure => simp [intOf]; omega
    · have hend : ((n : Int) < (m.length : Int) ∧ n = 40) ∨ (¬ (n : Int) < (m.length : Int)) := by omega
      have HG2 := Lib.hid (pget s HP.out)
      rw [HI.out.1, HI.out.2] at HG2
      rcases hend with ⟨i1, rfl⟩ | i1
      all_goals
        go_wp2_with fail
        refine HG2.out.mono ?_
        rintro r w4 ⟨rfl, hb⟩
        replace HP := Lib.hid (HP.out.call hb)
        clear hb HG2
        obtain ⟨c0, c1, d0, d1, z0⟩ := HP.out.st.knows.two 0 w3.heap.size rfl
        have hb := HP.out.st.below
        have hz := hb.size
        go_wp2_with fail
        go_ret
        exact ⟨rfl, by go_grown⟩

set_option maxRecDepth 100000 in
theorem lifted (os : Os) (started : os.Started) (H : Type) (enc : TypeId × Value → H) :
    ReturnsInHanded {} Try.checked os 4 .any (Rows.chainStaysSpec.pre6 enc Try.prog Try.f4 Rows.chainStaysRow.domain false) (Rows.chainStaysSpec.post enc Try.prog Try.f4 false true false false) := by
  refine returnsInHanded_of_change (C := Try.checked) own started (by kernel_rfl) Try.func4
    (ChangeSpec.witness6 (enc := enc) (C := Try.checked) false ⟨#[], #[.slice none 0 0, .slice none 0 0, .int .i64 0], []⟩ 8 (by kernel_rfl) (by kernel_rfl) (by kernel_rfl) (by kernel_rfl)) ?_
  intro W base args ds gs before hval0 hW hcnd _
  have hval : ∀ (j : Nat) t v, Try.f4.params[j]? = some t → args[j]? = some v → Value.okWide Try.prog W .any base t v := hval0
  have hW' := hW
  obtain ⟨p, q, hA0, hV, rfl, hfz, hnd⟩ := hW
  have hA : DataW.TrodAll enc Try.prog W 0 (fun _ => true) true Try.f4.params.toList args.toList ds p := hA0
  rw [Try.params4] at hA hval
  obtain ⟨v0, vs0, d0, ds0, p0, q0, hargs, rfl, rfl, h0, r0⟩ := trodAll_cons hA
  obtain ⟨v1, vs1, d1, ds1, p1, q1, rfl, rfl, rfl, h1, r1⟩ := trodAll_cons r0
  obtain ⟨v2, vs2, d2, ds2, p2, q2, rfl, rfl, rfl, h2, r2⟩ := trodAll_cons r1
  obtain ⟨rfl, rfl, rfl⟩ := trodAll_nil r2
  obtain rfl : args = #[v0, v1, v2] := by cases args; simp_all
  obtain ⟨rfl, rfl⟩ := trodVars_none hV
  obtain ⟨A0, len0, cap0, rfl⟩ := okWide_slice Try.underlying22 (hval 0 22 v0 rfl rfl)
  obtain ⟨l0, w0⟩ := open_ops h0
  have lt0 : ∀ x ∈ p0, x.block < W.heap.size := by obtain ⟨m, hm⟩ := h0; exact DataW.trod_lt m _ _ _ hm
  obtain ⟨A1, len1, cap1, rfl⟩ := okWide_slice Try.underlying22 (hval 1 22 v1 rfl rfl)
  obtain ⟨l1, w1⟩ := open_ops h1
  have lt1 : ∀ x ∈ p1, x.block < W.heap.size := by obtain ⟨m, hm⟩ := h1; exact DataW.trod_lt m _ _ _ hm
  obtain ⟨a2, rfl⟩ := okWide_int Try.underlying2 (hval 2 2 v2 rfl rfl)
  have w2 : -9223372036854775808 ≤ a2 ∧ a2 ≤ 9223372036854775807 := by
    obtain ⟨m, hm⟩ := h2
    obtain ⟨s, hs, _, hl⟩ := DataW.trod_int Try.underlying2 hm
    simp [Value.cells] at hs
    rw [hs]; have := bounds_i64 hl; omega
  have lt2 : ∀ x ∈ p2, x.block < W.heap.size := by obtain ⟨m, hm⟩ := h2; exact DataW.trod_lt m _ _ _ hm
  clear hA0 hval0
  simp only [List.append_nil] at hW'
  refine (walk A0 len0 cap0 l0 A1 len1 cap1 l1 a2 w2 W w0 w1).mono fun e W' ⟨he, bel⟩ => ?_
  subst he
  exact ⟨_, rfl, _, _, _, [], _, [], hW', trodAll_mk1 (shut_bool Try.underlying4 _), (trodAll_cons_mk (Below.trod laidOut (by kernel_rfl) (of_decide_eq_true (by kernel_rfl)) h0 bel lt0) (trodAll_cons_mk (Below.trod laidOut (by kernel_rfl) (of_decide_eq_true (by kernel_rfl)) h1 bel lt1) (trodAll_cons_mk (Below.trod laidOut (by kernel_rfl) (of_decide_eq_true (by kernel_rfl)) h2 bel lt2) trodAll_mk0))), rfl, bel.frame _, fun h => by cases h⟩

theorem proved : Rows.ChainStaysSaid :=
  OpenClaim.holds_of_wide 4 Try.f4 rfl rfl rfl rfl rfl rfl rfl ⟨rfl, rfl, rfl, rfl, rfl⟩ rfl rfl rfl rfl rfl (by kernel_rfl) Try.func4 (by kernel_rfl)
    (of_decide_eq_true (by kernel_rfl)) (by unfold Func.isWrapper; first | (rw [if_pos (by decide +kernel)]; kernel_rfl) | (rw [if_neg (by decide +kernel)]; exact ⟨rfl, rfl⟩))
    (fun os started H enc _ => lifted os started H enc)
#print axioms proved
end Go.Proofs.Ytiocghhhfhobbaa.chainStays
