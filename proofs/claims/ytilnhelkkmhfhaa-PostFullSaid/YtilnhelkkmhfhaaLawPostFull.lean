/- As many letters are under way as may be, and no more: moietylaw09.PostFull answers true. For every two numbers of eight bits; no conditions. -/
import Derived.Test.YtilnhelkkmhfhaaPostO
namespace Go.Proofs.Ytilnhelkkmhfhaa.postFull
open Go.ChangeShapes Go.WideShapes Go.ChangeAt Go.RowKit Go.Po
set_option linter.unusedVariables false
set_option linter.unusedSimpArgs false

/-- A net of one node, behind k letters. -/
def full (k : Nat) : Nt Int := ⟨1, k, (List.range k).map fun (j : Nat) => ⟨(j : Int) + 1, 0, 0, j⟩, fun _ => false, 0⟩
theorem full_len (k : Nat) : (full k).under.length = k := by simp [full]
theorem full_at (k j : Nat) (h : j < k) : (full k).under[j]? = some ⟨(j : Int) + 1, 0, 0, j⟩ := by simp [full, h]
theorem full_has (k : Nat) : (full k).has 0 := ⟨by omega, by show (0 : Int) < 1; omega⟩
theorem full_send (k : Nat) (h : k < 1000) : (full k).send 0 0 (k : Int) = (full (k + 1), (k : Int) + 1, 0) := by
  unfold Nt.send
  rw [if_neg (fun h => h ⟨full_has k, full_has k⟩), if_neg (by rw [full_len]; omega)]
  simp [full, List.range_succ]
theorem full_no (m : Int) : (full 1000).send 0 0 m = (full 1000, 0, 91) := by
  unfold Nt.send
  rw [if_neg (fun h => h ⟨full_has _, full_has _⟩), if_pos (full_len 1000)]
theorem full_copy (j : Nat) (h : j < 1000) : (full 1000).copy j = (full 1000, 91) := by
  unfold Nt.copy
  rw [show ((j : Int)).toNat = j by omega, full_at 1000 j h]
  simp only []
  rw [if_neg (by omega)]
  unfold Nt.put
  rw [if_pos (full_len 1000)]
/-- Without one letter. -/
def less (j : Nat) : Nt Int := (full 1000).drop j
theorem less_lose (j : Nat) (h : j < 1000) : (full 1000).lose j = (less j, 0) := by
  unfold Nt.lose
  rw [if_pos ⟨by omega, by rw [full_len]; omega⟩]
  rfl
theorem less_len (j : Nat) (h : j < 1000) : (less j).under.length = 999 := by
  have := drop_len (full 1000) j (by rw [full_len]; exact h)
  rw [full_len] at this
  unfold less; omega
theorem less_at (j i : Nat) (h : j < 1000) (hi : i < 999) : (less j).under[i]? = some ⟨((if j ≤ i then i + 1 else i : Nat) : Int) + 1, 0, 0, ((if j ≤ i then i + 1 else i : Nat) : Int)⟩ := by
  show ((full 1000).under.take j ++ (full 1000).under.drop (j + 1))[i]? = _
  have hl : ((full 1000).under.take j).length = j := by rw [List.length_take, full_len]; omega
  by_cases hc : j ≤ i
  · rw [if_pos hc, List.getElem?_append_right (by omega), hl, List.getElem?_drop, show j + 1 + (i - j) = i + 1 by omega]
    exact full_at 1000 (i + 1) (by omega)
  · rw [if_neg hc, List.getElem?_append_left (by omega), List.getElem?_take, if_pos (by omega)]
    exact full_at 1000 i (by omega)
/-- .. and another one copied. -/
def again (j i : Nat) : Nt Int := { less j with under := (less j).under ++ [⟨((if j ≤ i then i + 1 else i : Nat) : Int) + 1, 0, 0, ((if j ≤ i then i + 1 else i : Nat) : Int)⟩] }
theorem again_copy (j i : Nat) (h : j < 1000) (hi : i < 999) : (less j).copy i = (again j i, 0) := by
  unfold Nt.copy
  rw [show ((i : Int)).toNat = i by omega, less_at j i h hi]
  simp only []
  rw [if_neg (by omega)]
  unfold Nt.put
  rw [if_neg (by rw [less_len j h]; omega)]
  rfl
theorem again_len (j i : Nat) (h : j < 1000) : (again j i).under.length = 1000 := by
  show ((less j).under ++ [_]).length = 1000
  rw [List.length_append, less_len j h]; rfl
theorem again_last (j i : Nat) (h : j < 1000) : (again j i).under[999]? = some ⟨((if j ≤ i then i + 1 else i : Nat) : Int) + 1, 0, 0, ((if j ≤ i then i + 1 else i : Nat) : Int)⟩ := by
  show ((less j).under ++ [_])[999]? = _
  rw [List.getElem?_append_right (by rw [less_len j h]; omega), less_len j h]
  rfl
theorem full_to : ∀ l ∈ (full 1000).under, l.to = 0 := by
  intro l hl
  unfold full at hl
  simp only [List.mem_map] at hl
  obtain ⟨j, -, rfl⟩ := hl
  rfl
theorem again_purge (j i : Nat) : (again j i).purge 0 = ({ again j i with under := [] }, 0) := by
  unfold Nt.purge
  rw [if_pos ⟨by omega, by show (0 : Int) < 1; omega⟩]
  have : (again j i).under.filter (fun l => decide (l.to ≠ 0)) = [] := by
    rw [List.filter_eq_nil_iff]
    intro l hl
    have hl : l ∈ (less j).under ++ [_] := hl
    have : l.to = 0 := by
      rcases List.mem_append.1 hl with hl | hl
      · have hl : l ∈ (full 1000).under.take j ++ (full 1000).under.drop (j + 1) := hl
        rcases List.mem_append.1 hl with hl | hl
        · exact full_to l (List.mem_of_mem_take hl)
        · exact full_to l (List.mem_of_mem_drop hl)
      · rw [List.mem_singleton.1 hl]
    simp [this]
  rw [this]

set_option maxRecDepth 100000 in
set_option maxHeartbeats 4000000 in
theorem walk (a0 : Int) (w0 : 0 ≤ a0 ∧ a0 ≤ 255) (a1 : Int) (w1 : 0 ≤ a1 ∧ a1 ≤ 255) (w : World) :
    Calls Try.prog 6 #[.int .u8 a0, .int .u8 a1] w fun r w' => r = .returned (.bool true) ∧ Below w.heap.size w w' := by
  obtain ⟨i, rfl, hi⟩ : ∃ i : Nat, a0 = i ∧ i ≤ 255 := ⟨a0.toNat, by omega, by omega⟩
  obtain ⟨j, rfl, hj⟩ : ∃ j : Nat, a1 = j ∧ j ≤ 255 := ⟨a1.toNat, by omega, by omega⟩
  clear w0 w1
  go_enter Try.func6, Try.ntmps6
  go_wp2_with fail
  refine (inew_lp (St.start w) 1 (by omega)).mono ?_
  rintro e w1 ⟨g, rfl, hl⟩
  have H : Hid (iLp w w1 [] g (full 0)) := Lib.hid hl
  clear hl
  go_wp2_with fail
  refine (awake_any _).mono ?_
  rintro e w2 ⟨rfl, hb⟩
  replace H := Lib.hid (H.out.call hb)
  clear hb
  go_wp2_with fail
  go_loopw [7] (fun v wr => ∃ k : Nat, k ≤ 1000 ∧ v = .int .i64 (k : Int) ∧ iLp w wr [] g (full k)) (fun v _ => 1000 - (intOf v).toNat)
  case atStart => exact ⟨0, by omega, rfl, H.out⟩
  case round =>
    obtain ⟨k, hk, rfl, hl⟩ := hrel
    replace H := Lib.hid hl
    clear hl
    by_cases hlt : k < 1000
    · have HS := Lib.hid (full_send k hlt)
      have i1 : (k : Int) < 1000 := by omega
      go_wp2_with fail
      refine (H.out.isend (w64 0 (by omega)) (w64 0 (by omega)) (k : Int) (by show k + 1 ≤ _; omega)).mono ?_
      rintro e w3 ⟨rfl, hl⟩
      rw [HS.out] at hl ⊢
      replace H := Lib.hid hl
      clear hl
      go_wp2_with fail
      go_roundw
      case rel => exact ⟨k + 1, by omega, by simp, H.out⟩
      case measure => simp [intOf]; omega
    · obtain rfl : k = 1000 := by omega
      have HN := Lib.hid (full_no 7)
      have HC := Lib.hid (full_copy i (by omega))
      have HL := Lib.hid (less_lose j (by omega))
      have HA := Lib.hid (again_copy j i (by omega) (by omega))
      have HAL := Lib.hid (again_len j i (by omega))
      have HLA := Lib.hid (again_last j i (by omega))
      have HP := Lib.hid (again_purge j i)
      go_wp2_with fail
      refine (H.out.isend (w64 0 (by omega)) (w64 0 (by omega)) 7 (by show 1000 + 1 ≤ _; omega)).mono ?_
      rintro e w3 ⟨rfl, hl⟩
      rw [HN.out] at hl ⊢
      replace H := Lib.hid hl
      clear hl
      go_wp2_with fail
      refine (H.out.icopy (i := (i : Int)) (w64 _ (by omega))).mono ?_
      rintro e w4 ⟨rfl, hl⟩
      rw [HC.out] at hl ⊢
      replace H := Lib.hid hl
      clear hl
      go_wp2_with fail
      refine (H.out.ilose (i := (j : Int)) (w64 _ (by omega))).mono ?_
      rintro e w5 ⟨rfl, hl⟩
      rw [HL.out] at hl ⊢
      replace H := Lib.hid hl
      clear hl
      go_wp2_with fail
      refine (H.out.icopy (i := (i : Int)) (w64 _ (by omega))).mono ?_
      rintro e w6 ⟨rfl, hl⟩
      rw [HA.out] at hl ⊢
      replace H := Lib.hid hl
      clear hl
      go_wp2_with fail
      refine H.out.iletters.mono ?_
      rintro e w7 ⟨A, cap, R, rfl, hc, hA, htop, hl, hown, -, -⟩
      have ho := hown w7 (fun r hr => hl.knows r (by simp [hr]))
      have H2 := Lib.hid hl
      clear hl hown H
      rw [HAL.out] at ho hc ⊢
      obtain ⟨b, rfl⟩ : ∃ b, A = some ⟨b, 0, none⟩ := by
        rcases ho.2 with ⟨h, h0⟩ | ⟨g', cap', cur, h, -⟩
        · omega
        · simp only [Value.slice.injEq, true_and] at h; exact ⟨g', h.1⟩
      obtain ⟨⟨y0, y1, y2, y3⟩, -⟩ := own_letter ho HLA.out
      simp only [iP] at y3
      clear ho y0 y1 y2
      by_cases hji : j ≤ i
      · rw [if_pos hji] at y3
        have hji' : (j : Int) ≤ (i : Int) := by omega
        go_wp2_with fail
        refine (H2.out.ipurge (w64 0 (by omega))).mono ?_
        rintro e w8 ⟨rfl, hl⟩
        rw [HP.out] at hl ⊢
        have H3 := Lib.hid hl
        clear hl
        go_wp2_with fail
        refine H3.out.iletters.mono ?_
        rintro e w9 ⟨A2, cap2, R2, rfl, hc2, hA2, htop2, hl, -, -, -⟩
        have H4 := Lib.hid hl
        clear hl
        go_wp2_with fail
        go_ret
        exact ⟨rfl, H4.out.st.below⟩
      · rw [if_neg hji] at y3
        have hji' : ¬ (j : Int) ≤ (i : Int) := by omega
        go_wp2_with fail
        refine (H2.out.ipurge (w64 0 (by omega))).mono ?_
        rintro e w8 ⟨rfl, hl⟩
        rw [HP.out] at hl ⊢
        have H3 := Lib.hid hl
        clear hl
        go_wp2_with fail
        refine H3.out.iletters.mono ?_
        rintro e w9 ⟨A2, cap2, R2, rfl, hc2, hA2, htop2, hl, -, -, -⟩
        have H4 := Lib.hid hl
        clear hl
        go_wp2_with fail
        go_ret
        exact ⟨rfl, H4.out.st.below⟩

set_option maxRecDepth 100000 in
theorem lifted (os : Os) (started : os.Started) (H : Type) (enc : TypeId × Value → H) :
    ReturnsInHanded {} Try.checked os 6 .any (Rows.postFullSpec.pre6 enc Try.prog Try.f6 Rows.postFullRow.domain false) (Rows.postFullSpec.post enc Try.prog Try.f6 false true false false) := by
  refine returnsInHanded_of_change (C := Try.checked) own started (by kernel_rfl) Try.func6
    (ChangeSpec.witness6 (enc := enc) (C := Try.checked) false ⟨#[], #[.int .u8 0, .int .u8 0], []⟩ 8 (by kernel_rfl) (by kernel_rfl) (by kernel_rfl) (by kernel_rfl)) ?_
  intro W base args ds gs before hval0 hW hcnd _
  have hval : ∀ (j : Nat) t v, Try.f6.params[j]? = some t → args[j]? = some v → Value.okWide Try.prog W .any base t v := hval0
  have hW' := hW
  obtain ⟨p, q, hA0, hV, rfl, hfz, hnd⟩ := hW
  have hA : DataW.TrodAll enc Try.prog W 0 (fun _ => true) true Try.f6.params.toList args.toList ds p := hA0
  rw [Try.params6] at hA hval
  obtain ⟨v0, vs0, d0, ds0, p0, q0, hargs, rfl, rfl, h0, r0⟩ := trodAll_cons hA
  obtain ⟨v1, vs1, d1, ds1, p1, q1, rfl, rfl, rfl, h1, r1⟩ := trodAll_cons r0
  obtain ⟨rfl, rfl, rfl⟩ := trodAll_nil r1
  obtain rfl : args = #[v0, v1] := by cases args; simp_all
  obtain ⟨rfl, rfl⟩ := trodVars_none hV
  obtain ⟨a0, rfl⟩ := okWide_int Try.underlying5 (hval 0 5 v0 rfl rfl)
  have w0 : 0 ≤ a0 ∧ a0 ≤ 255 := by
    obtain ⟨m, hm⟩ := h0
    obtain ⟨s, hs, _, hl⟩ := DataW.trod_int Try.underlying5 hm
    simp [Value.cells] at hs
    rw [hs]; have := bounds_u8 hl; omega
  have lt0 : ∀ x ∈ p0, x.block < W.heap.size := by obtain ⟨m, hm⟩ := h0; exact DataW.trod_lt m _ _ _ hm
  obtain ⟨a1, rfl⟩ := okWide_int Try.underlying5 (hval 1 5 v1 rfl rfl)
  have w1 : 0 ≤ a1 ∧ a1 ≤ 255 := by
    obtain ⟨m, hm⟩ := h1
    obtain ⟨s, hs, _, hl⟩ := DataW.trod_int Try.underlying5 hm
    simp [Value.cells] at hs
    rw [hs]; have := bounds_u8 hl; omega
  have lt1 : ∀ x ∈ p1, x.block < W.heap.size := by obtain ⟨m, hm⟩ := h1; exact DataW.trod_lt m _ _ _ hm
  clear hA0 hval0
  simp only [List.append_nil] at hW'
  refine (walk a0 w0 a1 w1 W ).mono fun e W' ⟨he, bel⟩ => ?_
  subst he
  exact ⟨_, rfl, _, _, _, [], _, [], hW', trodAll_mk1 (shut_bool Try.underlying4 _), (trodAll_cons_mk (Below.trod laidOut (by kernel_rfl) (of_decide_eq_true (by kernel_rfl)) h0 bel lt0) (trodAll_cons_mk (Below.trod laidOut (by kernel_rfl) (of_decide_eq_true (by kernel_rfl)) h1 bel lt1) trodAll_mk0)), rfl, bel.frame _, fun h => by cases h⟩

theorem proved : Rows.PostFullSaid :=
  OpenClaim.holds_of_wide 6 Try.f6 rfl rfl rfl rfl rfl rfl rfl ⟨rfl, rfl, rfl, rfl, rfl⟩ rfl rfl rfl rfl rfl (by kernel_rfl) Try.func6 (by kernel_rfl)
    (of_decide_eq_true (by kernel_rfl)) (by unfold Func.isWrapper; first | (rw [if_pos (by decide +kernel)]; kernel_rfl) | (rw [if_neg (by decide +kernel)]; exact ⟨rfl, rfl⟩))
    (fun os started H enc _ => lifted os started H enc)
#print axioms proved
end Go.Proofs.Ytilnhelkkmhfhaa.postFull
