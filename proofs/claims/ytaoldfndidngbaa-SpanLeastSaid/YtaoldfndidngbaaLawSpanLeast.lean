/- What is joined has all, and ends where one of them ends: SpanLeast answers true at every list of spans. No condition. -/
import Derived.Test.YtaoldfndidngbaaSpanZ
namespace Go.Proofs.Ytaoldfndidngbaa.spanLeast
open Go.ChangeShapes Go.WideShapes Go.ChangeAt Go.RowKit Go.Sp Go.Fl
set_option linter.unusedVariables false
set_option linter.unusedSimpArgs false

theorem lows (l : List (Int × Int)) (h : joiB l = true) : (∀ (i : Nat) (s : Int × Int), l[i]? = some s → joiL l ≤ s.1 ∧ s.2 ≤ joiH l) ∧ (∃ i, i < l.length ∧ ∃ s, l[i]? = some s ∧ s.1 = joiL l) ∧ (∃ i, i < l.length ∧ ∃ s, l[i]? = some s ∧ s.2 = joiH l) := by
  rcases joi_cases l with ⟨-, hne, hall, e1, e2⟩ | ⟨e, -⟩
  · rw [e1, e2]
    have hz : 0 < l.length := List.length_pos_iff.2 hne
    rcases ends_some l hall l.length (Nat.le_refl _) with ⟨h0, -⟩ | ⟨-, h1, h2, h3⟩
    · omega
    · rw [List.take_length] at h1 h2 h3
      exact ⟨fun i s hs => h3 i s (List.getElem?_eq_some_iff.1 hs).1 hs, h1, h2⟩
  · rw [h] at e; cases e
/-- Has one of the first k this lower end? -/
def hasL (l : List (Int × Int)) (L : Int) (k : Nat) : Bool := (l.take k).any fun s => s.1 == L
def hasH (l : List (Int × Int)) (M : Int) (k : Nat) : Bool := (l.take k).any fun s => s.2 == M
theorem hasL_snoc (l : List (Int × Int)) (L : Int) (k : Nat) (s : Int × Int) (h : l[k]? = some s) : hasL l L (k + 1) = (hasL l L k || s.1 == L) := by
  unfold hasL; rw [take_snoc l k s h, List.any_append]; simp
theorem hasH_snoc (l : List (Int × Int)) (M : Int) (k : Nat) (s : Int × Int) (h : l[k]? = some s) : hasH l M (k + 1) = (hasH l M k || s.2 == M) := by
  unfold hasH; rw [take_snoc l k s h, List.any_append]; simp
theorem hasL_all (l : List (Int × Int)) (L : Int) (h : ∃ i, i < l.length ∧ ∃ s, l[i]? = some s ∧ s.1 = L) : hasL l L l.length = true := by
  obtain ⟨i, _, s, hs, e⟩ := h
  unfold hasL; rw [List.take_length, List.any_eq_true]
  exact ⟨s, List.mem_of_getElem? hs, by simpa using e⟩
theorem hasH_all (l : List (Int × Int)) (M : Int) (h : ∃ i, i < l.length ∧ ∃ s, l[i]? = some s ∧ s.2 = M) : hasH l M l.length = true := by
  obtain ⟨i, _, s, hs, e⟩ := h
  unfold hasH; rw [List.take_length, List.any_eq_true]
  exact ⟨s, List.mem_of_getElem? hs, by simpa using e⟩
set_option maxHeartbeats 16000000 in
theorem walk (A : Option Addr) (len cap : Nat) (l : List (Int × Int)) (w : World) (hL : IsL w A len cap l) :
    Calls Try.prog 11 #[.slice A len cap] w fun e w' => e = .returned (.bool true) ∧ Below w.heap.size w w' := by
  obtain ⟨rfl, hs, hc1, hc2, hn, hr⟩ := hL
  by_cases hbig : 2000 < l.length
  · clear hs hr hn
    have hd : (2000 : Int) < (l.length : Int) := by omega
    go_enter Try.func11, Try.ntmps11
    go_wp2_with fail
    refine (awake_any _).mono ?_
    rintro e w1 ⟨rfl, hb1⟩
    go_wp2_with fail
    go_ret
    exact ⟨rfl, hb1⟩
  · have HS := Lib.hid hs
    have hd : (l.length : Int) ≤ 2000 := by omega
    have hlen : l.length ≤ 2000 := by omega
    have HT := Lib.hid (sjoin_any _ A cap l w hs (Nat.le_refl _) (by omega) hr (by omega))
    clear hs hn hr hbig
    cases hj : joiB l with
    | false =>
      rw [hj] at HT
      clear hj
      go_enter Try.func11, Try.ntmps11
      go_wp2_with fail
      refine HT.out.mono ?_
      rintro e w1 ⟨rfl, hb1⟩
      have H1 := Lib.hid (((St.start w).call hb1).alloc w1.heap.size rfl 23 #[.int .i64 (joiL l), .int .i64 (joiH l)])
      clear hb1 HT
      go_wp2_with fail
      refine (awake_any _).mono ?_
      rintro e w2 ⟨rfl, hb2⟩
      have H2 := Lib.hid (H1.out.call hb2)
      clear hb2
      go_wp2_with fail
      refine (awake_any _).mono ?_
      rintro e w3 ⟨rfl, hb3⟩
      have H3 := Lib.hid (H2.out.call hb3)
      clear hb3
      go_wp2_with fail
      go_ret
      exact ⟨rfl, H3.out.below⟩
    | true =>
      have hlows := lows l hj
      have HF := Lib.hid hlows.1
      have HGL := Lib.hid (hasL_all l _ hlows.2.1)
      have HGH := Lib.hid (hasH_all l _ hlows.2.2)
      rw [hj] at HT
      clear hj hlows
      generalize joiL l = L at *
      generalize joiH l = M at *
      go_enter Try.func11, Try.ntmps11
      go_wp2_with fail
      refine HT.out.mono ?_
      rintro e w1 ⟨rfl, hb1⟩
      have H1 := Lib.hid (((St.start w).call hb1).alloc w1.heap.size rfl 23 #[.int .i64 L, .int .i64 M])
      clear hb1 HT
      go_wp2_with fail
      refine (awake_any _).mono ?_
      rintro e w2 ⟨rfl, hb2⟩
      have H2 := Lib.hid (H1.out.call hb2)
      clear hb2 H1
      go_wp2_with fail
      go_loopw [5, 6, 7] (fun a b i wr => ∃ k : Nat, k ≤ l.length ∧ i = .int .i64 (k : Int) ∧ a = .bool (hasL l L k) ∧ b = .bool (hasH l M k) ∧ St w wr [(w1.heap.size, 23, #[.int .i64 L, .int .i64 M])]) (fun _ _ i _ => l.length - (intOf i).toNat)
      case atStart => exact ⟨0, by omega, rfl, rfl, rfl, H2.out⟩
      case round =>
        obtain ⟨k, hk, rfl, rfl, rfl, hst⟩ := hrel
        have HT := Lib.hid hst
        obtain ⟨c0, e0, d0, f0, z0⟩ := hst.two 0 w1.heap.size rfl
        clear hst
        by_cases hlt : k < l.length
        · obtain ⟨s, hs⟩ : ∃ s, l[k]? = some s := ⟨_, List.getElem?_eq_getElem hlt⟩
          obtain ⟨b0, off, rfl, hb, gl, gh⟩ := (HS.out.below HT.out.below).span k s hs
          have hf := HF.out k s hs
          have HLS := Lib.hid (hasL_snoc l L k s hs)
          have HHS := Lib.hid (hasH_snoc l M k s hs)
          have hkl : (k : Int) < (l.length : Int) := by omega
          generalize hasL l L k = p at *
          generalize hasH l M k = q at *
          obtain ⟨s1, s2⟩ := s
          obtain ⟨hf1, hf2⟩ := hf
          simp only at gl gh hf1 hf2 HLS HHS
          clear hs
          go_wp2_with fail
          go_quiet (fail)
          go_wp2_with fail
          cases p <;> cases q
          all_goals
            simp only [Bool.false_or, Bool.true_or] at HLS HHS
            refine wp_region_quiet_lit (by kernel_rfl) (by kernel_rfl) ?_
            refine WQ.out ?_
            iterate 24 (refine WQ.step (fun K hK => ?_); go_simp; refine hK _ ?_; clear hK K)
            refine WQ.nil ?_
            intro _ hw1
            obtain ⟨nr, hw2⟩ := hw1
            subst hw2
            go_wp2_with fail
            go_roundw
            case rel => exact ⟨k + 1, by omega, by go_num, by rw [HLS.out], by rw [HHS.out], by first | exact HT.out.drewN _ | exact (HT.out.drewN _).drewN _⟩
            case measure => simp [intOf]; omega
        · obtain rfl : k = l.length := by omega
          rw [HGL.out, HGH.out]
          go_wp2_with fail
          go_ret
          exact ⟨rfl, HT.out.below⟩

set_option maxRecDepth 100000 in
theorem lifted (os : Os) (started : os.Started) (H : Type) (enc : TypeId × Value → H) :
    ReturnsInHanded {} Try.checked os 11 .any (Rows.spanLeastSpec.pre6 enc Try.prog Try.f11 Rows.spanLeastRow.domain false) (Rows.spanLeastSpec.post enc Try.prog Try.f11 false true false false) := by
  refine returnsInHanded_of_change (C := Try.checked) own started (by kernel_rfl) Try.func11
    (ChangeSpec.witness6 (enc := enc) (C := Try.checked) false ⟨#[], #[.slice none 0 0], []⟩ 8 (by kernel_rfl) (by kernel_rfl) (by kernel_rfl) (by kernel_rfl)) ?_
  intro W base args ds gs before hval0 hW hcnd _
  have hval : ∀ (j : Nat) t v, Try.f11.params[j]? = some t → args[j]? = some v → Value.okWide Try.prog W .any base t v := hval0
  have hW' := hW
  obtain ⟨p, q, hA0, hV, rfl, hfz, hnd⟩ := hW
  have hA : DataW.TrodAll enc Try.prog W 0 (fun _ => true) true Try.f11.params.toList args.toList ds p := hA0
  rw [Try.params11] at hA hval
  obtain ⟨v0, vs0, d0, ds0, p0, q0, hargs, rfl, rfl, h0, r0⟩ := trodAll_cons hA
  obtain ⟨rfl, rfl, rfl⟩ := trodAll_nil r0
  obtain rfl : args = #[v0] := by cases args; simp_all
  obtain ⟨rfl, rfl⟩ := trodVars_none hV
  obtain ⟨A0, len0, cap0, rfl⟩ := okWide_slice Try.underlying40 (hval 0 40 v0 rfl rfl)
  obtain ⟨l0, w0⟩ := open_spans h0
  have lt0 : ∀ x ∈ p0, x.block < W.heap.size := by obtain ⟨m, hm⟩ := h0; exact DataW.trod_lt m _ _ _ hm
  clear hA0 hval0
  simp only [List.append_nil] at hW'
  refine (walk A0 len0 cap0 l0 W w0).mono fun e W' ⟨he, bel⟩ => ?_
  subst he
  exact ⟨_, rfl, _, _, _, [], _, [], hW', trodAll_mk1 (shut_bool Try.underlying4 _), (trodAll_cons_mk (Below.trod laidOut (by kernel_rfl) (of_decide_eq_true (by kernel_rfl)) h0 bel lt0) trodAll_mk0), rfl, bel.frame _, fun h => by cases h⟩

theorem proved : Rows.SpanLeastSaid :=
  OpenClaim.holds_of_wide 11 Try.f11 rfl rfl rfl rfl rfl rfl rfl ⟨rfl, rfl, rfl, rfl, rfl⟩ rfl rfl rfl rfl rfl (by kernel_rfl) Try.func11 (by kernel_rfl)
    (of_decide_eq_true (by kernel_rfl)) (by unfold Func.isWrapper; first | (rw [if_pos (by decide +kernel)]; kernel_rfl) | (rw [if_neg (by decide +kernel)]; exact ⟨rfl, rfl⟩))
    (fun os started H enc _ => lifted os started H enc)
#print axioms proved
end Go.Proofs.Ytaoldfndidngbaa.spanLeast
