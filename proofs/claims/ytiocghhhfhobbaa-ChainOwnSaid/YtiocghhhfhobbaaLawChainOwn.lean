/- What is listed is its owner's: changed, it changes nothing; for every input, without conditions (of more calls the first 60 are made). -/
import Derived.Test.YtiocghhhfhobbaaChnL
namespace Go.Proofs.Ytiocghhhfhobbaa.chainOwn
open Go.ChangeShapes Go.WideShapes Go.ChangeAt Go.RowKit Go.Cn
set_option linter.unusedVariables false
set_option linter.unusedSimpArgs false

/-- A block whose cells are told one by one: only it changes. -/
structure Cw (w0 w : World) (q : Nat) (n cp : Nat) (cs : Array Value) : Prop where
  off : Off (fun b => b = q) w0 w
  row : Whole w q 34 cs
  size : cs.size = cp * 2
theorem Cw.drewN {w0 w : World} {q n cp : Nat} {cs : Array Value} (h : Cw w0 w q n cp cs) (k : Nat) : Cw w0 (w.drewN k) q n cp cs := ⟨h.off.drewN k, h.row.drewN k, h.size⟩
theorem Cw.set {w0 w : World} {q n cp : Nat} {cs : Array Value} (h : Cw w0 w q n cp cs) (i : Nat) (u : Value) : Cw w0 (w.setCell ⟨q, i, none⟩ u) q n cp (cs.setIfInBounds i u) :=
  ⟨h.off.set (p := ⟨q, i, none⟩) (.inl rfl) u, h.row.set i u, by rw [Array.size_setIfInBounds]; exact h.size⟩
theorem Cw.at {w0 w : World} {q n cp : Nat} {cs : Array Value} (h : Cw w0 w q n cp cs) (i : Nat) (hi : i < cp * 2) : (∃ u, w.cell? ⟨q, i, none⟩ = some u) ∧ w.frozen? ⟨q, i, none⟩ = false ∧ q < w.heap.size := by
  refine ⟨⟨cs[i]'(by rw [h.size]; exact hi), ?_⟩, h.row.free i, h.row.lt⟩
  rw [h.row.cell i]
  exact Array.getElem?_eq_getElem _
theorem Cw.own {w0 w : World} {q n cp : Nat} {cs : Array Value} (h : Cw w0 w q n cp cs) (hn : n ≤ cp) (hc : cp ≤ 9223372036854775807) : w.ownsRow 0 34 2 (.slice (some ⟨q, 0, none⟩) n cp) n (cs.toList.take (n * 2)) := by
  have : n * 2 ≤ cp * 2 := Nat.mul_le_mul_right _ hn
  refine ⟨by rw [List.length_take, Array.length_toList, h.size]; omega, .inr ⟨q, cp, cs, rfl, Nat.zero_le _, h.row, hn, by unfold maxLen; exact hc, h.size, rfl⟩⟩
set_option maxHeartbeats 16000000 in
set_option maxRecDepth 100000 in
theorem walk (A : Option Addr) (len cap : Nat) (l : List Op11) (w : World) (hL : IsR w A len cap 3 encO GO l) :
    Calls Try.prog 7 #[.slice A len cap] w fun r w' => r = .returned (.bool true) ∧ Below w.heap.size w w' := by
  have HMA := Lib.hid (made_any A len cap l w hL w.heap.size rfl)
  clear hL
  go_enter Try.func7, Try.ntmps7
  go_wp2_with fail
  refine HMA.out.mono ?_
  rintro r w1 ⟨rfl, hp⟩
  have H := Lib.hid hp
  have hfew := hp.ok.few
  clear hp HMA
  generalize mk l (min l.length 60) = c at *
  go_wp2_with fail
  refine (cawake_any _).mono ?_
  rintro r w2 ⟨rfl, hb1⟩
  replace H := Lib.hid (H.out.call hb1)
  clear hb1
  go_wp2_with fail
  obtain ⟨F, hF, hF2, -, -⟩ := H.out.chn
  have HLO := Lib.hid (fun b (hb : F b) => hF.low hb)
  have HF := Lib.hid hF
  clear hF hF2
  refine (plist H.out).mono ?_
  rintro r w3 ⟨A3, c3, rfl, hb1, ho⟩
  have HO := Lib.hid ho
  have hw2 := H.out.st.below.size
  have hw3 := hb1.size
  replace H := Lib.hid (H.out.call hb1)
  replace HF := Lib.hid (HF.out.call hb1)
  clear hb1 ho
  go_wp2_with fail
  refine (plist H.out).mono ?_
  rintro r w4 ⟨A4, c4, rfl, hb1, ho⟩
  have hq3 := Lib.hid (fun b hb => (ow_lt HO.out (b := b) hb))
  replace HO := Lib.hid (own_keep HO.out hb1 (Nat.le_refl _))
  have HR4 := Lib.hid ho
  have hw4 := hb1.size
  replace H := Lib.hid (H.out.call hb1)
  replace HF := Lib.hid (HF.out.call hb1)
  clear hb1 ho
  rcases HO.out.2 with ⟨hv, h0⟩ | ⟨q, cp, cur, hv, hb, hg, h1, h2, h3, h4⟩
  · simp only [Value.slice.injEq] at hv
    obtain ⟨rfl, hl, rfl⟩ := hv
    obtain ⟨q, hqe⟩ : ∃ q, q = w4.heap.size := ⟨_, rfl⟩
    have hb : w2.heap.size ≤ q := by omega
    have HOW : Hid (w4.ownsRow 0 34 2 (.slice none c.l.length 0) c.l.length []) := Lib.hid ⟨by simp [hl], .inl ⟨by rw [hl], hl⟩⟩
    have i1 : ¬ (0 : Int) < (c.l.length : Int) := by omega
    clear h0 hq3 HO hl
    go_wp2_with fail
    go_loopw [6] (fun i wr => i = .int .i64 0 ∧ wr = w4) (fun i _ => 0)
    case atStart => exact ⟨rfl, rfl⟩
    case round =>
      obtain ⟨rfl, e⟩ := hrel
      subst e
      go_wp2_with (at_builtin; refine wpList_appG rfl (.tmp 29) (.tmp 31) _ 34 _ 2 16 rfl info_ver Try.underlying25 rfl (by decide) 0 _ c.l.length [] rfl (HOW.out.alloc _) (wr.heap.size + 1) (some ⟨wr.heap.size, 0, none⟩) 1 1 (flat encV [(0, 0)]) rfl (sees_ver wr wr.heap.size rfl 0 0) (fun h => by cases h) (encV_one _) (by omega) (by omega) (Nat.zero_le _) ?_)
      intro v1 y1 ho1 hg1
      obtain ⟨A1, cp1, rfl, -, -, -⟩ := own_slice0 ho1
      have HOF := Lib.hid (show Off (fun b => b = q) wr y1 from ((Off.refl _ wr).alloc _).grown hg1 (fun k hk => by simp [Value.ownBlock] at hk))
      clear ho1 hg1
      have HF1 := Lib.hid (HF.out.off HOF.out fun b hb e => by have := HLO.out b hb; omega)
      obtain ⟨A9, c9, hrc⟩ := HF1.out.read
      have HR1 := Lib.hid (show Rv y1 A4 c4 c.l from Rv.own (ow_at HR4.out fun b hb => HOF.out.block b (ow_lt HR4.out hb).2 (fun e => by have := (ow_lt HR4.out hb).1; have := (ow_lt HR4.out hb).2; omega)) rfl)
      have HLS := Lib.hid (clist_any w.heap.size A9 c9 c y1 hrc)
      have HBL := Lib.hid (H.out.st.below.trans (HOF.out.below (Nat.le_trans H.out.st.below.size (Nat.le_refl _)) (fun k e => by omega)))
      clear hrc
      go_wp2_with fail
      refine HLS.out.mono ?_
      rintro r y2 ⟨A8, c8, rfl, hb1, ho8⟩
      have HSM := Lib.hid (rsame_any A8 c8 A4 c4 c.l y2 (Rv.own ho8 rfl) (HR1.out.call hb1) (by omega))
      have HB2 := Lib.hid (HBL.out.trans (hb1.mono HBL.out.size))
      clear ho8 hb1
      go_wp2_with fail
      refine HSM.out.mono ?_
      rintro r y3 ⟨rfl, hb1⟩
      have HB3 := Lib.hid (HB2.out.trans (hb1.mono HB2.out.size))
      clear hb1
      go_wp2_with fail
      go_ret
      exact ⟨rfl, HB3.out⟩
  · simp only [Value.slice.injEq, true_and] at hv
    obtain ⟨rfl, rfl⟩ := hv
    have hq := (hq3.out q (by simp [Value.ownBlock])).2
    have HC : Hid (Cw w4 w4 q c.l.length c3 cur) := Lib.hid ⟨Off.refl _ _, hg, h3⟩
    unfold maxLen at h2
    clear hg h3 h4 hq3 HO
    go_wp2_with fail
    go_loopw [6] (fun i wr => ∃ (n : Nat) (cs : Array Value), n ≤ c.l.length ∧ i = .int .i64 (n : Int) ∧ Cw w4 wr q c.l.length c3 cs) (fun i _ => c.l.length - (intOf i).toNat)
    case atStart => exact ⟨0, cur, by omega, rfl, HC.out⟩
    case round =>
      obtain ⟨n, cs, hn, rfl, hcw⟩ := hrel
      have HC1 := Lib.hid hcw
      clear hcw HC
      by_cases hlt : n < c.l.length
      · have i1 : (n : Int) < (c.l.length : Int) := by omega
        obtain ⟨⟨u0, k0⟩, f0, z0⟩ := HC1.out.at (n * 2) (by omega)
        obtain ⟨⟨u1, k1⟩, f1, -⟩ := HC1.out.at (n * 2 + 1) (by omega)
        go_wp2_with fail
        go_roundw
        case rel => exact ⟨n + 1, _, by omega, by go_num, (HC1.out.set _ _).set _ _⟩
        case measure => simp [intOf]; omega
      · obtain rfl : n = c.l.length := by omega
        have HOW := Lib.hid (HC1.out.own h1 h2)
        go_wp2_with (at_builtin; refine wpList_appG rfl (.tmp 29) (.tmp 31) _ 34 _ 2 16 rfl info_ver Try.underlying25 rfl (by decide) 0 _ c.l.length (cs.toList.take (c.l.length * 2)) rfl (HOW.out.alloc _) (wr.heap.size + 1) (some ⟨wr.heap.size, 0, none⟩) 1 1 (flat encV [(0, 0)]) rfl (sees_ver wr wr.heap.size rfl 0 0) (fun h => by cases h) (encV_one _) (by omega) (by omega) (Nat.zero_le _) ?_)
        intro v1 y1 ho1 hg1
        obtain ⟨A1, cp1, rfl, -, -, -⟩ := own_slice0 ho1
        have HOF := Lib.hid (show Off (fun b => b = q) w4 y1 from (HC1.out.off.alloc _).grown hg1 (fun k hk => .inl (by simpa [Value.ownBlock] using hk.symm)))
        clear ho1 hg1
        have HF1 := Lib.hid (HF.out.off HOF.out fun b hb e => by have := HLO.out b hb; omega)
        obtain ⟨A9, c9, hrc⟩ := HF1.out.read
        have HR1 := Lib.hid (show Rv y1 A4 c4 c.l from Rv.own (ow_at HR4.out fun b hb => HOF.out.block b (ow_lt HR4.out hb).2 (fun e => by have := (ow_lt HR4.out hb).1; have := (ow_lt HR4.out hb).2; omega)) rfl)
        have HLS := Lib.hid (clist_any w.heap.size A9 c9 c y1 hrc)
        have HBL := Lib.hid (H.out.st.below.trans (HOF.out.below (Nat.le_trans H.out.st.below.size (Nat.le_refl _)) (fun k e => by omega)))
        clear hrc
        go_wp2_with fail
        refine HLS.out.mono ?_
        rintro r y2 ⟨A8, c8, rfl, hb1, ho8⟩
        have HSM := Lib.hid (rsame_any A8 c8 A4 c4 c.l y2 (Rv.own ho8 rfl) (HR1.out.call hb1) (by omega))
        have HB2 := Lib.hid (HBL.out.trans (hb1.mono HBL.out.size))
        clear ho8 hb1
        go_wp2_with fail
        refine HSM.out.mono ?_
        rintro r y3 ⟨rfl, hb1⟩
        have HB3 := Lib.hid (HB2.out.trans (hb1.mono HB2.out.size))
        clear hb1
        go_wp2_with fail
        go_ret
        exact ⟨rfl, HB3.out⟩

set_option maxRecDepth 100000 in
theorem lifted (os : Os) (started : os.Started) (H : Type) (enc : TypeId × Value → H) :
    ReturnsInHanded {} Try.checked os 7 .any (Rows.chainOwnSpec.pre6 enc Try.prog Try.f7 Rows.chainOwnRow.domain false) (Rows.chainOwnSpec.post enc Try.prog Try.f7 false true false false) := by
  refine returnsInHanded_of_change (C := Try.checked) own started (by kernel_rfl) Try.func7
    (ChangeSpec.witness6 (enc := enc) (C := Try.checked) false ⟨#[], #[.slice none 0 0], []⟩ 8 (by kernel_rfl) (by kernel_rfl) (by kernel_rfl) (by kernel_rfl)) ?_
  intro W base args ds gs before hval0 hW hcnd _
  have hval : ∀ (j : Nat) t v, Try.f7.params[j]? = some t → args[j]? = some v → Value.okWide Try.prog W .any base t v := hval0
  have hW' := hW
  obtain ⟨p, q, hA0, hV, rfl, hfz, hnd⟩ := hW
  have hA : DataW.TrodAll enc Try.prog W 0 (fun _ => true) true Try.f7.params.toList args.toList ds p := hA0
  rw [Try.params7] at hA hval
  obtain ⟨v0, vs0, d0, ds0, p0, q0, hargs, rfl, rfl, h0, r0⟩ := trodAll_cons hA
  obtain ⟨rfl, rfl, rfl⟩ := trodAll_nil r0
  obtain rfl : args = #[v0] := by cases args; simp_all
  obtain ⟨rfl, rfl⟩ := trodVars_none hV
  obtain ⟨A0, len0, cap0, rfl⟩ := okWide_slice Try.underlying22 (hval 0 22 v0 rfl rfl)
  obtain ⟨l0, w0⟩ := open_ops h0
  have lt0 : ∀ x ∈ p0, x.block < W.heap.size := by obtain ⟨m, hm⟩ := h0; exact DataW.trod_lt m _ _ _ hm
  clear hA0 hval0
  simp only [List.append_nil] at hW'
  refine (walk A0 len0 cap0 l0 W w0).mono fun e W' ⟨he, bel⟩ => ?_
  subst he
  exact ⟨_, rfl, _, _, _, [], _, [], hW', trodAll_mk1 (shut_bool Try.underlying4 _), (trodAll_cons_mk (Below.trod laidOut (by kernel_rfl) (of_decide_eq_true (by kernel_rfl)) h0 bel lt0) trodAll_mk0), rfl, bel.frame _, fun h => by cases h⟩

theorem proved : Rows.ChainOwnSaid :=
  OpenClaim.holds_of_wide 7 Try.f7 rfl rfl rfl rfl rfl rfl rfl ⟨rfl, rfl, rfl, rfl, rfl⟩ rfl rfl rfl rfl rfl (by kernel_rfl) Try.func7 (by kernel_rfl)
    (of_decide_eq_true (by kernel_rfl)) (by unfold Func.isWrapper; first | (rw [if_pos (by decide +kernel)]; kernel_rfl) | (rw [if_neg (by decide +kernel)]; exact ⟨rfl, rfl⟩))
    (fun os started H enc _ => lifted os started H enc)
#print axioms proved
end Go.Proofs.Ytiocghhhfhobbaa.chainOwn
