/- A total doesn't hang on the order: AmountTurns answers true at every list of numbers and every two places. No condition. -/
import Derived.Test.YtggmbkmkjkllkaaAmtZ
namespace Go.Proofs.Ytggmbkmkjkllkaa.amountTurns
open Go.ChangeShapes Go.WideShapes Go.ChangeAt Go.RowKit Go.Am Go.Fl
set_option linter.unusedVariables false
set_option linter.unusedSimpArgs false

set_option maxHeartbeats 4000000 in
theorem walk_idle (A : Option Addr) (cap : Nat) (l : List Int) (a : Int) (ha : 0 ≤ a ∧ a ≤ 65535) (b : Int) (hb : 0 ≤ b ∧ b ≤ 65535) (w : World) (hbad : 5000 < l.length ∨ l.length = 0) :
    Calls Try.prog 10 #[.slice A l.length cap, .int .u16 a, .int .u16 b] w fun e w' => e = .returned (.bool true) ∧ Below w.heap.size w w' := by
  have hq : (5000 : Int) < (l.length : Int) ∨ ((l.length : Int) ≤ 5000 ∧ ((l.length : Int) == 0) = true) := by
    rcases hbad with h | h
    · exact .inl (by omega)
    · exact .inr ⟨by omega, by rw [h]; rfl⟩
  clear hbad
  generalize l.length = len at *
  rcases hq with q | ⟨q, q2⟩
  all_goals
    go_enter Try.func10, Try.ntmps10
    go_wp2_with fail
    refine (awake_any _).mono ?_
    rintro e w1 ⟨rfl, hb1⟩
    go_wp2_with fail
    go_ret
    exact ⟨rfl, hb1⟩

set_option maxHeartbeats 4000000 in
theorem walk_good (A : Option Addr) (cap : Nat) (l : List Int) (a : Int) (ha : 0 ≤ a ∧ a ≤ 65535) (b : Int) (hb : 0 ≤ b ∧ b ≤ 65535) (w : World) (hL : IsN w A l.length cap l) (h0 : 0 < l.length) (h5 : l.length ≤ 5000) :
    Calls Try.prog 10 #[.slice A l.length cap, .int .u16 a, .int .u16 b] w fun e w' => e = .returned (.bool true) ∧ Below w.heap.size w w' := by
  obtain ⟨-, hs, hc1, hc2, hn, hr⟩ := hL
  have HS := Lib.hid hs
  have HN := Lib.hid hn
  have HR := Lib.hid hr
  obtain ⟨ha0, ha1⟩ := ha
  obtain ⟨hb0, hb1⟩ := hb
  obtain ⟨i, hi⟩ : ∃ i : Nat, a % (l.length : Int) = (i : Int) := ⟨(a % (l.length : Int)).toNat, by
    have := Int.emod_nonneg a (show (l.length : Int) ≠ 0 by omega)
    omega⟩
  obtain ⟨k, hk⟩ : ∃ k : Nat, b % (l.length : Int) = (k : Int) := ⟨(b % (l.length : Int)).toNat, by
    have := Int.emod_nonneg b (show (l.length : Int) ≠ 0 by omega)
    omega⟩
  have hil : i < l.length := by have := Int.emod_lt_of_pos a (show (0 : Int) < (l.length : Int) by omega); omega
  have hkl : k < l.length := by have := Int.emod_lt_of_pos b (show (0 : Int) < (l.length : Int) by omega); omega
  obtain ⟨x, hx⟩ : ∃ x, l[i]? = some x := ⟨_, List.getElem?_eq_getElem hil⟩
  obtain ⟨y, hy⟩ : ∃ y, l[k]? = some y := ⟨_, List.getElem?_eq_getElem hkl⟩
  have hsw := swap_tot l i k x y hx hy
  have hswl : (swap l i k x y).length = l.length := by unfold swap; rw [List.length_set, List.length_set]
  have hswr : ∀ n ∈ swap l i k x y, -9223372036854775808 ≤ n ∧ n < 9223372036854775808 := fun n hn => hr n ((swap_mem l i k x y hx hy n).1 hn)
  have hset : vals (swap l i k x y) = ((vals l).set i (.int .i64 y)).set k (.int .i64 x) := by rw [vals_set, vals_set]; rfl
  have hnz : ((l.length : Int) == 0) = false := by simpa using (by omega : ¬ (l.length : Int) = 0)
  have hnz2 : ((l.length : Int) != 0) = true := by simpa using (by omega : ¬ (l.length : Int) = 0)
  have hd : (l.length : Int) ≤ 5000 := by omega
  have hii : (i : Int) < (l.length : Int) := by omega
  have hkk : (k : Int) < (l.length : Int) := by omega
  have HX := Lib.hid hx
  have HY := Lib.hid hy
  have HSW := Lib.hid hsw
  have HSL := Lib.hid hswl
  have HSR := Lib.hid hswr
  have HSET := Lib.hid hset
  clear hs hn hr hx hy hsw hswl hswr hset
  go_enter Try.func10, Try.ntmps10
  go_wp2_with (at_builtin; refine wpList_appG rfl (.tmp 24) (.tmp 25) _ 2 _ 1 8 rfl info_i64 Try.underlying27 rfl (by decide) w.heap.size _ 0 [] rfl (own_empty w 2 1) _ A l.length cap (vals l) rfl (HS.out.alloc (Nat.le_refl _) _) HN.out (vals_one _) (by omega) (by omega) (by simp) ?_)
  intro v1 w1 ho1 hg1
  have hb1' : Below w.heap.size w w1 := ((Below.refl w.heap.size w).alloc (Nat.le_refl _) _).grown hg1 (by simp) fun k hk => by
    have : some w.heap.size = some k := hk
    injection this with this; omega
  have ho1' : w1.ownsRow w.heap.size 2 1 v1 l.length (vals l) := by simpa using ho1
  obtain ⟨g, c1, rfl, hgb, hgl⟩ := ho1'.form h0
  have hcap := own_slice0 ho1'
  obtain ⟨_, _, hce, hcl, hcm, -⟩ := hcap
  injection hce with e1 _ e3
  subst e1 e3
  have HB1 := Lib.hid hb1'
  have HO1 := Lib.hid ho1'
  clear ho1 hg1 ho1' hb1'
  go_wp2_with fail
  go_quiet (fail)
  have HO2 := Lib.hid (own_keep HO1.out (drew_below w1 nq) (Nat.le_refl _))
  have HB2 := Lib.hid (HB1.out.trans ((drew_below w1 nq).mono HB1.out.size))
  have hgl2 : g < (w1.drewN nq).heap.size := hgl
  generalize w1.drewN nq = w2 at *
  have g1 := HO2.out.cellAt i (by omega)
  rw [vals_at l i x HX.out] at g1
  have g2 := HO2.out.cellAt k (by omega)
  rw [vals_at l k y HY.out] at g2
  have g3 := HO2.out.frozenAt i
  have HST := Lib.hid (HO2.out.stored i (.int .i64 y))
  have HB3 := Lib.hid (HB2.out.setCell (p := ⟨g, i, none⟩) hgb (.int .i64 y))
  have hvl : (vals l).length = l.length := vals_length l
  have g4 := HST.out.1.cellAt k (by omega)
  obtain ⟨u, hu⟩ : ∃ u, ((vals l).set i (.int .i64 y))[k]? = some u := ⟨_, List.getElem?_eq_getElem (by rw [List.length_set]; omega)⟩
  rw [hu] at g4
  have g5 := HST.out.1.frozenAt k
  have HST2 := Lib.hid (HST.out.1.stored k (.int .i64 x))
  have HB4 := Lib.hid (HB3.out.setCell (p := ⟨g, k, none⟩) hgb (.int .i64 x))
  clear hvl hu
  rw [show Value.int IntKind.i64 (a % (l.length : Int)) = .int .i64 (i : Int) by rw [hi], show Value.int IntKind.i64 (b % (l.length : Int)) = .int .i64 (k : Int) by rw [hk]]
  go_wp2_with fail
  generalize (w2.setCell ⟨g, i, none⟩ (.int .i64 y)).setCell ⟨g, k, none⟩ (.int .i64 x) = w4 at *
  have ho4 := HST2.out.1
  rw [← HSET.out] at ho4
  have hs4 : Sees w4 w4.heap.size 1 (some ⟨g, 0, none⟩) (swap l i k x y).length (vals (swap l i k x y)) := by rw [HSL.out]; exact Sees.own ho4
  have HS4 := Lib.hid hs4
  have HT1 := Lib.hid (total_any _ A cap l w4 (HS.out.below HB4.out) HB4.out.size (by omega) HR.out)
  have HT2 := Lib.hid (fun w0 (h : Below w4.heap.size w4 w0) => total_any _ (some ⟨g, 0, none⟩) c1 (swap l i k x y) w0 (HS4.out.below h) h.size (by rw [HSL.out]; omega) HSR.out)
  rw [HSL.out, HSW.out.1, HSW.out.2] at HT2
  clear ho4 hs4 HSW HST HST2
  generalize totV l = V at *
  generalize totE l = E at *
  refine HT1.out.mono ?_
  rintro e w5 ⟨rfl, hb5⟩
  have HB5 := Lib.hid (HB4.out.trans (hb5.mono HB4.out.size))
  have HT3 := Lib.hid (HT2.out w5 hb5)
  clear hb5
  go_wp2_with fail
  refine HT3.out.mono ?_
  rintro e w6 ⟨rfl, hb6⟩
  have HB6 := Lib.hid (HB5.out.trans (hb6.mono HB5.out.size))
  clear hb6
  go_wp2_with fail
  refine (awake_any _).mono ?_
  rintro e w7 ⟨rfl, hb7⟩
  have HB7 := Lib.hid (HB6.out.trans (hb7.mono HB6.out.size))
  clear hb7
  go_wp2_with fail
  go_ret
  exact ⟨rfl, HB7.out⟩

theorem walk (A : Option Addr) (len cap : Nat) (l : List Int) (a : Int) (ha : 0 ≤ a ∧ a ≤ 65535) (b : Int) (hb : 0 ≤ b ∧ b ≤ 65535) (w : World) (hL : IsN w A len cap l) :
    Calls Try.prog 10 #[.slice A len cap, .int .u16 a, .int .u16 b] w fun e w' => e = .returned (.bool true) ∧ Below w.heap.size w w' := by
  obtain rfl : l.length = len := hL.1
  by_cases h : 5000 < l.length ∨ l.length = 0
  · exact walk_idle A cap l a ha b hb w h
  · exact walk_good A cap l a ha b hb w hL (by omega) (by omega)

set_option maxRecDepth 100000 in
theorem lifted (os : Os) (started : os.Started) (H : Type) (enc : TypeId × Value → H) :
    ReturnsInHanded {} Try.checked os 10 .any (Rows.amountTurnsSpec.pre6 enc Try.prog Try.f10 Rows.amountTurnsRow.domain false) (Rows.amountTurnsSpec.post enc Try.prog Try.f10 false true false false) := by
  refine returnsInHanded_of_change (C := Try.checked) own started (by kernel_rfl) Try.func10
    (ChangeSpec.witness6 (enc := enc) (C := Try.checked) false ⟨#[], #[.slice none 0 0, .int .u16 0, .int .u16 0], []⟩ 8 (by kernel_rfl) (by kernel_rfl) (by kernel_rfl) (by kernel_rfl)) ?_
  intro W base args ds gs before hval0 hW hcnd _
  have hval : ∀ (j : Nat) t v, Try.f10.params[j]? = some t → args[j]? = some v → Value.okWide Try.prog W .any base t v := hval0
  have hW' := hW
  obtain ⟨p, q, hA0, hV, rfl, hfz, hnd⟩ := hW
  have hA : DataW.TrodAll enc Try.prog W 0 (fun _ => true) true Try.f10.params.toList args.toList ds p := hA0
  rw [Try.params10] at hA hval
  obtain ⟨v0, vs0, d0, ds0, p0, q0, hargs, rfl, rfl, h0, r0⟩ := trodAll_cons hA
  obtain ⟨v1, vs1, d1, ds1, p1, q1, rfl, rfl, rfl, h1, r1⟩ := trodAll_cons r0
  obtain ⟨v2, vs2, d2, ds2, p2, q2, rfl, rfl, rfl, h2, r2⟩ := trodAll_cons r1
  obtain ⟨rfl, rfl, rfl⟩ := trodAll_nil r2
  obtain rfl : args = #[v0, v1, v2] := by cases args; simp_all
  obtain ⟨rfl, rfl⟩ := trodVars_none hV
  obtain ⟨A0, len0, cap0, rfl⟩ := okWide_slice Try.underlying27 (hval 0 27 v0 rfl rfl)
  obtain ⟨l0, w0⟩ := open_nums h0
  have lt0 : ∀ x ∈ p0, x.block < W.heap.size := by obtain ⟨m, hm⟩ := h0; exact DataW.trod_lt m _ _ _ hm
  obtain ⟨a1, rfl⟩ := okWide_int Try.underlying46 (hval 1 46 v1 rfl rfl)
  have w1 : 0 ≤ a1 ∧ a1 ≤ 65535 := by
    obtain ⟨m, hm⟩ := h1
    obtain ⟨s, hs, _, hl⟩ := DataW.trod_int Try.underlying46 hm
    simp [Value.cells] at hs
    rw [hs]; have := bounds_u16 hl; omega
  have lt1 : ∀ x ∈ p1, x.block < W.heap.size := by obtain ⟨m, hm⟩ := h1; exact DataW.trod_lt m _ _ _ hm
  obtain ⟨a2, rfl⟩ := okWide_int Try.underlying46 (hval 2 46 v2 rfl rfl)
  have w2 : 0 ≤ a2 ∧ a2 ≤ 65535 := by
    obtain ⟨m, hm⟩ := h2
    obtain ⟨s, hs, _, hl⟩ := DataW.trod_int Try.underlying46 hm
    simp [Value.cells] at hs
    rw [hs]; have := bounds_u16 hl; omega
  have lt2 : ∀ x ∈ p2, x.block < W.heap.size := by obtain ⟨m, hm⟩ := h2; exact DataW.trod_lt m _ _ _ hm
  clear hA0 hval0
  simp only [List.append_nil] at hW'
  refine (walk A0 len0 cap0 l0 a1 w1 a2 w2 W w0).mono fun e W' ⟨he, bel⟩ => ?_
  subst he
  exact ⟨_, rfl, _, _, _, [], _, [], hW', trodAll_mk1 (shut_bool Try.underlying4 _), (trodAll_cons_mk (Below.trod laidOut (by kernel_rfl) (of_decide_eq_true (by kernel_rfl)) h0 bel lt0) (trodAll_cons_mk (Below.trod laidOut (by kernel_rfl) (of_decide_eq_true (by kernel_rfl)) h1 bel lt1) (trodAll_cons_mk (Below.trod laidOut (by kernel_rfl) (of_decide_eq_true (by kernel_rfl)) h2 bel lt2) trodAll_mk0))), rfl, bel.frame _, fun h => by cases h⟩

theorem proved : Rows.AmountTurnsSaid :=
  OpenClaim.holds_of_wide 10 Try.f10 rfl rfl rfl rfl rfl rfl rfl ⟨rfl, rfl, rfl, rfl, rfl⟩ rfl rfl rfl rfl rfl (by kernel_rfl) Try.func10 (by kernel_rfl)
    (of_decide_eq_true (by kernel_rfl)) (by unfold Func.isWrapper; first | (rw [if_pos (by decide +kernel)]; kernel_rfl) | (rw [if_neg (by decide +kernel)]; exact ⟨rfl, rfl⟩))
    (fun os started H enc _ => lifted os started H enc)
#print axioms proved
end Go.Proofs.Ytggmbkmkjkllkaa.amountTurns
