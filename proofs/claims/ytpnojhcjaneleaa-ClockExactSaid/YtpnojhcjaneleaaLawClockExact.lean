/- A clock that doesn't drift, and was set exactly, tells the time itself: moietylaw06.ClockExact answers true. For every reading, time and list of steps; no conditions. -/
import Derived.Test.YtpnojhcjaneleaaClkO
namespace Go.Proofs.Ytpnojhcjaneleaa.clockExact
open Go.ChangeShapes Go.WideShapes Go.ChangeAt Go.RowKit Go.Sp Go.Fl Go.Ck
set_option linter.unusedVariables false
set_option linter.unusedSimpArgs false

/-- A clock that doesn't drift and is exact. -/
structure Exa (c : Ck) (H T : Int) : Prop where
  ok : Ok c
  on : c.on = true
  rate : c.rate = 0
  wide : c.e = 0
  last : c.last ≤ H
  sum : c.t + (H - c.r) = T
  floor : c.floor ≤ T
theorem more_zero (n : Int) : moreT n 0 = 0 := by
  have e : sz 0 = 0 := by decide +kernel
  unfold moreT prodF
  rw [e, Int.mul_zero, Int.zero_ediv]; rfl
theorem Exa.step {c : Ck} {H T : Int} (h : Exa c H T) (d : Int) (hd : 0 ≤ d) : Exa c (H + d) (T + d) :=
  ⟨h.ok, h.on, h.rate, h.wide, by have := h.last; omega, by have := h.sum; omega, by have := h.floor; omega⟩
theorem Exa.all {c : Ck} {H T : Int} (h : Exa c H T) (hH : 0 ≤ H ∧ H ≤ 1125899906842624) (hT : 0 ≤ T ∧ T ≤ 1125899906842624) :
    c.nowE H = 0 ∧ c.nowL H = T ∧ c.nowH H = T ∧ c.past T H = false ∧ c.past (T - 1) H = true ∧ Exa (c.now H) H T := by
  have hs : c.sum H = T := h.sum
  have hm : c.more H = 0 := by unfold Ck.more; rw [h.rate]; exact more_zero _
  have hw := h.wide
  have hl := h.last
  have hf := h.floor
  have M1 := mx_cases (c.sum H - c.e - c.more H) c.floor
  have M2 := mn_cases (c.sum H + c.e + c.more H) 1125899906842624
  have M3 := mx_cases (mn (c.sum H + c.e + c.more H) 1125899906842624) (c.lo H)
  have e1 : c.lo H = mx (c.sum H - c.e - c.more H) c.floor := rfl
  have e2 : c.hi H = mx (mn (c.sum H + c.e + c.more H) 1125899906842624) (c.lo H) := rfl
  rw [← e1] at M1
  rw [← e2] at M3
  have lo : c.lo H = T := by omega
  have hi : c.hi H = T := by omega
  have k := h.ok.now H
  rcases now_cases c h.ok H with ⟨n0, _, _, n1, n2, _, ns, nn, nm, n3, n6, n4, n5, nL, nH, E⟩ | ⟨_, _, _, _, _, _, g, _⟩ | ⟨_, _, _, g, _⟩ | ⟨_, _, g, _⟩ | ⟨_, g, _⟩
  · refine ⟨n0, by rw [nL, lo], by rw [nH, hi], ?_, ?_, ?_⟩
    · unfold Ck.past; rw [lo, decide_eq_false_iff_not]; omega
    · unfold Ck.past; rw [lo, decide_eq_true_eq]; omega
    · rw [E] at k ⊢
      exact ⟨k, h.on, h.rate, h.wide, Int.le_refl _, h.sum, by show c.lo H ≤ T; omega⟩
  · omega
  · omega
  · rw [h.on] at g; cases g
  · have := (isT_no _).1 g; omega
theorem Exa.start (h t : Int) (hh : 0 ≤ h ∧ h ≤ 1125899906842624) (ht : 0 ≤ t ∧ t ≤ 1125899906842624) : (fresh 0).setE h t 0 = 0 ∧ Exa ((fresh 0).set h t 0) h t := by
  have k := (Ok.fresh (x := 0) (by decide)).set h t 0
  rcases set_cases (fresh 0) h t 0 with ⟨E0, _, _, _, _, _, _, h4, E⟩ | ⟨_, _, _, _, g, _⟩ | ⟨_, _, _, g, _⟩ | ⟨_, _, g, _⟩ | ⟨_, g, _⟩
  · refine ⟨E0, ?_⟩
    rw [E] at k ⊢
    exact ⟨k, rfl, rfl, rfl, Int.le_refl _, (by show t + (h - h) = t; omega), ht.1⟩
  · have : h < 0 := g
    omega
  · have := (isT_no _).1 g; omega
  · have := (isT_no _).1 g; omega
  · have := (isT_no _).1 g; omega

set_option maxRecDepth 100000 in
set_option maxHeartbeats 8000000 in
theorem walk (h : Int) (hh : -9223372036854775808 ≤ h ∧ h ≤ 9223372036854775807) (t : Int) (ht : -9223372036854775808 ≤ t ∧ t ≤ 9223372036854775807) (A : Option Addr) (len cap : Nat) (l : List Int) (w : World) (hL : IsR w A len cap 1 encU GU l) :
    Calls Try.prog 7 #[.int .i64 h, .int .i64 t, .slice A len cap] w fun r w' => r = .returned (.bool true) ∧ Below w.heap.size w w' := by
  obtain ⟨hlen, hs, hc1, hc2, hn, hg⟩ := hL
  subst hlen
  have HS := Lib.hid hs
  have HG := Lib.hid hg
  clear hs hg hn
  go_enter Try.func7, Try.ntmps7
  go_wp2_with fail
  refine (new_at 0 (by decide) _ _ rfl).mono ?_
  rintro r w1 ⟨rfl, hb1, k⟩
  have HL := Lib.hid (show Lw w w1 [] w.heap.size (fresh 0) from ⟨(St.start w).call hb1, k, Nat.le_refl _, fun r hr => by cases hr⟩)
  clear hb1 k
  go_wp2_with fail
  refine (awake_any _).mono ?_
  rintro r w2 ⟨rfl, hb1⟩
  replace HL := Lib.hid (HL.out.call hb1)
  clear hb1
  go_wp2_with fail
  have hh2 := and40 h
  have ht2 := and40 t
  clear hh ht
  generalize bits .and .i64 h 1099511627775 = H0 at *
  generalize bits .and .i64 t 1099511627775 = T0 at *
  obtain ⟨s0, sx⟩ := Exa.start H0 T0 (by omega) (by omega)
  have HX := Lib.hid sx
  refine (set_any _ (fresh 0) H0 T0 0 ⟨by omega, by omega⟩ ⟨by omega, by omega⟩ ⟨by omega, by omega⟩ _ HL.out.clk).mono ?_
  rintro r w3 ⟨rfl, hb1, k⟩
  rw [s0]
  replace HL := Lib.hid (HL.out.turn hb1 k)
  clear hb1 k s0 sx
  generalize (fresh 0).set H0 T0 0 = c0 at *
  go_wp2_with fail
  go_loopw [0, 1, 9] (fun a b i wr => ∃ (n : Nat) (H T : Int) (c : Ck), n ≤ l.length ∧ n ≤ 40 ∧ i = .int .i64 (n : Int) ∧ a = .int .i64 H ∧ b = .int .i64 T ∧ (0 ≤ H ∧ H ≤ 1099511627775 + 4294967295 * n) ∧ (0 ≤ T ∧ T ≤ 1099511627775 + 4294967295 * n) ∧ Exa c H T ∧ Lw w wr [] w.heap.size c) (fun _ _ i _ => l.length - (intOf i).toNat)
  case atStart => exact ⟨0, H0, T0, c0, by omega, by omega, rfl, rfl, rfl, by omega, by omega, HX.out, HL.out⟩
  case round =>
    obtain ⟨n, H, T, c, hn1, hn2, rfl, rfl, rfl, hH, hT, hx, hl⟩ := hrel
    have HL1 := Lib.hid hl
    have HX1 := Lib.hid hx
    clear hx hl HX HL
    by_cases hlt : n < l.length ∧ n < 40
    · obtain ⟨h1, h2⟩ := hlt
      obtain ⟨v, hv⟩ : ∃ v, l[n]? = some v := ⟨_, List.getElem?_eq_getElem h1⟩
      have gv := HG.out v (List.mem_of_getElem? hv)
      unfold GU at gv
      obtain ⟨b0, off, rfl, hb, hc⟩ := (HS.out.below HL1.out.st.below).item encU_len (by omega) n v hv
      have q0 := hc 0 _ rfl
      rw [Nat.add_zero, Nat.mul_one] at q0
      clear hc hv
      have g1 : (n : Int) < (l.length : Int) := by omega
      have g2 : (n : Int) < 40 := by omega
      have hn3 : (n : Int) ≤ 39 := by omega
      obtain ⟨a1, a2, a3, a4, a5, a6⟩ := (HX1.out.step v gv.1).all (by omega) (by omega)
      have HX2 := Lib.hid a6
      obtain ⟨b1, b2, b3, b4, b5, b6⟩ := a6.all (by omega) (by omega)
      have HX3 := Lib.hid b6
      obtain ⟨c1, c2, c3, c4, c5, c6⟩ := b6.all (by omega) (by omega)
      have HX4 := Lib.hid c6
      have N1 := Lib.hid (fun w0 (k : Clk w0 w.heap.size c) => now_any w.heap.size c HX1.out.ok (H + v) ⟨by omega, by omega⟩ w0 k)
      have N2 := Lib.hid (fun w0 (k : Clk w0 w.heap.size (c.now (H + v))) => past_any w.heap.size _ HX2.out.ok (T + v) (H + v) ⟨by omega, by omega⟩ w0 k)
      have N3 := Lib.hid (fun w0 (k : Clk w0 w.heap.size ((c.now (H + v)).now (H + v))) => past_any w.heap.size _ HX3.out.ok (T + v - 1) (H + v) ⟨by omega, by omega⟩ w0 k)
      rw [a1, a2, a3] at N1
      rw [b1, b4] at N2
      rw [c1, c5] at N3
      clear a1 a2 a3 a4 a5 a6 b1 b2 b3 b4 b5 b6 c1 c2 c3 c4 c5 c6 HX1 HX2 HX3
      generalize ((c.now (H + v)).now (H + v)).now (H + v) = k3 at *
      generalize (c.now (H + v)).now (H + v) = k2 at *
      generalize c.now (H + v) = k1 at *
      go_wp2_with fail
      go_quiet (fail)
      go_wp2_with fail
      refine (N1.out _ (HL1.out.clk.drewN _)).mono ?_
      rintro r x1 ⟨rfl, hb1, k⟩
      replace HL1 := Lib.hid (((HL1.out.drewN _).turn hb1 k).alloc x1.heap.size rfl 39 #[.int .i64 (T + v), .int .i64 (T + v)])
      clear hb1 k
      go_wp2_with fail
      refine (N2.out _ HL1.out.clk).mono ?_
      rintro r x2 ⟨rfl, hb1, k⟩
      replace HL1 := Lib.hid (HL1.out.turn hb1 k)
      clear hb1 k
      go_wp2_with fail
      refine (N3.out _ HL1.out.clk).mono ?_
      rintro r x3 ⟨rfl, hb1, k⟩
      replace HL1 := Lib.hid (HL1.out.turn hb1 k)
      clear hb1 k
      obtain ⟨p0, p1, p2, p3, p4⟩ := HL1.out.st.two 0 x1.heap.size rfl
      go_wp2_with fail
      go_roundw
      case rel => exact ⟨n + 1, H + v, T + v, k3, by omega, by omega, by go_num, rfl, rfl, by omega, by omega, HX4.out, HL1.out.few (fun r hr => by cases hr)⟩
      case measure => simp [intOf]; omega
    · have hend : (n = l.length) ∨ (n < l.length ∧ n = 40) := by omega
      rcases hend with rfl | ⟨h1, rfl⟩
      · go_wp2_with fail
        go_ret
        exact ⟨rfl, HL1.out.st.below⟩
      · have g1 : ((40 : Nat) : Int) < (l.length : Int) := by omega
        go_wp2_with fail
        go_ret
        exact ⟨rfl, HL1.out.st.below⟩

set_option maxRecDepth 100000 in
theorem lifted (os : Os) (started : os.Started) (H : Type) (enc : TypeId × Value → H) :
    ReturnsInHanded {} Try.checked os 7 .any (Rows.clockExactSpec.pre6 enc Try.prog Try.f7 Rows.clockExactRow.domain false) (Rows.clockExactSpec.post enc Try.prog Try.f7 false true false false) := by
  refine returnsInHanded_of_change (C := Try.checked) own started (by kernel_rfl) Try.func7
    (ChangeSpec.witness6 (enc := enc) (C := Try.checked) false ⟨#[], #[.int .i64 0, .int .i64 0, .slice none 0 0], []⟩ 8 (by kernel_rfl) (by kernel_rfl) (by kernel_rfl) (by kernel_rfl)) ?_
  intro W base args ds gs before hval0 hW hcnd _
  have hval : ∀ (j : Nat) t v, Try.f7.params[j]? = some t → args[j]? = some v → Value.okWide Try.prog W .any base t v := hval0
  have hW' := hW
  obtain ⟨p, q, hA0, hV, rfl, hfz, hnd⟩ := hW
  have hA : DataW.TrodAll enc Try.prog W 0 (fun _ => true) true Try.f7.params.toList args.toList ds p := hA0
  rw [Try.params7] at hA hval
  obtain ⟨v0, vs0, d0, ds0, p0, q0, hargs, rfl, rfl, h0, r0⟩ := trodAll_cons hA
  obtain ⟨v1, vs1, d1, ds1, p1, q1, rfl, rfl, rfl, h1, r1⟩ := trodAll_cons r0
  obtain ⟨v2, vs2, d2, ds2, p2, q2, rfl, rfl, rfl, h2, r2⟩ := trodAll_cons r1
  obtain ⟨rfl, rfl, rfl⟩ := trodAll_nil r2
  obtain rfl : args = #[v0, v1, v2] := by cases args; simp_all
  obtain ⟨rfl, rfl⟩ := trodVars_none hV
  obtain ⟨a0, rfl⟩ := okWide_int Try.underlying2 (hval 0 2 v0 rfl rfl)
  have w0 : -9223372036854775808 ≤ a0 ∧ a0 ≤ 9223372036854775807 := by
    obtain ⟨m, hm⟩ := h0
    obtain ⟨s, hs, _, hl⟩ := DataW.trod_int Try.underlying2 hm
    simp [Value.cells] at hs
    rw [hs]; have := bounds_i64 hl; omega
  have lt0 : ∀ x ∈ p0, x.block < W.heap.size := by obtain ⟨m, hm⟩ := h0; exact DataW.trod_lt m _ _ _ hm
  obtain ⟨a1, rfl⟩ := okWide_int Try.underlying2 (hval 1 2 v1 rfl rfl)
  have w1 : -9223372036854775808 ≤ a1 ∧ a1 ≤ 9223372036854775807 := by
    obtain ⟨m, hm⟩ := h1
    obtain ⟨s, hs, _, hl⟩ := DataW.trod_int Try.underlying2 hm
    simp [Value.cells] at hs
    rw [hs]; have := bounds_i64 hl; omega
  have lt1 : ∀ x ∈ p1, x.block < W.heap.size := by obtain ⟨m, hm⟩ := h1; exact DataW.trod_lt m _ _ _ hm
  obtain ⟨A2, len2, cap2, rfl⟩ := okWide_slice Try.underlying64 (hval 2 64 v2 rfl rfl)
  obtain ⟨l2, w2⟩ := open_u32s h2
  have lt2 : ∀ x ∈ p2, x.block < W.heap.size := by obtain ⟨m, hm⟩ := h2; exact DataW.trod_lt m _ _ _ hm
  clear hA0 hval0
  simp only [List.append_nil] at hW'
  refine (walk a0 w0 a1 w1 A2 len2 cap2 l2 W w2).mono fun e W' ⟨he, bel⟩ => ?_
  subst he
  exact ⟨_, rfl, _, _, _, [], _, [], hW', trodAll_mk1 (shut_bool Try.underlying4 _), (trodAll_cons_mk (Below.trod laidOut (by kernel_rfl) (of_decide_eq_true (by kernel_rfl)) h0 bel lt0) (trodAll_cons_mk (Below.trod laidOut (by kernel_rfl) (of_decide_eq_true (by kernel_rfl)) h1 bel lt1) (trodAll_cons_mk (Below.trod laidOut (by kernel_rfl) (of_decide_eq_true (by kernel_rfl)) h2 bel lt2) trodAll_mk0))), rfl, bel.frame _, fun h => by cases h⟩

theorem proved : Rows.ClockExactSaid :=
  OpenClaim.holds_of_wide 7 Try.f7 rfl rfl rfl rfl rfl rfl rfl ⟨rfl, rfl, rfl, rfl, rfl⟩ rfl rfl rfl rfl rfl (by kernel_rfl) Try.func7 (by kernel_rfl)
    (of_decide_eq_true (by kernel_rfl)) (by unfold Func.isWrapper; first | (rw [if_pos (by decide +kernel)]; kernel_rfl) | (rw [if_neg (by decide +kernel)]; exact ⟨rfl, rfl⟩))
    (fun os started H enc _ => lifted os started H enc)
#print axioms proved
end Go.Proofs.Ytpnojhcjaneleaa.clockExact
