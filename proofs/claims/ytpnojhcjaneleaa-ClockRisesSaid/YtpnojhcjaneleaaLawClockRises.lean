/- What a clock knows to be past never gets less, and its spans are spans: moietylaw06.ClockRises answers true. For every float and list of calls; no conditions. -/
import Derived.Test.YtpnojhcjaneleaaClkO
namespace Go.Proofs.Ytpnojhcjaneleaa.clockRises
open Go.ChangeShapes Go.WideShapes Go.ChangeAt Go.RowKit Go.Sp Go.Fl Go.Ck
set_option linter.unusedVariables false
set_option linter.unusedSimpArgs false

/-- Asked again at the same reading, a clock tells the same. -/
theorem again (c : Ck) (o : Ok c) (h : Int) (h0 : c.nowE h = 0) : (c.now h).nowE h = 0 ∧ (c.now h).lo h = c.lo h ∧ ((c.now h).now h).floor = c.lo h ∧ Ok (c.now h) ∧ Ok ((c.now h).now h) ∧
    c.nowL h = c.lo h ∧ c.nowH h = c.hi h ∧ c.floor ≤ c.lo h ∧ 0 ≤ c.lo h ∧ c.lo h ≤ c.hi h ∧ c.hi h ≤ 1125899906842624 := by
  have o1 := o.now h
  have o2 := o1.now h
  have hf := o.floor
  rcases now_cases c o h with ⟨n0, t1, on, n1, n2, t2, ns, nn, nm, n3, n6, n4, n5, nL, nH, E⟩ | ⟨n0, _⟩ | ⟨n0, _⟩ | ⟨n0, _⟩ | ⟨n0, _⟩
  case' inr.inl => rw [n0] at h0; cases h0
  case' inr.inr.inl => rw [n0] at h0; cases h0
  case' inr.inr.inr.inl => rw [n0] at h0; cases h0
  case' inr.inr.inr.inr => rw [n0] at h0; cases h0
  have e0 : (c.now h).nowE h = 0 := by
    rw [E]
    show (if isT h then (if c.on then (if h < h then (62 : Int) else if isT (c.sum h) then 0 else 64) else 63) else 61) = 0
    rw [t1, on, t2]
    simp
  have e1 : (c.now h).lo h = c.lo h := by
    rw [E]
    show mx (c.sum h - c.e - c.more h) (c.lo h) = c.lo h
    have := mx_cases (c.sum h - c.e - c.more h) (c.lo h)
    omega
  refine ⟨e0, e1, ?_, o1, o2, nL, nH, n3, by omega, n4, n5⟩
  rw [← e1]
  unfold Ck.now at e0 ⊢
  rw [if_pos e0]

set_option maxRecDepth 100000 in
set_option maxHeartbeats 8000000 in
theorem walk (x : Nat) (hx : x < 18446744073709551616) (A : Option Addr) (len cap : Nat) (l : List Cl) (w : World) (hL : IsR w A len cap 4 encC GC l) :
    Calls Try.prog 4 #[.float .f64 x, .slice A len cap] w fun r w' => r = .returned (.bool true) ∧ Below w.heap.size w w' := by
  obtain ⟨hlen, hs, hc1, hc2, hn, hg⟩ := hL
  subst hlen
  have HS := Lib.hid hs
  have HG := Lib.hid hg
  clear hs hg hn
  cases hc : crated x with
  | false =>
    have HN := Lib.hid (fun w0 => new_no x hx hc w0)
    clear hx hc
    go_enter Try.func4, Try.ntmps4
    go_wp2_with fail
    refine (HN.out _).mono ?_
    rintro r w1 ⟨rfl, e1⟩
    subst w1
    go_wp2_with fail
    refine (awake_any _).mono ?_
    rintro r w1 ⟨rfl, hb1⟩
    have H := Lib.hid ((St.start w).call hb1)
    clear hb1
    go_wp2_with fail
    refine (awake_any _).mono ?_
    rintro r w2 ⟨rfl, hb1⟩
    replace H := Lib.hid (H.out.call hb1)
    clear hb1
    go_wp2_with fail
    go_ret
    exact ⟨rfl, H.out.below⟩
  | true =>
    have HX := Lib.hid (Ok.fresh hc)
    go_enter Try.func4, Try.ntmps4
    go_wp2_with fail
    refine (new_at x hc _ _ rfl).mono ?_
    rintro r w1 ⟨rfl, hb1, k⟩
    have HL := Lib.hid (show Lw w w1 [] w.heap.size (fresh x) from ⟨(St.start w).call hb1, k, Nat.le_refl _, fun r hr => by cases hr⟩)
    clear hb1 k
    go_wp2_with fail
    refine (awake_any _).mono ?_
    rintro r w2 ⟨rfl, hb1⟩
    replace HL := Lib.hid (HL.out.call hb1)
    clear hb1
    go_wp2_with fail
    go_loopw [7, 8] (fun a i wr => ∃ (n : Nat) (F : Int) (c : Ck), n ≤ l.length ∧ n ≤ 40 ∧ i = .int .i64 (n : Int) ∧ a = .int .i64 F ∧ F ≤ c.floor ∧ Ok c ∧ Lw w wr [] w.heap.size c) (fun _ i _ => l.length - (intOf i).toNat)
    case atStart => exact ⟨0, 0, fresh x, by omega, by omega, rfl, rfl, Int.le_refl _, HX.out, HL.out⟩
    case round =>
      obtain ⟨n, F, c, hn1, hn2, rfl, rfl, hF, ho, hl⟩ := hrel
      have HL1 := Lib.hid hl
      have HO := Lib.hid ho
      clear hl ho HX HL
      by_cases hlt : n < l.length ∧ n < 40
      · obtain ⟨h1, h2⟩ := hlt
        obtain ⟨v, hv⟩ : ∃ v, l[n]? = some v := ⟨_, List.getElem?_eq_getElem h1⟩
        obtain ⟨g1, g2, g3, g4⟩ := HG.out v (List.mem_of_getElem? hv)
        have G1 := Lib.hid g1
        have G2 := Lib.hid g2
        have G3 := Lib.hid g3
        have G4 := Lib.hid g4
        obtain ⟨b0, off, rfl, hb, hcc⟩ := (HS.out.below HL1.out.st.below).item encC_len (by omega) n v hv
        have q0 := hcc 0 _ rfl
        have q1 := hcc 1 _ rfl
        have q2 := hcc 2 _ rfl
        have q3 := hcc 3 _ rfl
        rw [Nat.add_zero] at q0
        clear hcc hv g1 g2 g3 g4
        obtain ⟨vk, vh, vt, ve⟩ := v
        simp only at q0 q1 q2 q3 G1 G2 G3 G4
        have i1 : (n : Int) < (l.length : Int) := by omega
        have i2 : (n : Int) < 40 := by omega
        have N1 := Lib.hid (fun w0 (k : Clk w0 w.heap.size c) => set_any w.heap.size c vh vt ve G2.out G3.out G4.out w0 k)
        have kind : 1 < vk ∨ (vk ≤ 1 ∧ vk < 0) ∨ (vk ≤ 1 ∧ 0 ≤ vk) := by omega
        rcases kind with k1 | ⟨k1, k2⟩ | ⟨k1, k2⟩
        case' inl | inr.inl =>
          have HO2 := Lib.hid (HO.out.set vh vt ve)
          have HF2 : Hid (F ≤ (c.set vh vt ve).floor) := Lib.hid (by unfold Ck.set; split <;> exact hF)
          generalize c.setE vh vt ve = E at *
          generalize c.set vh vt ve = c2 at *
          go_wp2_with fail
          replace HL1 := Lib.hid (HL1.out.alloc wr.heap.size rfl 34 #[.int .i64 vk, .int .i64 vh, .int .i64 vt, .int .i64 ve])
          refine (N1.out _ HL1.out.clk).mono ?_
          rintro r x1 ⟨rfl, hb1, k⟩
          replace HL1 := Lib.hid (HL1.out.turn hb1 k)
          clear hb1 k
          go_wp2_with fail
          go_roundw
          case rel => exact ⟨n + 1, F, c2, by omega, by omega, by go_num, rfl, HF2.out, HO2.out, HL1.out.few (fun r hr => by cases hr)⟩
          case measure => simp [intOf]; omega
        case' inr.inr =>
          have N2 := Lib.hid (fun w0 (k : Clk w0 w.heap.size c) => now_any w.heap.size c HO.out vh G2.out w0 k)
          by_cases h0 : c.nowE vh = 0
          · obtain ⟨a1, a2, a3, a4, a5, a6, a7, a8, a9, a10, a11⟩ := again c HO.out vh h0
            have N3 := Lib.hid (fun w0 (k : Clk w0 w.heap.size (c.now vh)) => past_any w.heap.size _ a4 vt vh G2.out w0 k)
            have P : (c.now vh).past vt vh = decide (vt < c.lo vh) := by unfold Ck.past; rw [a1, a2]; simp
            have HO2 := Lib.hid a5
            have HF2 : Hid (c.lo vh ≤ ((c.now vh).now vh).floor) := Lib.hid (by omega)
            rw [a1, P] at N3
            rw [h0, a6, a7] at N2
            clear a1 a2 a3 a4 a5 a6 a7 P h0
            have a12 : F ≤ c.lo vh := by omega
            clear hF
            generalize (c.now vh).now vh = k2' at *
            generalize c.now vh = k1' at *
            generalize c.lo vh = L at *
            generalize c.hi vh = M at *
            go_wp2_with fail
            replace HL1 := Lib.hid (HL1.out.alloc wr.heap.size rfl 34 #[.int .i64 vk, .int .i64 vh, .int .i64 vt, .int .i64 ve])
            refine (N2.out _ HL1.out.clk).mono ?_
            rintro r x1 ⟨rfl, hb1, k⟩
            replace HL1 := Lib.hid ((HL1.out.turn hb1 k).alloc x1.heap.size rfl 39 #[.int .i64 L, .int .i64 M])
            clear hb1 k
            obtain ⟨p0, p1, p2, p3⟩ := (HL1.out.st.knows.at 1 rfl).four
            go_wp2_with fail
            refine (N3.out _ HL1.out.clk).mono ?_
            rintro r x2 ⟨rfl, hb1, k⟩
            replace HL1 := Lib.hid (HL1.out.turn hb1 k)
            clear hb1 k p0 p1 p2 p3
            obtain ⟨p0, p1, p2, p3⟩ := (HL1.out.st.knows.at 1 rfl).four
            go_wp2_with fail
            go_roundw
            case rel => exact ⟨n + 1, L, k2', by omega, by omega, by go_num, rfl, HF2.out, HO2.out, HL1.out.few (fun r hr => by cases hr)⟩
            case measure => simp [intOf]; omega
          · have q9 : (c.nowE vh != 0) = true := by simpa using h0
            have HO2 := Lib.hid (HO.out.now vh)
            have HF2 : Hid (F ≤ (c.now vh).floor) := Lib.hid (by unfold Ck.now; rw [if_neg h0]; exact hF)
            clear h0 hF
            generalize c.nowE vh = E at *
            generalize c.nowL vh = L at *
            generalize c.nowH vh = M at *
            generalize c.now vh = c2 at *
            go_wp2_with fail
            replace HL1 := Lib.hid (HL1.out.alloc wr.heap.size rfl 34 #[.int .i64 vk, .int .i64 vh, .int .i64 vt, .int .i64 ve])
            refine (N2.out _ HL1.out.clk).mono ?_
            rintro r x1 ⟨rfl, hb1, k⟩
            replace HL1 := Lib.hid ((HL1.out.turn hb1 k).alloc x1.heap.size rfl 39 #[.int .i64 L, .int .i64 M])
            clear hb1 k
            go_wp2_with fail
            go_roundw
            case rel => exact ⟨n + 1, F, c2, by omega, by omega, by go_num, rfl, HF2.out, HO2.out, HL1.out.few (fun r hr => by cases hr)⟩
            case measure => simp [intOf]; omega
      · have hend : (n = l.length) ∨ (n < l.length ∧ n = 40) := by omega
        rcases hend with rfl | ⟨h1, rfl⟩
        · go_wp2_with fail
          go_ret
          exact ⟨rfl, HL1.out.st.below⟩
        · have g1 : ((40 : Nat) : Int) < (l.length : Int) := by omega
          go_wp2_with fail
          go_ret
          exact ⟨rfl, HL1.out.st.below⟩

set_option maxRecDepth 100000 in
theorem lifted (os : Os) (started : os.Started) (H : Type) (enc : TypeId × Value → H) :
    ReturnsInHanded {} Try.checked os 4 .any (Rows.clockRisesSpec.pre6 enc Try.prog Try.f4 Rows.clockRisesRow.domain false) (Rows.clockRisesSpec.post enc Try.prog Try.f4 false true false false) := by
  refine returnsInHanded_of_change (C := Try.checked) own started (by kernel_rfl) Try.func4
    (ChangeSpec.witness6 (enc := enc) (C := Try.checked) false ⟨#[], #[.float .f64 0, .slice none 0 0], []⟩ 8 (by kernel_rfl) (by kernel_rfl) (by kernel_rfl) (by kernel_rfl)) ?_
  intro W base args ds gs before hval0 hW hcnd _
  have hval : ∀ (j : Nat) t v, Try.f4.params[j]? = some t → args[j]? = some v → Value.okWide Try.prog W .any base t v := hval0
  have hW' := hW
  obtain ⟨p, q, hA0, hV, rfl, hfz, hnd⟩ := hW
  have hA : DataW.TrodAll enc Try.prog W 0 (fun _ => true) true Try.f4.params.toList args.toList ds p := hA0
  rw [Try.params4] at hA hval
  obtain ⟨v0, vs0, d0, ds0, p0, q0, hargs, rfl, rfl, h0, r0⟩ := trodAll_cons hA
  obtain ⟨v1, vs1, d1, ds1, p1, q1, rfl, rfl, rfl, h1, r1⟩ := trodAll_cons r0
  obtain ⟨rfl, rfl, rfl⟩ := trodAll_nil r1
  obtain rfl : args = #[v0, v1] := by cases args; simp_all
  obtain ⟨rfl, rfl⟩ := trodVars_none hV
  obtain ⟨a0, rfl⟩ := okWide_float Try.underlying22 (hval 0 22 v0 rfl rfl)
  have w0 : a0 < 18446744073709551616 := by
    obtain ⟨m, hm⟩ := h0
    obtain ⟨s, hs, hl⟩ := float_of (k := .f64) Try.underlying22 hm
    simp [Value.cells] at hs
    rw [hs]; simpa [Lit.wf] using hl
  have lt0 : ∀ x ∈ p0, x.block < W.heap.size := by obtain ⟨m, hm⟩ := h0; exact DataW.trod_lt m _ _ _ hm
  obtain ⟨A1, len1, cap1, rfl⟩ := okWide_slice Try.underlying23 (hval 1 23 v1 rfl rfl)
  obtain ⟨l1, w1⟩ := open_calls h1
  have lt1 : ∀ x ∈ p1, x.block < W.heap.size := by obtain ⟨m, hm⟩ := h1; exact DataW.trod_lt m _ _ _ hm
  clear hA0 hval0
  simp only [List.append_nil] at hW'
  refine (walk a0 w0 A1 len1 cap1 l1 W w1).mono fun e W' ⟨he, bel⟩ => ?_
  subst he
  exact ⟨_, rfl, _, _, _, [], _, [], hW', trodAll_mk1 (shut_bool Try.underlying4 _), (trodAll_cons_mk (Below.trod laidOut (by kernel_rfl) (of_decide_eq_true (by kernel_rfl)) h0 bel lt0) (trodAll_cons_mk (Below.trod laidOut (by kernel_rfl) (of_decide_eq_true (by kernel_rfl)) h1 bel lt1) trodAll_mk0)), rfl, bel.frame _, fun h => by cases h⟩

theorem proved : Rows.ClockRisesSaid :=
  OpenClaim.holds_of_wide 4 Try.f4 rfl rfl rfl rfl rfl rfl rfl ⟨rfl, rfl, rfl, rfl, rfl⟩ rfl rfl rfl rfl rfl (by kernel_rfl) Try.func4 (by kernel_rfl)
    (of_decide_eq_true (by kernel_rfl)) (by unfold Func.isWrapper; first | (rw [if_pos (by decide +kernel)]; kernel_rfl) | (rw [if_neg (by decide +kernel)]; exact ⟨rfl, rfl⟩))
    (fun os started H enc _ => lifted os started H enc)
#print axioms proved
end Go.Proofs.Ytpnojhcjaneleaa.clockRises
