/- The true time is in each span that a right clock tells, however it drifts within its rate and however often it is set: moietylaw06.ClockHolds answers true. For every float, time and list of steps; no conditions. -/
import Derived.Test.YtpnojhcjaneleaaClkB
namespace Go.Proofs.Ytpnojhcjaneleaa.clockHolds
open Go.ChangeShapes Go.WideShapes Go.ChangeAt Go.RowKit Go.Sp Go.Fl Go.Ck
set_option linter.unusedVariables false
set_option linter.unusedSimpArgs false

/-- A slot that holds u, and v once its operation has come. -/
def so (b : Bool) (v u : Value) : Value := if b then v else u
theorem so_true (v u : Value) : so true v u = v := rfl
theorem so_false (v u : Value) : so false v u = u := rfl
set_option maxRecDepth 100000 in
set_option maxHeartbeats 8000000 in
theorem walk (x : Nat) (hx : x < 18446744073709551616) (t : Int) (ht : -9223372036854775808 ≤ t ∧ t ≤ 9223372036854775807) (A : Option Addr) (len cap : Nat) (l : List Sp6) (w : World) (hL : IsR w A len cap 5 encS GS l) :
    Calls Try.prog 5 #[.float .f64 x, .int .i64 t, .slice A len cap] w fun r w' => r = .returned (.bool true) ∧ Below w.heap.size w w' := by
  obtain ⟨hlen, hs, hc1, hc2, hn, hg⟩ := hL
  subst hlen
  have HS := Lib.hid hs
  have HG := Lib.hid hg
  clear hs hg hn
  have HC := Lib.hid (fun w0 => rcrated_any x hx w0)
  cases hc : crated x with
  | false =>
    rw [hc] at HC
    clear hx hc ht
    go_enter Try.func5, Try.ntmps5
    go_wp2_with fail
    refine (awake_any _).mono ?_
    rintro r w1 ⟨rfl, hb1⟩
    have H := Lib.hid ((St.start w).call hb1)
    clear hb1
    go_wp2_with fail
    refine (HC.out _).mono ?_
    rintro r w2 ⟨rfl, e2⟩
    subst w2
    go_wp2_with fail
    refine (awake_any _).mono ?_
    rintro r w2 ⟨rfl, hb1⟩
    replace H := Lib.hid (H.out.call hb1)
    clear hb1
    go_wp2_with fail
    go_ret
    exact ⟨rfl, H.out.below⟩
  | true =>
    rw [hc] at HC
    have HB := Lib.hid (fun w0 => begun_any x hc t 7 t (by omega) w0)
    have h40 := and40 t
    clear hx hc ht
    generalize bits .and .i64 t 1099511627775 = T0 at *
    go_enter Try.func5, Try.ntmps5
    go_wp2_with fail
    refine (awake_any _).mono ?_
    rintro r w1 ⟨rfl, hb1⟩
    have H := Lib.hid ((St.start w).call hb1)
    clear hb1
    go_wp2_with fail
    refine (HC.out _).mono ?_
    rintro r w2 ⟨rfl, e2⟩
    subst w2
    go_wp2_with fail
    refine (HB.out _).mono ?_
    rintro r w2 ⟨g, c0, rfl, hb1, hg, R0⟩
    have HL := Lib.hid (show Lw w w2 [] g c0 from ⟨H.out.call hb1, R0.clk, by have := H.out.below.size; omega, fun r hr => by cases hr⟩)
    have HR := Lib.hid (show Right c0 0 T0 ∧ c0.rate = x ∧ c0.e ≤ 65535 from ⟨R0.right, R0.rate, R0.wide⟩)
    have HWS := Lib.hid (show w.heap.size ≤ w2.heap.size from HL.out.st.below.size)
    clear hb1 hg R0 H
    go_wp2_with fail
    replace HL := Lib.hid (HL.out.alloc w2.heap.size rfl 49 #[ptr g, .float .f64 x, .int .i64 0, .int .i64 T0])
    go_loopw [8, 9] (fun ok i wr => ∃ (n : Nat) (h T : Int) (c : Ck), n ≤ l.length ∧ n ≤ 40 ∧ i = .int .i64 (n : Int) ∧ ok = .bool true ∧ (0 ≤ h ∧ h ≤ 4294967296 * n) ∧ (0 ≤ T ∧ T ≤ 1099511627775 + 8589934592 * n) ∧ (Right c h T ∧ c.rate = x ∧ c.e ≤ 65535) ∧ Lw w wr [(w2.heap.size, 49, #[ptr g, .float .f64 x, .int .i64 h, .int .i64 T])] g c) (fun _ i _ => l.length - (intOf i).toNat)
    case atStart => exact ⟨0, 0, T0, c0, by omega, by omega, rfl, rfl, by omega, by omega, HR.out, HL.out⟩
    case round =>
      obtain ⟨n, h, T, c, hn1, hn2, rfl, rfl, hh, hT, hr, hl⟩ := hrel
      have HL1 := Lib.hid hl
      have HR1 := Lib.hid hr
      clear hl hr HL HR
      by_cases hlt : n < l.length ∧ n < 40
      · obtain ⟨h1, h2⟩ := hlt
        obtain ⟨v, hv⟩ : ∃ v, l[n]? = some v := ⟨_, List.getElem?_eq_getElem h1⟩
        have gv := HG.out v (List.mem_of_getElem? hv)
        have gd := gv.1
        obtain ⟨b0, off, rfl, hb, hcc⟩ := (HS.out.below HL1.out.st.below).item encS_len (by omega) n v hv
        have HV := Lib.hid hv
        clear hcc hv
        have i1 : (n : Int) < (l.length : Int) := by omega
        have i2 : (n : Int) < 40 := by omega
        have hm := prod_range v.d x gd.1 (crated_rated (by have := HR1.out.1.ok.rate; rwa [HR1.out.2.1] at this))
        have hq := bro_range v.s (prodF v.d x) hm.1
        have N1 := Lib.hid (fun w0 (k : Clk w0 g c) => step_any w0 g x c h T v gv ⟨k, HR1.out.1, HR1.out.2.1, HR1.out.2.2⟩ (by omega) (by omega))
        clear gv
        generalize bro v.s (prodF v.d x) = q at *
        generalize prodF v.d x = m at *
        obtain ⟨vd, vs, vb, ve, vo⟩ := v
        simp only at gd hm N1
        go_wp2_with fail
        refine Iv.region (fun f aa yw => ∃ c2, aa = ⟨#[.float .f64 x, .int .i64 t, .slice (some ⟨b0, off, none⟩) l.length cap, undef, undef, undef, u6, ptr w2.heap.size, .bool true, .int .i64 (n : Int), u10, u11, .bool true, .bool false, .bool false, .float .f64 x, .bool true, .bool false, .bool false, undef, .tuple #[.agg #[ptr g, .float .f64 x, .int .i64 0, .int .i64 T0], .bool true], .float .f64 x, .int .i64 t, .int .i64 t, .tuple #[.agg #[ptr g, .float .f64 x, .int .i64 0, .int .i64 T0], .bool true], .agg #[ptr g, .float .f64 x, .int .i64 0, .int .i64 T0], .bool true, .int .i64 (n : Int), .slice (some ⟨b0, off, none⟩) l.length cap, .int .i64 (l.length : Int), .bool true, .bool true, .int .i64 (n : Int), .bool true, .bool true, .bool true, .bool true, .bool true, u38, u39, so (f 6) (.tuple #[.agg #[ptr g, Value.float .f64 x, Value.int .i64 (h + vd), Value.int .i64 (T + vd + q)], .bool true] : Value) u40, so (f 0) (.agg #[ptr g, Value.float .f64 x, Value.int .i64 (h), Value.int .i64 (T)] : Value) u41, so (f 1) (.slice (some ⟨b0, off, none⟩) l.length cap : Value) u42, so (f 2) (.int .i64 (n : Int) : Value) u43, so (f 3) (.pointer (some ⟨b0, off + n * 5, none⟩) : Value) u44, so (f 4) (.agg #[.int .u32 vd, .int .i64 vs, .bool vb, .int .u16 ve, .int .i64 vo] : Value) u45, so (f 5) (.tuple #[.agg #[ptr g, Value.float .f64 x, Value.int .i64 (h + vd), Value.int .i64 (T + vd + q)], .bool true] : Value) u46, so (f 7) (.agg #[ptr g, Value.float .f64 x, Value.int .i64 (h + vd), Value.int .i64 (T + vd + q)] : Value) u47, so (f 8) (.bool true : Value) u48, u49, u50, u51, u52, u53, u54, u55, u56, u57, u58, u59, u60, u61, u62, u63, u64, u65, u66, u67, u68, u69, u70, u71, u72, u73, u74, undef], []⟩ ∧ Lw w yw [(w2.heap.size, 49, if f 9 = true then #[ptr g, Value.float .f64 x, Value.int .i64 (h + vd), Value.int .i64 (T + vd + q)] else #[ptr g, Value.float .f64 x, Value.int .i64 (h), Value.int .i64 (T)])] g (if f 5 = true then c2 else c) ∧ (f 5 = true → Right c2 (h + vd) (T + vd + q) ∧ c2.rate = x ∧ c2.e ≤ 65535) ∧ (f 9 = true → f 0 = true)) (by kernel_rfl) (by kernel_rfl) ?_ ?_ ?_
        · exact ⟨c, rfl, HL1.out.drewN 1, (fun h => by cases h), fun h => by cases h⟩
        · refine ⟨?_, ?_, ?_, ?_, ?_, ?_, ?_, ?_, ?_, ?_, ?_, trivial⟩
          · rintro f a0 yw Q' ⟨c2, rfl, hw⟩ hi hd hQ
            replace hQ := Lib.hid hQ
            simp [Iv.depsB, Region.binds] at hd
            try simp only [hi, hd, sl_true, sl_false, so_true, so_false]
            try simp only [hi, sl_true, sl_false, so_true, so_false]
            have e9 : f 9 = false := by
              cases h9 : f 9 with
              | false => rfl
              | true => have := hw.2.2 h9; rw [hi] at this; cases this
            have hwk : Whole yw w2.heap.size 49 #[ptr g, Value.float .f64 x, Value.int .i64 (h), Value.int .i64 (T)] := by have := hw.1.st.knows.at 0 rfl; simpa [e9] using this
            obtain ⟨c0, c1, c3, c4⟩ := hwk.four
            clear hwk
            go_wp2_with fail
            refine hQ.out _ _ ⟨c2, ?_, ?_⟩
            · simp [Iv.upd, hi, hd, sl_true, sl_false, so_true, so_false]
            · simpa [Iv.upd, hi, hd] using (show _ ∧ _ from ⟨hw.1, hw.2.1⟩)
          · rintro f a0 yw Q' ⟨c2, rfl, hw⟩ hi hd hQ
            replace hQ := Lib.hid hQ
            simp [Iv.depsB, Region.binds] at hd
            try simp only [hi, hd, sl_true, sl_false, so_true, so_false]
            try simp only [hi, sl_true, sl_false, so_true, so_false]
            go_wp2_with fail
            refine hQ.out _ _ ⟨c2, ?_, ?_⟩
            · simp [Iv.upd, hi, hd, sl_true, sl_false, so_true, so_false]
            · simpa [Iv.upd, hi, hd] using hw
          · rintro f a0 yw Q' ⟨c2, rfl, hw⟩ hi hd hQ
            replace hQ := Lib.hid hQ
            simp [Iv.depsB, Region.binds] at hd
            try simp only [hi, hd, sl_true, sl_false, so_true, so_false]
            try simp only [hi, sl_true, sl_false, so_true, so_false]
            go_wp2_with fail
            refine hQ.out _ _ ⟨c2, ?_, ?_⟩
            · simp [Iv.upd, hi, hd, sl_true, sl_false, so_true, so_false]
            · simpa [Iv.upd, hi, hd] using hw
          · rintro f a0 yw Q' ⟨c2, rfl, hw⟩ hi hd hQ
            replace hQ := Lib.hid hQ
            simp [Iv.depsB, Region.binds] at hd
            try simp only [hi, hd, sl_true, sl_false, so_true, so_false]
            try simp only [hi, sl_true, sl_false, so_true, so_false]
            go_wp2_with fail
            refine hQ.out _ _ ⟨c2, ?_, ?_⟩
            · simp [Iv.upd, hi, hd, sl_true, sl_false, so_true, so_false]
            · simpa [Iv.upd, hi, hd] using hw
          · rintro f a0 yw Q' ⟨c2, rfl, hw⟩ hi hd hQ
            replace hQ := Lib.hid hQ
            simp [Iv.depsB, Region.binds] at hd
            try simp only [hi, hd, sl_true, sl_false, so_true, so_false]
            try simp only [hi, sl_true, sl_false, so_true, so_false]
            obtain ⟨b1, off1, hA, hb1, hcc⟩ := (HS.out.below hw.1.st.below).item encS_len (by omega) n _ HV.out
            injection hA with hA
            injection hA with hA1 hA2
            subst hA1 hA2
            have q0 := hcc 0 _ rfl
            have q1 := hcc 1 _ rfl
            have q2 := hcc 2 _ rfl
            have q3 := hcc 3 _ rfl
            have q4 := hcc 4 _ rfl
            rw [Nat.add_zero] at q0
            simp only at q0 q1 q2 q3 q4
            clear hcc hb1
            go_wp2_with fail
            refine hQ.out _ _ ⟨c2, ?_, ?_⟩
            · simp [Iv.upd, hi, hd, sl_true, sl_false, so_true, so_false]
            · simpa [Iv.upd, hi, hd] using hw
          · rintro f a0 yw Q' ⟨c2, rfl, hw⟩ hi hd hQ
            replace hQ := Lib.hid hQ
            simp [Iv.depsB, Region.binds] at hd
            try simp only [hi, hd, sl_true, sl_false, so_true, so_false]
            try simp only [hi, sl_true, sl_false, so_true, so_false]
            go_wp2_with fail
            refine (N1.out _ (by simpa [hi] using hw.1.clk)).mono ?_
            rintro e y1 ⟨c5, rfl, hb, R3⟩
            have hwn := hw.1.turn hb R3.clk
            have hwr : Right c5 (h + vd) (T + vd + q) ∧ c5.rate = x ∧ c5.e ≤ 65535 := ⟨R3.right, R3.rate, R3.wide⟩
            have HWN := Lib.hid hwn
            have HWR := Lib.hid hwr
            clear hwn hwr hb R3
            go_wp2_with fail
            refine hQ.out _ _ ⟨c5, ?_, ?_⟩
            · simp [Iv.upd, hi, hd, so_true, so_false]
            · refine ⟨by simpa [Iv.upd, hi, hd] using HWN.out, fun _ => HWR.out, fun _ => by simp [Iv.upd, hd]⟩
          · rintro f a0 yw Q' ⟨c2, rfl, hw⟩ hi hd hQ
            replace hQ := Lib.hid hQ
            simp [Iv.depsB, Region.binds] at hd
            try simp only [hi, hd, sl_true, sl_false, so_true, so_false]
            try simp only [hi, sl_true, sl_false, so_true, so_false]
            go_wp2_with fail
            refine hQ.out _ _ ⟨c2, ?_, ?_⟩
            · simp [Iv.upd, hi, hd, sl_true, sl_false, so_true, so_false]
            · simpa [Iv.upd, hi, hd] using hw
          · rintro f a0 yw Q' ⟨c2, rfl, hw⟩ hi hd hQ
            replace hQ := Lib.hid hQ
            simp [Iv.depsB, Region.binds] at hd
            try simp only [hi, hd, sl_true, sl_false, so_true, so_false]
            try simp only [hi, sl_true, sl_false, so_true, so_false]
            go_wp2_with fail
            refine hQ.out _ _ ⟨c2, ?_, ?_⟩
            · simp [Iv.upd, hi, hd, sl_true, sl_false, so_true, so_false]
            · simpa [Iv.upd, hi, hd] using hw
          · rintro f a0 yw Q' ⟨c2, rfl, hw⟩ hi hd hQ
            replace hQ := Lib.hid hQ
            simp [Iv.depsB, Region.binds] at hd
            try simp only [hi, hd, sl_true, sl_false, so_true, so_false]
            try simp only [hi, sl_true, sl_false, so_true, so_false]
            go_wp2_with fail
            refine hQ.out _ _ ⟨c2, ?_, ?_⟩
            · simp [Iv.upd, hi, hd, sl_true, sl_false, so_true, so_false]
            · simpa [Iv.upd, hi, hd] using hw
          · rintro f a0 yw Q' ⟨c2, rfl, hw⟩ hi hd hQ
            replace hQ := Lib.hid hQ
            simp [Iv.depsB, Region.binds] at hd
            try simp only [hi, hd, sl_true, sl_false, so_true, so_false]
            try simp only [hi, sl_true, sl_false, so_true, so_false]
            have hwn : Lw w yw [(w2.heap.size, 49, #[ptr g, Value.float .f64 x, Value.int .i64 (h), Value.int .i64 (T)])] g (if f 5 = true then c2 else c) := by have := hw.1; simpa [hi] using this
            have hws : w.heap.size ≤ w2.heap.size := HWS.out
            obtain ⟨c0, c1, c3, c4⟩ := (hwn.st.knows.at 0 rfl).four
            obtain ⟨d0, d1, d2, d3⟩ := (hwn.st.knows.at 0 rfl).thaw
            have z0 := (hwn.st.knows.at 0 rfl).lt
            have hd0 : ∀ r ∈ ([] : List Row), r.1 ≠ w2.heap.size := fun r hr => by cases hr
            have hwm := (((hwn.set0 hws hd0 (by decide) (by decide) 0 (ptr g)).set0 hws hd0 (by decide) (by decide) 1 (.float .f64 x)).set0 hws hd0 (by decide) (by decide) 2 (.int .i64 (h + vd))).set0 hws hd0 (by decide) (by decide) 3 (.int .i64 (T + vd + q))
            have HWM := Lib.hid hwm
            clear hwm hwn
            go_wp2_with fail
            refine hQ.out _ _ ⟨c2, ?_, ?_⟩
            · simp [Iv.upd, hi, hd, so_true, so_false]
            · refine ⟨by have := HWM.out; simpa [Iv.upd, hi, hd] using this, ?_, fun _ => by simp [Iv.upd, hd]⟩
              have := hw.2.1
              simpa [Iv.upd, hi, hd] using this
          · rintro f a0 yw Q' ⟨c2, rfl, hw⟩ hi hd hQ
            replace hQ := Lib.hid hQ
            simp [Iv.depsB, Region.binds] at hd
            try simp only [hi, hd, sl_true, sl_false, so_true, so_false]
            try simp only [hi, sl_true, sl_false, so_true, so_false]
            go_wp2_with fail
            refine hQ.out _ _ ⟨c2, ?_, ?_⟩
            · simp [Iv.upd, hi, hd, sl_true, sl_false, so_true, so_false]
            · simpa [Iv.upd, hi, hd] using hw
        · rintro f a0 wz ⟨c2, rfl, hw⟩ hall
          simp only [hall 0 (by decide), hall 1 (by decide), hall 2 (by decide), hall 3 (by decide), hall 4 (by decide), hall 5 (by decide), hall 6 (by decide), hall 7 (by decide), hall 8 (by decide), hall 9 (by decide), hall 10 (by decide), sl_true, ↓reduceIte, so_true] at hw ⊢
          clear hall
          have HL2 := Lib.hid (show Lw w wz [(w2.heap.size, 49, #[ptr g, Value.float .f64 x, Value.int .i64 (h + vd), Value.int .i64 (T + vd + q)])] g c2 from hw.1)
          have hr2 := hw.2.1 trivial
          have HR2 := Lib.hid hr2
          obtain ⟨e1, e2, e3, e4, e5, R9, e6, e7⟩ := HR2.out.1.now (by omega) (by omega) HR2.out.2.2
          have HR3 := Lib.hid (show Right (c2.now (h + vd)) (h + vd) (T + vd + q) ∧ (c2.now (h + vd)).rate = x ∧ (c2.now (h + vd)).e ≤ 65535 from ⟨R9, by rw [e7]; exact HR2.out.2.1, by rw [e6]; exact HR2.out.2.2⟩)
          have N2 := Lib.hid (fun w0 (k : Clk w0 g c2) => now_any g c2 HR2.out.1.ok (h + vd) ⟨by omega, by omega⟩ w0 k)
          rw [e1, e4, e5] at N2
          clear hw hr2 e1 e4 e5 R9 e6 e7
          generalize c2.now (h + vd) = k2 at *
          generalize c2.lo (h + vd) = L at *
          generalize c2.hi (h + vd) = M at *
          obtain ⟨c0, c1, c3, c4⟩ := (HL2.out.st.knows.at 0 rfl).four
          go_wp2_with fail
          refine (N2.out _ HL2.out.clk).mono ?_
          rintro r x1 ⟨rfl, hb1, k⟩
          replace HL2 := Lib.hid ((HL2.out.turn hb1 k).alloc x1.heap.size rfl 39 #[.int .i64 L, .int .i64 M])
          clear hb1 k c0 c1 c3 c4
          obtain ⟨c0, c1, c3, c4⟩ := (HL2.out.st.knows.at 1 rfl).four
          obtain ⟨p0, p1, p2, p3, p4⟩ := HL2.out.st.two 0 x1.heap.size rfl
          go_wp2_with fail
          go_roundw
          case rel =>
            repeat apply Exists.intro
            refine ⟨?_, rfl⟩
            exact ⟨n + 1, h + vd, T + vd + q, k2, by omega, by omega, by go_num, rfl, by omega, by omega, HR3.out, HL2.out.few (fun r hr => List.mem_cons_of_mem _ hr)⟩
          case measure => simp [intOf]; omega
      · have hend : ((n : Int) < (l.length : Int) ∧ n = 40) ∨ (¬ (n : Int) < (l.length : Int)) := by omega
        rcases hend with ⟨i1, rfl⟩ | i1
        all_goals
          go_wp2_with fail
          go_ret
          exact ⟨rfl, HL1.out.st.below⟩

set_option maxRecDepth 100000 in
theorem lifted (os : Os) (started : os.Started) (H : Type) (enc : TypeId × Value → H) :
    ReturnsInHanded {} Try.checked os 5 .any (Rows.clockHoldsSpec.pre6 enc Try.prog Try.f5 Rows.clockHoldsRow.domain false) (Rows.clockHoldsSpec.post enc Try.prog Try.f5 false true false false) := by
  refine returnsInHanded_of_change (C := Try.checked) own started (by kernel_rfl) Try.func5
    (ChangeSpec.witness6 (enc := enc) (C := Try.checked) false ⟨#[], #[.float .f64 0, .int .i64 0, .slice none 0 0], []⟩ 8 (by kernel_rfl) (by kernel_rfl) (by kernel_rfl) (by kernel_rfl)) ?_
  intro W base args ds gs before hval0 hW hcnd _
  have hval : ∀ (j : Nat) t v, Try.f5.params[j]? = some t → args[j]? = some v → Value.okWide Try.prog W .any base t v := hval0
  have hW' := hW
  obtain ⟨p, q, hA0, hV, rfl, hfz, hnd⟩ := hW
  have hA : DataW.TrodAll enc Try.prog W 0 (fun _ => true) true Try.f5.params.toList args.toList ds p := hA0
  rw [Try.params5] at hA hval
  obtain ⟨v0, vs0, d0, ds0, p0, q0, hargs, rfl, rfl, h0, r0⟩ := trodAll_cons hA
  obtain ⟨v1, vs1, d1, ds1, p1, q1, rfl, rfl, rfl, h1, r1⟩ := trodAll_cons r0
  obtain ⟨v2, vs2, d2, ds2, p2, q2, rfl, rfl, rfl, h2, r2⟩ := trodAll_cons r1
  obtain ⟨rfl, rfl, rfl⟩ := trodAll_nil r2
  obtain rfl : args = #[v0, v1, v2] := by cases args; simp_all
  obtain ⟨rfl, rfl⟩ := trodVars_none hV
  obtain ⟨a0, rfl⟩ := okWide_float Try.underlying22 (hval 0 22 v0 rfl rfl)
  have w0 : a0 < 18446744073709551616 := by
    obtain ⟨m, hm⟩ := h0
    obtain ⟨s, hs, hl⟩ := float_of (k := .f64) Try.underlying22 hm
    simp [Value.cells] at hs
    rw [hs]; simpa [Lit.wf] using hl
  have lt0 : ∀ x ∈ p0, x.block < W.heap.size := by obtain ⟨m, hm⟩ := h0; exact DataW.trod_lt m _ _ _ hm
  obtain ⟨a1, rfl⟩ := okWide_int Try.underlying2 (hval 1 2 v1 rfl rfl)
  have w1 : -9223372036854775808 ≤ a1 ∧ a1 ≤ 9223372036854775807 := by
    obtain ⟨m, hm⟩ := h1
    obtain ⟨s, hs, _, hl⟩ := DataW.trod_int Try.underlying2 hm
    simp [Value.cells] at hs
    rw [hs]; have := bounds_i64 hl; omega
  have lt1 : ∀ x ∈ p1, x.block < W.heap.size := by obtain ⟨m, hm⟩ := h1; exact DataW.trod_lt m _ _ _ hm
  obtain ⟨A2, len2, cap2, rfl⟩ := okWide_slice Try.underlying47 (hval 2 47 v2 rfl rfl)
  obtain ⟨l2, w2⟩ := open_steps h2
  have lt2 : ∀ x ∈ p2, x.block < W.heap.size := by obtain ⟨m, hm⟩ := h2; exact DataW.trod_lt m _ _ _ hm
  clear hA0 hval0
  simp only [List.append_nil] at hW'
  refine (walk a0 w0 a1 w1 A2 len2 cap2 l2 W w2).mono fun e W' ⟨he, bel⟩ => ?_
  subst he
  exact ⟨_, rfl, _, _, _, [], _, [], hW', trodAll_mk1 (shut_bool Try.underlying4 _), (trodAll_cons_mk (Below.trod laidOut (by kernel_rfl) (of_decide_eq_true (by kernel_rfl)) h0 bel lt0) (trodAll_cons_mk (Below.trod laidOut (by kernel_rfl) (of_decide_eq_true (by kernel_rfl)) h1 bel lt1) (trodAll_cons_mk (Below.trod laidOut (by kernel_rfl) (of_decide_eq_true (by kernel_rfl)) h2 bel lt2) trodAll_mk0))), rfl, bel.frame _, fun h => by cases h⟩

theorem proved : Rows.ClockHoldsSaid :=
  OpenClaim.holds_of_wide 5 Try.f5 rfl rfl rfl rfl rfl rfl rfl ⟨rfl, rfl, rfl, rfl, rfl⟩ rfl rfl rfl rfl rfl (by kernel_rfl) Try.func5 (by kernel_rfl)
    (of_decide_eq_true (by kernel_rfl)) (by unfold Func.isWrapper; first | (rw [if_pos (by decide +kernel)]; kernel_rfl) | (rw [if_neg (by decide +kernel)]; exact ⟨rfl, rfl⟩))
    (fun os started H enc _ => lifted os started H enc)
#print axioms proved
end Go.Proofs.Ytpnojhcjaneleaa.clockHolds
