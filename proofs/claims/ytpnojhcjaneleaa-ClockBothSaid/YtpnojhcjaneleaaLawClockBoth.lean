/- What one clock knows to be past no other right clock takes for still to come, then or later: moietylaw06.ClockBoth answers true. For every two floats, time and list of pairs of steps; no conditions. -/
import Derived.Test.YtpnojhcjaneleaaClkB
namespace Go.Proofs.Ytpnojhcjaneleaa.clockBoth
open Go.ChangeShapes Go.WideShapes Go.ChangeAt Go.RowKit Go.Sp Go.Fl Go.Ck
set_option linter.unusedVariables false
set_option linter.unusedSimpArgs false

/-- Where a law stands that has two clocks. -/
structure Tw (W w : World) (L : List Row) (g : Nat) (c : Ck) (g' : Nat) (c' : Ck) : Prop where
  a : Lw W w L g c
  b : Lw W w L g' c'
  ne : g ≠ g'
section
variable {W w w2 : World} {L : List Row} {g g' : Nat} {c c' k : Ck}
theorem Tw.call (h : Tw W w L g c g' c') (hb : Below w.heap.size w w2) : Tw W w2 L g c g' c' := ⟨h.a.call hb, h.b.call hb, h.ne⟩
theorem Tw.drewN (h : Tw W w L g c g' c') (n : Nat) : Tw W (w.drewN n) L g c g' c' := ⟨h.a.drewN n, h.b.drewN n, h.ne⟩
theorem Tw.alloc (h : Tw W w L g c g' c') (x : Nat) (hx : x = w.heap.size) (t : TypeId) (cs : Array Value) : Tw W (w.alloc (.cells cs t)) ((x, t, cs) :: L) g c g' c' := ⟨h.a.alloc x hx t cs, h.b.alloc x hx t cs, h.ne⟩
theorem Tw.few {L' : List Row} (h : Tw W w L g c g' c') (hl : ∀ r ∈ L', r ∈ L) : Tw W w L' g c g' c' := ⟨h.a.few hl, h.b.few hl, h.ne⟩
theorem Tw.turn1 (h : Tw W w L g c g' c') (hb : But g w w2) (hc : Clk w2 g k) : Tw W w2 L g k g' c' :=
  ⟨h.a.turn hb hc, ⟨(h.a.turn hb hc).st, h.b.clk.other h.a.clk (fun e => h.ne e.symm) hb, h.b.new, h.b.far⟩, h.ne⟩
theorem Tw.turn2 (h : Tw W w L g c g' c') (hb : But g' w w2) (hc : Clk w2 g' k) : Tw W w2 L g c g' k :=
  ⟨⟨(h.b.turn hb hc).st, h.a.clk.other h.b.clk h.ne hb, h.a.new, h.a.far⟩, h.b.turn hb hc, h.ne⟩
end
theorem Tw.run4 {W w : World} {x g g' : Nat} {t : TypeId} {a0 a1 a2 a3 b0 b1 b2 b3 : Value} {L : List Row} {c c' : Ck} (h : Tw W w ((x, t, #[a0, a1, a2, a3]) :: L) g c g' c') (hx : W.heap.size ≤ x) (hd : ∀ r ∈ L, r.1 ≠ x) (h1 : t ≠ 74) (h2 : t ≠ 79) :
    Tw W ((((w.setCell ⟨x, 0, none⟩ b0).setCell ⟨x, 1, none⟩ b1).setCell ⟨x, 2, none⟩ b2).setCell ⟨x, 3, none⟩ b3) ((x, t, #[b0, b1, b2, b3]) :: L) g c g' c' :=
  ⟨(((h.a.set0 hx hd h1 h2 0 b0).set0 hx hd h1 h2 1 b1).set0 hx hd h1 h2 2 b2).set0 hx hd h1 h2 3 b3, (((h.b.set0 hx hd h1 h2 0 b0).set0 hx hd h1 h2 1 b1).set0 hx hd h1 h2 2 b2).set0 hx hd h1 h2 3 b3, h.ne⟩
theorem whole_eleven {w : World} {g : Nat} {t : TypeId} {a0 a1 a2 a3 a4 a5 a6 a7 a8 a9 a10 : Value} (h : Whole w g t #[a0, a1, a2, a3, a4, a5, a6, a7, a8, a9, a10]) :
    (w.cell? ⟨g, 0, none⟩ = some a0 ∧ w.cell? ⟨g, 1, none⟩ = some a1 ∧ w.cell? ⟨g, 2, none⟩ = some a2 ∧ w.cell? ⟨g, 3, none⟩ = some a3 ∧ w.cell? ⟨g, 4, none⟩ = some a4 ∧ w.cell? ⟨g, 5, none⟩ = some a5) ∧
    (w.cell? ⟨g, 6, none⟩ = some a6 ∧ w.cell? ⟨g, 7, none⟩ = some a7 ∧ w.cell? ⟨g, 8, none⟩ = some a8 ∧ w.cell? ⟨g, 9, none⟩ = some a9 ∧ w.cell? ⟨g, 10, none⟩ = some a10) :=
  ⟨⟨h.cell 0, h.cell 1, h.cell 2, h.cell 3, h.cell 4, h.cell 5⟩, h.cell 6, h.cell 7, h.cell 8, h.cell 9, h.cell 10⟩
/-- Two runs of right clocks at one true time. -/
structure Rb (c : Ck) (h T : Int) (x : Nat) : Prop where
  right : Right c h T
  rate : c.rate = x
  wide : c.e ≤ 65535

set_option maxRecDepth 100000 in
set_option maxHeartbeats 16000000 in
theorem walk (x x' : Nat) (hxx : x < 18446744073709551616 ∧ x' < 18446744073709551616) (t : Int) (ht : -9223372036854775808 ≤ t ∧ t ≤ 9223372036854775807) (A : Option Addr) (len cap : Nat) (l : List Pr) (w : World) (hL : IsR w A len cap 11 encP GP l) :
    Calls Try.prog 6 #[.agg #[.float .f64 x, .float .f64 x'], .int .i64 t, .slice A len cap] w fun r w' => r = .returned (.bool true) ∧ Below w.heap.size w w' := by
  obtain ⟨hlen, hs, hc1, hc2, hn, hg⟩ := hL
  subst hlen
  obtain ⟨hx, hx'⟩ := hxx
  have HS := Lib.hid hs
  have HG := Lib.hid hg
  clear hs hg hn
  have HC := Lib.hid (fun w0 => rcrated_any x hx w0)
  have HC' := Lib.hid (fun w0 => rcrated_any x' hx' w0)
  have H := Lib.hid ((St.start w).alloc w.heap.size rfl 58 #[.float .f64 x, .float .f64 x'])
  cases hc : crated x with
  | false =>
    rw [hc] at HC
    clear hx hx' hc ht HC'
    go_enter Try.func6, Try.ntmps6
    go_wp2_with fail
    refine (awake_any _).mono ?_
    rintro r w1 ⟨rfl, hb1⟩
    replace H := Lib.hid (H.out.call hb1)
    clear hb1
    obtain ⟨c0, c1, d0, d1, z0⟩ := H.out.two 0 w.heap.size rfl
    go_wp2_with fail
    refine (HC.out _).mono ?_
    rintro r w2 ⟨rfl, e2⟩
    subst w2
    go_wp2_with fail
    refine (awake_any _).mono ?_
    rintro r w2 ⟨rfl, hb1⟩
    replace H := Lib.hid (H.out.call hb1)
    clear hb1 c0 c1 d0 d1 z0
    go_wp2_with fail
    go_ret
    exact ⟨rfl, H.out.below⟩
  | true =>
    rw [hc] at HC
    cases hc' : crated x' with
    | false =>
      rw [hc'] at HC'
      clear hx hx' hc hc' ht
      go_enter Try.func6, Try.ntmps6
      go_wp2_with fail
      refine (awake_any _).mono ?_
      rintro r w1 ⟨rfl, hb1⟩
      replace H := Lib.hid (H.out.call hb1)
      clear hb1
      obtain ⟨c0, c1, d0, d1, z0⟩ := H.out.two 0 w.heap.size rfl
      go_wp2_with fail
      refine (HC.out _).mono ?_
      rintro r w2 ⟨rfl, e2⟩
      subst w2
      go_wp2_with fail
      refine (HC'.out _).mono ?_
      rintro r w2 ⟨rfl, e2⟩
      subst w2
      go_wp2_with fail
      refine (awake_any _).mono ?_
      rintro r w2 ⟨rfl, hb1⟩
      replace H := Lib.hid (H.out.call hb1)
      clear hb1 c0 c1 d0 d1 z0
      go_wp2_with fail
      go_ret
      exact ⟨rfl, H.out.below⟩
    | true =>
      rw [hc'] at HC'
      have HB := Lib.hid (fun w0 => begun_any x hc t 9 t (by omega) w0)
      have HB' := Lib.hid (fun w0 o => begun_any x' hc' t 4 o (by omega) w0)
      have HY := Lib.hid (half_rate x hc)
      have HY' := Lib.hid (half_rate x' hc')
      have h40 := and40 t
      clear hx hx' hc hc'
      generalize bits .and .i64 t 1099511627775 = T0 at *
      go_enter Try.func6, Try.ntmps6
      go_wp2_with fail
      refine (awake_any _).mono ?_
      rintro r w1 ⟨rfl, hb1⟩
      replace H := Lib.hid (H.out.call hb1)
      clear hb1
      obtain ⟨c0, c1, d0, d1, z0⟩ := H.out.two 0 w.heap.size rfl
      go_wp2_with fail
      refine (HC.out _).mono ?_
      rintro r w2 ⟨rfl, e2⟩
      subst w2
      go_wp2_with fail
      refine (HC'.out _).mono ?_
      rintro r w2 ⟨rfl, e2⟩
      subst w2
      go_wp2_with fail
      refine (HB.out _).mono ?_
      rintro r w2 ⟨g, ca, rfl, hb1, hg, Ra⟩
      have HRa := Lib.hid (show Rb ca 0 T0 x from ⟨Ra.right, Ra.rate, Ra.wide⟩)
      have K := Lib.hid Ra.clk
      have hws0 := H.out.below.size
      have hg1 : w.heap.size ≤ g := by omega
      replace H := Lib.hid ((H.out.call hb1).alloc w2.heap.size rfl 49 #[ptr g, .float .f64 x, .int .i64 0, .int .i64 T0])
      have hws := H.out.below.size
      have hgl := Ra.clk.lt
      clear hb1 hg Ra c0 c1 d0 d1 z0
      obtain ⟨c0, c1, d0, d1, z0⟩ := H.out.two 1 w.heap.size rfl
      go_wp2_with fail
      refine (HB'.out _ _).mono ?_
      rintro r w3 ⟨g', cb, rfl, hb1, hg, Rb0⟩
      have HRb := Lib.hid (show Rb cb 0 T0 x' from ⟨Rb0.right, Rb0.rate, Rb0.wide⟩)
      have hg2 : w2.heap.size + 1 ≤ g' := by simpa using hg
      have hg3 : w2.heap.size + 1 ≤ w3.heap.size := by have := hb1.size; simpa using this
      have HL := Lib.hid (show Tw w w3 [(w2.heap.size, 49, #[ptr g, .float .f64 x, .int .i64 0, .int .i64 T0])] g ca g' cb from
        ⟨⟨(H.out.call hb1).few (by simp), (K.out.alloc _).call hb1, hg1, fun r hr => by rw [List.mem_singleton.1 hr]; show w2.heap.size ≠ g; omega⟩,
         ⟨(H.out.call hb1).few (by simp), Rb0.clk, by omega, fun r hr => by rw [List.mem_singleton.1 hr]; show w2.heap.size ≠ g'; omega⟩, by omega⟩)
      clear hb1 hg Rb0 K c0 c1 d0 d1 z0
      replace HL := Lib.hid (HL.out.alloc w3.heap.size rfl 49 #[ptr g', .float .f64 x', .int .i64 0, .int .i64 T0])
      have hw3 : w.heap.size ≤ w3.heap.size := by omega
      have hw2 : w.heap.size ≤ w2.heap.size := by omega
      go_wp2_with fail
      go_loopw [8, 10, 11, 12, 13] (fun ok is mo ot i wr => ∃ (n : Nat) (h h' T M O : Int) (ca cb : Ck), n ≤ l.length ∧ n ≤ 30 ∧ i = .int .i64 (n : Int) ∧ ok = .bool true ∧ is = .bool true ∧ mo = .int .i64 M ∧ ot = .int .i64 O ∧ (M ≤ T ∧ O ≤ T) ∧ (0 ≤ h ∧ h ≤ 8589934592 * n) ∧ (0 ≤ h' ∧ h' ≤ 8589934592 * n) ∧ (0 ≤ T ∧ T ≤ 1099511627775 + 4294967296 * n) ∧ Rb ca h T x ∧ Rb cb h' T x' ∧ Tw w wr [(w3.heap.size, 49, #[ptr g', .float .f64 x', .int .i64 (h'), .int .i64 (T)]), (w2.heap.size, 49, #[ptr g, .float .f64 x, .int .i64 (h), .int .i64 (T)])] g ca g' cb) (fun _ _ _ _ i _ => l.length - (intOf i).toNat)
      case atStart => exact ⟨0, 0, 0, T0, 0, 0, ca, cb, by omega, by omega, rfl, rfl, rfl, rfl, rfl, by omega, by omega, by omega, by omega, HRa.out, HRb.out, HL.out⟩
      case round =>
        obtain ⟨n, h, h', T, M, O, ca, cb, hn1, hn2, rfl, rfl, rfl, rfl, rfl, hMO, hh, hh', hT, hra, hrb, hl⟩ := hrel
        have HL1 := Lib.hid hl
        have HRA := Lib.hid hra
        have HRB := Lib.hid hrb
        clear hl hra hrb HL HRa HRb
        by_cases hlt : n < l.length ∧ n < 30
        · obtain ⟨h1, h2⟩ := hlt
          obtain ⟨v, hv⟩ : ∃ v, l[n]? = some v := ⟨_, List.getElem?_eq_getElem h1⟩
          have gv := HG.out v (List.mem_of_getElem? hv)
          have gd := gv.1
          obtain ⟨b0, off, rfl, hb, hcc⟩ := (HS.out.below HL1.out.a.st.below).item encP_len (by omega) n v hv
          obtain ⟨vd, va, vb⟩ := v
          obtain ⟨gv1, gv2, gv3⟩ := gv
          simp only at gv1 gv2 gv3 gd
          obtain ⟨y, hy1, hy2, hy3⟩ := HY.out
          obtain ⟨y', hy1', hy2', hy3'⟩ := HY'.out
          have hm := prod_range vd y gd.1 (crated_rated hy2)
          have hm' := prod_range vd y' gd.1 (crated_rated hy2')
          have hq := bro_range va.s (prodF vd y) hm.1
          have hq' := bro_range vb.s (prodF vd y') hm'.1
          have N1 := Lib.hid (fun w0 (k : Clk w0 g ca) => follow_any w0 g x ca h T vd va gv2 gd y ⟨hy1, hy2, hy3⟩ ⟨k, HRA.out.right, HRA.out.rate, HRA.out.wide⟩ (by omega) (by omega))
          have N2 := Lib.hid (fun w0 (k : Clk w0 g' cb) => follow_any w0 g' x' cb h' T vd vb gv3 gd y' ⟨hy1', hy2', hy3'⟩ ⟨k, HRB.out.right, HRB.out.rate, HRB.out.wide⟩ (by omega) (by omega))
          clear hy1 hy2 hy3 hy1' hy2' hy3' gv1 gv2 gv3
          generalize bro va.s (prodF vd y) = q at *
          generalize prodF vd y = m at *
          generalize bro vb.s (prodF vd y') = q' at *
          generalize prodF vd y' = m' at *
          obtain ⟨ad, asx, ab, ae, ao⟩ := va
          obtain ⟨bd, bsx, bb, be, bo⟩ := vb
          simp only at N1 N2
          have q0 := hcc 0 _ rfl
          have q1 := hcc 1 _ rfl
          have q2 := hcc 2 _ rfl
          have q3 := hcc 3 _ rfl
          have q4 := hcc 4 _ rfl
          have q5 := hcc 5 _ rfl
          have q6 := hcc 6 _ rfl
          have q7 := hcc 7 _ rfl
          have q8 := hcc 8 _ rfl
          have q9 := hcc 9 _ rfl
          have q10 := hcc 10 _ rfl
          rw [Nat.add_zero] at q0
          simp only at q0 q1 q2 q3 q4 q5 q6 q7 q8 q9 q10
          clear hcc hv
          have i1 : (n : Int) < (l.length : Int) := by omega
          have i2 : (n : Int) < 30 := by omega
          have hn3 : (n : Int) ≤ 29 := by omega
          obtain ⟨p0, p1, p2, p3⟩ := (HL1.out.a.st.knows.at 1 rfl).four
          have plt := (HL1.out.a.st.knows.at 1 rfl).lt
          have plt3 := (HL1.out.a.st.knows.at 0 rfl).lt
          have hdA : ∀ r ∈ ([(wr.heap.size, 61, #[.int .u32 vd, .int .u32 ad, .int .i64 asx, .bool ab, .int .u16 ae, .int .i64 ao, .int .u32 bd, .int .i64 bsx, .bool bb, .int .u16 be, .int .i64 bo]), (w3.heap.size, 49, #[ptr g', .float .f64 x', .int .i64 (h'), .int .i64 (T)])] : List Row), r.1 ≠ w2.heap.size := by intro r hr; simp at hr; rcases hr with rfl | rfl <;> (show _ ≠ _; simp <;> omega)
          have hdB : ∀ r ∈ ([(wr.heap.size, 61, #[.int .u32 vd, .int .u32 ad, .int .i64 asx, .bool ab, .int .u16 ae, .int .i64 ao, .int .u32 bd, .int .i64 bsx, .bool bb, .int .u16 be, .int .i64 bo]), (w2.heap.size, 49, #[ptr g, .float .f64 x, .int .i64 (h + vd - q), .int .i64 (T + vd)])] : List Row), r.1 ≠ w3.heap.size := by intro r hr; simp at hr; rcases hr with rfl | rfl <;> (show _ ≠ _; simp <;> omega)
          have HDA := Lib.hid hdA
          have HDB := Lib.hid hdB
          clear hdA hdB
          go_wp2_with fail
          replace HL1 := Lib.hid (HL1.out.alloc wr.heap.size rfl 61 #[.int .u32 vd, .int .u32 ad, .int .i64 asx, .bool ab, .int .u16 ae, .int .i64 ao, .int .u32 bd, .int .i64 bsx, .bool bb, .int .u16 be, .int .i64 bo])
          refine (N1.out _ HL1.out.a.clk).mono ?_
          rintro r x1 ⟨c2, rfl, hbb, R2⟩
          replace HL1 := Lib.hid (HL1.out.turn1 hbb R2.clk)
          have HRA2 := Lib.hid (show Rb c2 (h + vd - q) (T + vd) x from ⟨R2.right, R2.rate, R2.wide⟩)
          clear hbb R2 p0 p1 p2 p3 q0 q1 q2 q3 q4 q5 q6 q7 q8 q9 q10 HRA N1
          obtain ⟨p0, p1, p2, p3⟩ := (HL1.out.a.st.knows.at 2 rfl).four
          obtain ⟨d0, d1, d2, d3⟩ := (HL1.out.a.st.knows.at 2 rfl).thaw
          have z0 := (HL1.out.a.st.knows.at 2 rfl).lt
          obtain ⟨⟨q0, q1, q2, q3, q4, q5⟩, q6, q7, q8, q9, q10⟩ := whole_eleven (HL1.out.a.st.knows.at 0 rfl)
          obtain ⟨s0, s1, s2, s3⟩ := (HL1.out.a.st.knows.at 1 rfl).four
          have z1 := (HL1.out.a.st.knows.at 1 rfl).lt
          go_wp2_with fail
          replace HL1 := Lib.hid ((HL1.out.few (L' := [(w2.heap.size, 49, #[ptr g, .float .f64 x, .int .i64 (h), .int .i64 (T)]), (wr.heap.size, 61, #[.int .u32 vd, .int .u32 ad, .int .i64 asx, .bool ab, .int .u16 ae, .int .i64 ao, .int .u32 bd, .int .i64 bsx, .bool bb, .int .u16 be, .int .i64 bo]), (w3.heap.size, 49, #[ptr g', .float .f64 x', .int .i64 (h'), .int .i64 (T)])]) (by simp)).run4 hw2 HDA.out (by decide) (by decide) (b0 := ptr g) (b1 := .float .f64 x) (b2 := .int .i64 (h + vd - q)) (b3 := .int .i64 (T + vd)))
          refine (N2.out _ HL1.out.b.clk).mono ?_
          rintro r x2 ⟨c4, rfl, hbb, R2⟩
          replace HL1 := Lib.hid (HL1.out.turn2 hbb R2.clk)
          have HRB2 := Lib.hid (show Rb c4 (h' + vd - q') (T + vd) x' from ⟨R2.right, R2.rate, R2.wide⟩)
          clear hbb R2 p0 p1 p2 p3 d0 d1 d2 d3 z0 q0 q1 q2 q3 q4 q5 q6 q7 q8 q9 q10 s0 s1 s2 s3 z1 HRB N2
          obtain ⟨p0, p1, p2, p3⟩ := (HL1.out.a.st.knows.at 0 rfl).four
          obtain ⟨s0, s1, s2, s3⟩ := (HL1.out.a.st.knows.at 2 rfl).four
          obtain ⟨d0, d1, d2, d3⟩ := (HL1.out.a.st.knows.at 2 rfl).thaw
          have z0 := (HL1.out.a.st.knows.at 2 rfl).lt
          have z1 := (HL1.out.a.st.knows.at 0 rfl).lt
          obtain ⟨e1, e2, e3, e4, e5, R9, e6, e7⟩ := HRA2.out.right.now (by omega) (by omega) HRA2.out.wide
          have HRA3 := Lib.hid (show Rb (c2.now (h + vd - q)) (h + vd - q) (T + vd) x from ⟨R9, by rw [e7]; exact HRA2.out.rate, by rw [e6]; exact HRA2.out.wide⟩)
          have M1 := Lib.hid (fun w0 (k : Clk w0 g c2) => now_any g c2 HRA2.out.right.ok (h + vd - q) ⟨by omega, by omega⟩ w0 k)
          rw [e1, e4, e5] at M1
          clear e1 e4 e5 R9 e6 e7
          obtain ⟨e1, f2, f3, e4, e5, R9, e6, e7⟩ := HRB2.out.right.now (by omega) (by omega) HRB2.out.wide
          have HRB3 := Lib.hid (show Rb (c4.now (h' + vd - q')) (h' + vd - q') (T + vd) x' from ⟨R9, by rw [e7]; exact HRB2.out.rate, by rw [e6]; exact HRB2.out.wide⟩)
          have M2 := Lib.hid (fun w0 (k : Clk w0 g' c4) => now_any g' c4 HRB2.out.right.ok (h' + vd - q') ⟨by omega, by omega⟩ w0 k)
          rw [e1, e4, e5] at M2
          clear e1 e4 e5 R9 e6 e7 HRA2 HRB2
          generalize c2.now (h + vd - q) = k2 at *
          generalize c2.lo (h + vd - q) = LA at *
          generalize c2.hi (h + vd - q) = HA at *
          generalize c4.now (h' + vd - q') = k4 at *
          generalize c4.lo (h' + vd - q') = LB at *
          generalize c4.hi (h' + vd - q') = HB9 at *
          go_wp2_with fail
          replace HL1 := Lib.hid ((HL1.out.few (L' := [(w3.heap.size, 49, #[ptr g', .float .f64 x', .int .i64 (h'), .int .i64 (T)]), (wr.heap.size, 61, #[.int .u32 vd, .int .u32 ad, .int .i64 asx, .bool ab, .int .u16 ae, .int .i64 ao, .int .u32 bd, .int .i64 bsx, .bool bb, .int .u16 be, .int .i64 bo]), (w2.heap.size, 49, #[ptr g, .float .f64 x, .int .i64 (h + vd - q), .int .i64 (T + vd)])]) (by simp)).run4 hw3 HDB.out (by decide) (by decide) (b0 := ptr g') (b1 := .float .f64 x') (b2 := .int .i64 (h' + vd - q')) (b3 := .int .i64 (T + vd)))
          refine (M1.out _ HL1.out.a.clk).mono ?_
          rintro r x3 ⟨rfl, hbb, k⟩
          replace HL1 := Lib.hid ((HL1.out.turn1 hbb k).alloc x3.heap.size rfl 39 #[.int .i64 LA, .int .i64 HA])
          clear hbb k p0 p1 p2 p3 s0 s1 s2 s3 d0 d1 d2 d3 z0 z1
          obtain ⟨s0, s1, s2, s3⟩ := (HL1.out.a.st.knows.at 1 rfl).four
          go_wp2_with fail
          refine (M2.out _ HL1.out.b.clk).mono ?_
          rintro r x4 ⟨rfl, hbb, k⟩
          replace HL1 := Lib.hid ((HL1.out.turn2 hbb k).alloc x4.heap.size rfl 39 #[.int .i64 LB, .int .i64 HB9])
          clear hbb k s0 s1 s2 s3 M1 M2
          obtain ⟨s0, s1, s2, s3, s4⟩ := HL1.out.a.st.two 0 x4.heap.size rfl
          obtain ⟨t0, t1, t2, t3, t4⟩ := HL1.out.a.st.two 1 x3.heap.size rfl
          have key : (M < LA ∨ LA ≤ M) ∧ (O < LB ∨ LB ≤ O) := by omega
          rcases key with ⟨k1 | k1, k2' | k2'⟩
          all_goals
            go_wp2_with fail
            go_roundw
            case rel => exact ⟨n + 1, h + vd - q, h' + vd - q', T + vd, _, _, k2, k4, by omega, by omega, by go_num, rfl, rfl, rfl, rfl, by omega, by omega, by omega, by omega, HRA3.out, HRB3.out, HL1.out.few (fun r hr => by simp at hr; rcases hr with rfl | rfl <;> simp)⟩
            case measure => simp [intOf]; omega
        · have hend : ((n : Int) < (l.length : Int) ∧ n = 30) ∨ (¬ (n : Int) < (l.length : Int)) := by omega
          rcases hend with ⟨i1, rfl⟩ | i1
          all_goals
            go_wp2_with fail
            go_ret
            exact ⟨rfl, HL1.out.a.st.below⟩

set_option maxRecDepth 100000 in
theorem lifted (os : Os) (started : os.Started) (H : Type) (enc : TypeId × Value → H) :
    ReturnsInHanded {} Try.checked os 6 .any (Rows.clockBothSpec.pre6 enc Try.prog Try.f6 Rows.clockBothRow.domain false) (Rows.clockBothSpec.post enc Try.prog Try.f6 false true false false) := by
  refine returnsInHanded_of_change (C := Try.checked) own started (by kernel_rfl) Try.func6
    (ChangeSpec.witness6 (enc := enc) (C := Try.checked) false ⟨#[], #[.agg #[.float .f64 0, .float .f64 0], .int .i64 0, .slice none 0 0], []⟩ 8 (by kernel_rfl) (by kernel_rfl) (by kernel_rfl) (by kernel_rfl)) ?_
  intro W base args ds gs before hval0 hW hcnd _
  have hval : ∀ (j : Nat) t v, Try.f6.params[j]? = some t → args[j]? = some v → Value.okWide Try.prog W .any base t v := hval0
  have hW' := hW
  obtain ⟨p, q, hA0, hV, rfl, hfz, hnd⟩ := hW
  have hA : DataW.TrodAll enc Try.prog W 0 (fun _ => true) true Try.f6.params.toList args.toList ds p := hA0
  rw [Try.params6] at hA hval
  obtain ⟨v0, vs0, d0, ds0, p0, q0, hargs, rfl, rfl, h0, r0⟩ := trodAll_cons hA
  obtain ⟨v1, vs1, d1, ds1, p1, q1, rfl, rfl, rfl, h1, r1⟩ := trodAll_cons r0
  obtain ⟨v2, vs2, d2, ds2, p2, q2, rfl, rfl, rfl, h2, r2⟩ := trodAll_cons r1
  obtain ⟨rfl, rfl, rfl⟩ := trodAll_nil r2
  obtain rfl : args = #[v0, v1, v2] := by cases args; simp_all
  obtain ⟨rfl, rfl⟩ := trodVars_none hV
  obtain ⟨x0, y0, rfl, w0⟩ := open_two (hval 0 58 v0 rfl rfl) h0
  have lt0 : ∀ x ∈ p0, x.block < W.heap.size := by obtain ⟨m, hm⟩ := h0; exact DataW.trod_lt m _ _ _ hm
  obtain ⟨a1, rfl⟩ := okWide_int Try.underlying2 (hval 1 2 v1 rfl rfl)
  have w1 : -9223372036854775808 ≤ a1 ∧ a1 ≤ 9223372036854775807 := by
    obtain ⟨m, hm⟩ := h1
    obtain ⟨s, hs, _, hl⟩ := DataW.trod_int Try.underlying2 hm
    simp [Value.cells] at hs
    rw [hs]; have := bounds_i64 hl; omega
  have lt1 : ∀ x ∈ p1, x.block < W.heap.size := by obtain ⟨m, hm⟩ := h1; exact DataW.trod_lt m _ _ _ hm
  obtain ⟨A2, len2, cap2, rfl⟩ := okWide_slice Try.underlying59 (hval 2 59 v2 rfl rfl)
  obtain ⟨l2, w2⟩ := open_pairs h2
  have lt2 : ∀ x ∈ p2, x.block < W.heap.size := by obtain ⟨m, hm⟩ := h2; exact DataW.trod_lt m _ _ _ hm
  clear hA0 hval0
  simp only [List.append_nil] at hW'
  refine (walk x0 y0 w0 a1 w1 A2 len2 cap2 l2 W w2).mono fun e W' ⟨he, bel⟩ => ?_
  subst he
  exact ⟨_, rfl, _, _, _, [], _, [], hW', trodAll_mk1 (shut_bool Try.underlying4 _), (trodAll_cons_mk (Below.trod laidOut (by kernel_rfl) (of_decide_eq_true (by kernel_rfl)) h0 bel lt0) (trodAll_cons_mk (Below.trod laidOut (by kernel_rfl) (of_decide_eq_true (by kernel_rfl)) h1 bel lt1) (trodAll_cons_mk (Below.trod laidOut (by kernel_rfl) (of_decide_eq_true (by kernel_rfl)) h2 bel lt2) trodAll_mk0))), rfl, bel.frame _, fun h => by cases h⟩

theorem proved : Rows.ClockBothSaid :=
  OpenClaim.holds_of_wide 6 Try.f6 rfl rfl rfl rfl rfl rfl rfl ⟨rfl, rfl, rfl, rfl, rfl⟩ rfl rfl rfl rfl rfl (by kernel_rfl) Try.func6 (by kernel_rfl)
    (of_decide_eq_true (by kernel_rfl)) (by unfold Func.isWrapper; first | (rw [if_pos (by decide +kernel)]; kernel_rfl) | (rw [if_neg (by decide +kernel)]; exact ⟨rfl, rfl⟩))
    (fun os started H enc _ => lifted os started H enc)
#print axioms proved
end Go.Proofs.Ytpnojhcjaneleaa.clockBoth
