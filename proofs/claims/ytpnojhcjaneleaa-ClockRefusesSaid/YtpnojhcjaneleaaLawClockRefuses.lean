/- What a clock refuses changes nothing that is told later: moietylaw06.ClockRefuses answers true. For every float, list of calls and call; no conditions. -/
import Derived.Test.YtpnojhcjaneleaaClkO
namespace Go.Proofs.Ytpnojhcjaneleaa.clockRefuses
open Go.ChangeShapes Go.WideShapes Go.ChangeAt Go.RowKit Go.Sp Go.Fl Go.Ck
set_option linter.unusedVariables false
set_option linter.unusedSimpArgs false

/-- Where a law stands that has two clocks. -/
structure Tw (W w : World) (L : List Row) (g : Nat) (c : Ck) (g' : Nat) (c' : Ck) : Prop where
  a : Lw W w L g c
  b : Lw W w L g' c'
  ne : g ≠ g'
section
variable {W w w2 : World} {L : List Row} {g g' : Nat} {c c' k : Ck}
theorem Tw.call (h : Tw W w L g c g' c') (hb : Below w.heap.size w w2) : Tw W w2 L g c g' c' := ⟨h.a.call hb, h.b.call hb, h.ne⟩
theorem Tw.drewN (h : Tw W w L g c g' c') (n : Nat) : Tw W (w.drewN n) L g c g' c' := ⟨h.a.drewN n, h.b.drewN n, h.ne⟩
theorem Tw.alloc (h : Tw W w L g c g' c') (x : Nat) (hx : x = w.heap.size) (t : TypeId) (cs : Array Value) : Tw W (w.alloc (.cells cs t)) ((x, t, cs) :: L) g c g' c' := ⟨h.a.alloc x hx t cs, h.b.alloc x hx t cs, h.ne⟩
theorem Tw.few {L' : List Row} (h : Tw W w L g c g' c') (hl : ∀ r ∈ L', r ∈ L) : Tw W w L' g c g' c' := ⟨h.a.few hl, h.b.few hl, h.ne⟩
theorem Tw.turn1 (h : Tw W w L g c g' c') (hb : But g w w2) (hc : Clk w2 g k) : Tw W w2 L g k g' c' :=
  ⟨h.a.turn hb hc, ⟨(h.a.turn hb hc).st, h.b.clk.other h.a.clk (fun e => h.ne e.symm) hb, h.b.new, h.b.far⟩, h.ne⟩
theorem Tw.turn2 (h : Tw W w L g c g' c') (hb : But g' w w2) (hc : Clk w2 g' k) : Tw W w2 L g c g' k :=
  ⟨⟨(h.b.turn hb hc).st, h.a.clk.other h.b.clk h.ne hb, h.a.new, h.a.far⟩, h.b.turn hb hc, h.ne⟩
end

set_option maxRecDepth 100000 in
set_option maxHeartbeats 8000000 in
theorem walk (x : Nat) (hx : x < 18446744073709551616) (A : Option Addr) (len cap : Nat) (l : List Cl) (y : Cl) (hy : GC y) (w : World) (hL : IsR w A len cap 4 encC GC l) :
    Calls Try.prog 8 #[.float .f64 x, .slice A len cap, .agg #[.int .i64 y.k, .int .i64 y.h, .int .i64 y.t, .int .i64 y.e]] w fun r w' => r = .returned (.bool true) ∧ Below w.heap.size w w' := by
  obtain ⟨hlen, hs, hc1, hc2, hn, hg⟩ := hL
  subst hlen
  have HS := Lib.hid hs
  have HG := Lib.hid hg
  obtain ⟨y1, y2, y3, y4⟩ := hy
  have Y2 := Lib.hid y2
  have Y3 := Lib.hid y3
  have Y4 := Lib.hid y4
  clear hs hg hn y1 y2 y3 y4
  obtain ⟨yk, yh, yt, ye⟩ := y
  simp only at Y2 Y3 Y4 ⊢
  have H := Lib.hid ((St.start w).alloc w.heap.size rfl 34 #[.int .i64 yk, .int .i64 yh, .int .i64 yt, .int .i64 ye])
  cases hc : crated x with
  | false =>
    have HN := Lib.hid (fun w0 => new_no x hx hc w0)
    clear hx hc
    go_enter Try.func8, Try.ntmps8
    go_wp2_with fail
    refine (HN.out _).mono ?_
    rintro r w1 ⟨rfl, rfl⟩
    go_wp2_with fail
    refine (HN.out _).mono ?_
    rintro r w1 ⟨rfl, rfl⟩
    go_wp2_with fail
    refine (awake_any _).mono ?_
    rintro r w1 ⟨rfl, hb1⟩
    replace H := Lib.hid (H.out.call hb1)
    clear hb1
    go_wp2_with fail
    refine (awake_any _).mono ?_
    rintro r w2 ⟨rfl, hb1⟩
    replace H := Lib.hid (H.out.call hb1)
    clear hb1
    go_wp2_with fail
    go_ret
    exact ⟨rfl, H.out.below⟩
  | true =>
    have HX := Lib.hid (Ok.fresh hc)
    go_enter Try.func8, Try.ntmps8
    go_wp2_with fail
    refine (new_at x hc _ (w.heap.size + 1) (by simp)).mono ?_
    rintro r w1 ⟨rfl, hb1, k⟩
    replace H := Lib.hid (H.out.call hb1)
    have K := Lib.hid k
    clear hb1 k
    go_wp2_with fail
    refine (new_at x hc _ w1.heap.size rfl).mono ?_
    rintro r w2 ⟨rfl, hb1, k⟩
    have HL := Lib.hid (show Tw w w2 [(w.heap.size, 34, #[.int .i64 yk, .int .i64 yh, .int .i64 yt, .int .i64 ye])] (w.heap.size + 1) (fresh x) w1.heap.size (fresh x) from
      ⟨⟨H.out.call hb1, K.out.call hb1, by omega, fun r hr => by rw [List.mem_singleton.1 hr]; show w.heap.size ≠ w.heap.size + 1; omega⟩,
       ⟨H.out.call hb1, k, H.out.below.size, fun r hr => by have := (H.out.knows r hr).lt; omega⟩, by have := K.out.lt; omega⟩)
    clear hb1 k K H
    generalize w1.heap.size = gd at *
    generalize w.heap.size + 1 = gc at *
    go_wp2_with fail
    refine (awake_any _).mono ?_
    rintro r w3 ⟨rfl, hb1⟩
    replace HL := Lib.hid (HL.out.call hb1)
    clear hb1
    go_wp2_with fail
    go_loopw [11] (fun i wr => ∃ (n : Nat) (c : Ck), n ≤ l.length ∧ n ≤ 20 ∧ i = .int .i64 (n : Int) ∧ Ok c ∧ Tw w wr [(w.heap.size, 34, #[.int .i64 yk, .int .i64 yh, .int .i64 yt, .int .i64 ye])] gc c gd c) (fun i _ => l.length - (intOf i).toNat)
    case atStart => exact ⟨0, fresh x, by omega, by omega, rfl, HX.out, HL.out⟩
    case round =>
      obtain ⟨n, c, hn1, hn2, rfl, ho, hl⟩ := hrel
      have HL1 := Lib.hid hl
      have HO := Lib.hid ho
      clear hl ho HX HL
      by_cases hlt : n < l.length ∧ n < 20
      · obtain ⟨h1, h2⟩ := hlt
        obtain ⟨v, hv⟩ : ∃ v, l[n]? = some v := ⟨_, List.getElem?_eq_getElem h1⟩
        obtain ⟨g1, g2, g3, g4⟩ := HG.out v (List.mem_of_getElem? hv)
        have G2 := Lib.hid g2
        have G3 := Lib.hid g3
        have G4 := Lib.hid g4
        obtain ⟨b0, off, rfl, hb, hcc⟩ := (HS.out.below HL1.out.a.st.below).item encC_len (by omega) n v hv
        have q0 := hcc 0 _ rfl
        have q1 := hcc 1 _ rfl
        have q2 := hcc 2 _ rfl
        have q3 := hcc 3 _ rfl
        rw [Nat.add_zero] at q0
        clear hcc hv g1 g2 g3 g4
        obtain ⟨vk, vh, vt, ve⟩ := v
        simp only at q0 q1 q2 q3 G2 G3 G4
        have i1 : (n : Int) < (l.length : Int) := by omega
        have i2 : (n : Int) < 20 := by omega
        have kind : 1 < vk ∨ (vk ≤ 1 ∧ vk < 0) ∨ (vk ≤ 1 ∧ 0 ≤ vk) := by omega
        rcases kind with k1 | ⟨k1, k2⟩ | ⟨k1, k2⟩
        case' inl | inr.inl =>
          have N1 := Lib.hid (fun w0 g (k : Clk w0 g c) => set_any g c vh vt ve G2.out G3.out G4.out w0 k)
          have HO2 := Lib.hid (HO.out.set vh vt ve)
          generalize c.setE vh vt ve = E at *
          generalize c.set vh vt ve = c2 at *
          go_wp2_with fail
          replace HL1 := Lib.hid (HL1.out.alloc wr.heap.size rfl 34 #[.int .i64 vk, .int .i64 vh, .int .i64 vt, .int .i64 ve])
          refine (N1.out _ _ HL1.out.a.clk).mono ?_
          rintro r x1 ⟨rfl, hb1, k⟩
          replace HL1 := Lib.hid (HL1.out.turn1 hb1 k)
          clear hb1 k
          obtain ⟨p0, p1, p2, p3⟩ := (HL1.out.a.st.knows.at 0 rfl).four
          go_wp2_with fail
          refine (N1.out _ _ HL1.out.b.clk).mono ?_
          rintro r x2 ⟨rfl, hb1, k⟩
          replace HL1 := Lib.hid (HL1.out.turn2 hb1 k)
          clear hb1 k p0 p1 p2 p3
          go_wp2_with fail
          go_roundw
          case rel => exact ⟨n + 1, c2, by omega, by omega, by go_num, HO2.out, HL1.out.few (fun r hr => List.mem_cons_of_mem _ hr)⟩
          case measure => simp [intOf]; omega
        case' inr.inr =>
          have N1 := Lib.hid (fun w0 g (k : Clk w0 g c) => now_any g c HO.out vh G2.out w0 k)
          have HO2 := Lib.hid (HO.out.now vh)
          generalize c.nowE vh = E at *
          generalize c.nowL vh = L at *
          generalize c.nowH vh = M at *
          generalize c.now vh = c2 at *
          go_wp2_with fail
          replace HL1 := Lib.hid (HL1.out.alloc wr.heap.size rfl 34 #[.int .i64 vk, .int .i64 vh, .int .i64 vt, .int .i64 ve])
          refine (N1.out _ _ HL1.out.a.clk).mono ?_
          rintro r x1 ⟨rfl, hb1, k⟩
          replace HL1 := Lib.hid (HL1.out.turn1 hb1 k)
          clear hb1 k
          obtain ⟨p0, p1, p2, p3⟩ := (HL1.out.a.st.knows.at 0 rfl).four
          go_wp2_with fail
          refine (N1.out _ _ HL1.out.b.clk).mono ?_
          rintro r x2 ⟨rfl, hb1, k⟩
          replace HL1 := Lib.hid (HL1.out.turn2 hb1 k)
          clear hb1 k p0 p1 p2 p3
          go_wp2_with fail
          go_roundw
          case rel => exact ⟨n + 1, c2, by omega, by omega, by go_num, HO2.out, HL1.out.few (fun r hr => List.mem_cons_of_mem _ hr)⟩
          case measure => simp [intOf]; omega
      · have hend : ((n : Int) < (l.length : Int) ∧ n = 20) ∨ (¬ (n : Int) < (l.length : Int)) := by omega
        have tail : True := trivial
        obtain ⟨p0, p1, p2, p3⟩ := (HL1.out.a.st.knows.at 0 rfl).four
        by_cases kz : yk = 0
        · subst kz
          have N1 := Lib.hid (fun w0 g (k : Clk w0 g c) => now_any g c HO.out yh Y2.out w0 k)
          by_cases h0 : c.nowE yh = 0
          · rw [h0] at N1
            generalize c.nowL yh = L at *
            generalize c.nowH yh = M at *
            generalize c.now yh = c2 at *
            clear h0
            rcases hend with ⟨i1, rfl⟩ | i1
            all_goals
              go_wp2_with fail
              refine (N1.out _ _ HL1.out.a.clk).mono ?_
              rintro r x1 ⟨rfl, hb1, k⟩
              replace HL1 := Lib.hid ((HL1.out.turn1 hb1 k).alloc x1.heap.size rfl 39 #[.int .i64 L, .int .i64 M])
              clear hb1 k p0 p1 p2 p3
              go_wp2_with fail
              go_ret
              exact ⟨rfl, HL1.out.a.st.below⟩
          · have e2 : c.now yh = c := by unfold Ck.now; rw [if_neg h0]
            have q9 : (c.nowE yh != 0) = true := by simpa using h0
            have q8 : (c.nowE yh == 0) = false := by simpa using h0
            rw [e2] at N1
            clear h0 e2
            generalize c.nowE yh = E at *
            generalize c.nowL yh = L at *
            generalize c.nowH yh = M at *
            rcases hend with ⟨i1, rfl⟩ | i1
            all_goals
              go_wp2_with fail
              refine (N1.out _ _ HL1.out.a.clk).mono ?_
              rintro r x1 ⟨rfl, hb1, k⟩
              replace HL1 := Lib.hid ((HL1.out.turn1 hb1 k).alloc x1.heap.size rfl 39 #[.int .i64 L, .int .i64 M])
              clear hb1 k p0 p1 p2 p3 N1
              go_wp2_with fail
              clear i1
              go_loopw [15] (fun i wr => ∃ (m : Nat) (c : Ck), m ≤ l.length ∧ m ≤ 20 ∧ i = .int .i64 (m : Int) ∧ Ok c ∧ Tw w wr [] gc c gd c) (fun i _ => l.length - (intOf i).toNat)
              case atStart => exact ⟨0, c, by omega, by omega, rfl, HO.out, HL1.out.few (fun r hr => by cases hr)⟩
              case round =>
                obtain ⟨m, c, hm1, hm2, rfl, ho, hl⟩ := hrel
                have HL2 := Lib.hid hl
                have HO2 := Lib.hid ho
                clear hl ho HL1
                by_cases hlt : m < l.length ∧ m < 20
                · obtain ⟨h1, h2⟩ := hlt
                  obtain ⟨v, hv⟩ : ∃ v, l[m]? = some v := ⟨_, List.getElem?_eq_getElem h1⟩
                  obtain ⟨g1, g2, g3, g4⟩ := HG.out v (List.mem_of_getElem? hv)
                  have G2 := Lib.hid g2
                  obtain ⟨b0, off, rfl, hb, hcc⟩ := (HS.out.below HL2.out.a.st.below).item encC_len (by omega) m v hv
                  have q1 := hcc 1 _ rfl
                  clear hcc g1 g2 g3 g4
                  obtain ⟨vk, vh, vt, ve⟩ := v
                  simp only at q1 G2
                  have i1 : (m : Int) < (l.length : Int) := by omega
                  have i2 : (m : Int) < 20 := by omega
                  have N2 := Lib.hid (fun w0 g (k : Clk w0 g c) => now_any g c HO2.out vh G2.out w0 k)
                  have HO3 := Lib.hid (HO2.out.now vh)
                  generalize c.nowE vh = E2 at *
                  generalize c.nowL vh = L2 at *
                  generalize c.nowH vh = M2 at *
                  generalize c.now vh = c2 at *
                  go_wp2_with fail
                  refine (N2.out _ _ HL2.out.a.clk).mono ?_
                  rintro r z1 ⟨rfl, hb1, k⟩
                  replace HL2 := Lib.hid ((HL2.out.turn1 hb1 k).alloc z1.heap.size rfl 39 #[.int .i64 L2, .int .i64 M2])
                  clear hb1 k q1
                  obtain ⟨b0', off', hA, hb', hcc⟩ := (HS.out.below HL2.out.a.st.below).item encC_len (by omega) m _ hv
                  injection hA with hA
                  injection hA with hA1 hA2
                  subst hA1 hA2
                  have q1 := hcc 1 _ rfl
                  simp only at q1
                  clear hcc
                  go_wp2_with fail
                  refine (N2.out _ _ HL2.out.b.clk).mono ?_
                  rintro r z2 ⟨rfl, hb1, k⟩
                  replace HL2 := Lib.hid ((HL2.out.turn2 hb1 k).alloc z2.heap.size rfl 39 #[.int .i64 L2, .int .i64 M2])
                  clear hb1 k q1
                  obtain ⟨s0, s1, s2, s3, s4⟩ := HL2.out.a.st.two 0 z2.heap.size rfl
                  obtain ⟨t0, t1, t2, t3, t4⟩ := HL2.out.a.st.two 1 z1.heap.size rfl
                  go_wp2_with fail
                  go_roundw
                  case rel => exact ⟨m + 1, c2, by omega, by omega, by go_num, HO3.out, HL2.out.few (fun r hr => by cases hr)⟩
                  case measure => simp [intOf]; omega
                · have hend : ((m : Int) < (l.length : Int) ∧ m = 20) ∨ (¬ (m : Int) < (l.length : Int)) := by omega
                  rcases hend with ⟨i1, rfl⟩ | i1
                  · go_wp2_with fail
                    go_ret
                    exact ⟨rfl, HL2.out.a.st.below⟩
                  · go_wp2_with fail
                    go_ret
                    exact ⟨rfl, HL2.out.a.st.below⟩
        · have kz1 : (yk == 0) = false := by simpa using kz
          have N1 := Lib.hid (fun w0 g (k : Clk w0 g c) => set_any g c yh yt ye Y2.out Y3.out Y4.out w0 k)
          by_cases h0 : c.setE yh yt ye = 0
          · rw [h0] at N1
            generalize c.set yh yt ye = c2 at *
            clear h0
            rcases hend with ⟨i1, rfl⟩ | i1
            all_goals
              go_wp2_with fail
              refine (N1.out _ _ HL1.out.a.clk).mono ?_
              rintro r x1 ⟨rfl, hb1, k⟩
              replace HL1 := Lib.hid (HL1.out.turn1 hb1 k)
              clear hb1 k p0 p1 p2 p3
              go_wp2_with fail
              go_ret
              exact ⟨rfl, HL1.out.a.st.below⟩
          · have e2 : c.set yh yt ye = c := by unfold Ck.set; rw [if_neg h0]
            have q9 : (c.setE yh yt ye != 0) = true := by simpa using h0
            have q8 : (c.setE yh yt ye == 0) = false := by simpa using h0
            rw [e2] at N1
            clear h0 e2
            generalize c.setE yh yt ye = E at *
            rcases hend with ⟨i1, rfl⟩ | i1
            all_goals
              go_wp2_with fail
              refine (N1.out _ _ HL1.out.a.clk).mono ?_
              rintro r x1 ⟨rfl, hb1, k⟩
              replace HL1 := Lib.hid (HL1.out.turn1 hb1 k)
              clear hb1 k p0 p1 p2 p3 N1
              go_wp2_with fail
              clear i1
              go_loopw [15] (fun i wr => ∃ (m : Nat) (c : Ck), m ≤ l.length ∧ m ≤ 20 ∧ i = .int .i64 (m : Int) ∧ Ok c ∧ Tw w wr [] gc c gd c) (fun i _ => l.length - (intOf i).toNat)
              case atStart => exact ⟨0, c, by omega, by omega, rfl, HO.out, HL1.out.few (fun r hr => by cases hr)⟩
              case round =>
                obtain ⟨m, c, hm1, hm2, rfl, ho, hl⟩ := hrel
                have HL2 := Lib.hid hl
                have HO2 := Lib.hid ho
                clear hl ho HL1
                by_cases hlt : m < l.length ∧ m < 20
                · obtain ⟨h1, h2⟩ := hlt
                  obtain ⟨v, hv⟩ : ∃ v, l[m]? = some v := ⟨_, List.getElem?_eq_getElem h1⟩
                  obtain ⟨g1, g2, g3, g4⟩ := HG.out v (List.mem_of_getElem? hv)
                  have G2 := Lib.hid g2
                  obtain ⟨b0, off, rfl, hb, hcc⟩ := (HS.out.below HL2.out.a.st.below).item encC_len (by omega) m v hv
                  have q1 := hcc 1 _ rfl
                  clear hcc g1 g2 g3 g4
                  obtain ⟨vk, vh, vt, ve⟩ := v
                  simp only at q1 G2
                  have i1 : (m : Int) < (l.length : Int) := by omega
                  have i2 : (m : Int) < 20 := by omega
                  have N2 := Lib.hid (fun w0 g (k : Clk w0 g c) => now_any g c HO2.out vh G2.out w0 k)
                  have HO3 := Lib.hid (HO2.out.now vh)
                  generalize c.nowE vh = E2 at *
                  generalize c.nowL vh = L2 at *
                  generalize c.nowH vh = M2 at *
                  generalize c.now vh = c2 at *
                  go_wp2_with fail
                  refine (N2.out _ _ HL2.out.a.clk).mono ?_
                  rintro r z1 ⟨rfl, hb1, k⟩
                  replace HL2 := Lib.hid ((HL2.out.turn1 hb1 k).alloc z1.heap.size rfl 39 #[.int .i64 L2, .int .i64 M2])
                  clear hb1 k q1
                  obtain ⟨b0', off', hA, hb', hcc⟩ := (HS.out.below HL2.out.a.st.below).item encC_len (by omega) m _ hv
                  injection hA with hA
                  injection hA with hA1 hA2
                  subst hA1 hA2
                  have q1 := hcc 1 _ rfl
                  simp only at q1
                  clear hcc
                  go_wp2_with fail
                  refine (N2.out _ _ HL2.out.b.clk).mono ?_
                  rintro r z2 ⟨rfl, hb1, k⟩
                  replace HL2 := Lib.hid ((HL2.out.turn2 hb1 k).alloc z2.heap.size rfl 39 #[.int .i64 L2, .int .i64 M2])
                  clear hb1 k q1
                  obtain ⟨s0, s1, s2, s3, s4⟩ := HL2.out.a.st.two 0 z2.heap.size rfl
                  obtain ⟨t0, t1, t2, t3, t4⟩ := HL2.out.a.st.two 1 z1.heap.size rfl
                  go_wp2_with fail
                  go_roundw
                  case rel => exact ⟨m + 1, c2, by omega, by omega, by go_num, HO3.out, HL2.out.few (fun r hr => by cases hr)⟩
                  case measure => simp [intOf]; omega
                · have hend : ((m : Int) < (l.length : Int) ∧ m = 20) ∨ (¬ (m : Int) < (l.length : Int)) := by omega
                  rcases hend with ⟨i1, rfl⟩ | i1
                  · go_wp2_with fail
                    go_ret
                    exact ⟨rfl, HL2.out.a.st.below⟩
                  · go_wp2_with fail
                    go_ret
                    exact ⟨rfl, HL2.out.a.st.below⟩

set_option maxRecDepth 100000 in
theorem lifted (os : Os) (started : os.Started) (H : Type) (enc : TypeId × Value → H) :
    ReturnsInHanded {} Try.checked os 8 .any (Rows.clockRefusesSpec.pre6 enc Try.prog Try.f8 Rows.clockRefusesRow.domain false) (Rows.clockRefusesSpec.post enc Try.prog Try.f8 false true false false) := by
  refine returnsInHanded_of_change (C := Try.checked) own started (by kernel_rfl) Try.func8
    (ChangeSpec.witness6 (enc := enc) (C := Try.checked) false ⟨#[], #[.float .f64 0, .slice none 0 0, .agg #[.int .i64 0, .int .i64 0, .int .i64 0, .int .i64 0]], []⟩ 8 (by kernel_rfl) (by kernel_rfl) (by kernel_rfl) (by kernel_rfl)) ?_
  intro W base args ds gs before hval0 hW hcnd _
  have hval : ∀ (j : Nat) t v, Try.f8.params[j]? = some t → args[j]? = some v → Value.okWide Try.prog W .any base t v := hval0
  have hW' := hW
  obtain ⟨p, q, hA0, hV, rfl, hfz, hnd⟩ := hW
  have hA : DataW.TrodAll enc Try.prog W 0 (fun _ => true) true Try.f8.params.toList args.toList ds p := hA0
  rw [Try.params8] at hA hval
  obtain ⟨v0, vs0, d0, ds0, p0, q0, hargs, rfl, rfl, h0, r0⟩ := trodAll_cons hA
  obtain ⟨v1, vs1, d1, ds1, p1, q1, rfl, rfl, rfl, h1, r1⟩ := trodAll_cons r0
  obtain ⟨v2, vs2, d2, ds2, p2, q2, rfl, rfl, rfl, h2, r2⟩ := trodAll_cons r1
  obtain ⟨rfl, rfl, rfl⟩ := trodAll_nil r2
  obtain rfl : args = #[v0, v1, v2] := by cases args; simp_all
  obtain ⟨rfl, rfl⟩ := trodVars_none hV
  obtain ⟨a0, rfl⟩ := okWide_float Try.underlying22 (hval 0 22 v0 rfl rfl)
  have w0 : a0 < 18446744073709551616 := by
    obtain ⟨m, hm⟩ := h0
    obtain ⟨s, hs, hl⟩ := float_of (k := .f64) Try.underlying22 hm
    simp [Value.cells] at hs
    rw [hs]; simpa [Lit.wf] using hl
  have lt0 : ∀ x ∈ p0, x.block < W.heap.size := by obtain ⟨m, hm⟩ := h0; exact DataW.trod_lt m _ _ _ hm
  obtain ⟨A1, len1, cap1, rfl⟩ := okWide_slice Try.underlying23 (hval 1 23 v1 rfl rfl)
  obtain ⟨l1, w1⟩ := open_calls h1
  have lt1 : ∀ x ∈ p1, x.block < W.heap.size := by obtain ⟨m, hm⟩ := h1; exact DataW.trod_lt m _ _ _ hm
  obtain ⟨x2, rfl, w2⟩ := open_call (hval 2 34 v2 rfl rfl) h2
  have lt2 : ∀ x ∈ p2, x.block < W.heap.size := by obtain ⟨m, hm⟩ := h2; exact DataW.trod_lt m _ _ _ hm
  clear hA0 hval0
  simp only [List.append_nil] at hW'
  refine (walk a0 w0 A1 len1 cap1 l1 x2 w2 W w1).mono fun e W' ⟨he, bel⟩ => ?_
  subst he
  exact ⟨_, rfl, _, _, _, [], _, [], hW', trodAll_mk1 (shut_bool Try.underlying4 _), (trodAll_cons_mk (Below.trod laidOut (by kernel_rfl) (of_decide_eq_true (by kernel_rfl)) h0 bel lt0) (trodAll_cons_mk (Below.trod laidOut (by kernel_rfl) (of_decide_eq_true (by kernel_rfl)) h1 bel lt1) (trodAll_cons_mk (Below.trod laidOut (by kernel_rfl) (of_decide_eq_true (by kernel_rfl)) h2 bel lt2) trodAll_mk0))), rfl, bel.frame _, fun h => by cases h⟩

theorem proved : Rows.ClockRefusesSaid :=
  OpenClaim.holds_of_wide 8 Try.f8 rfl rfl rfl rfl rfl rfl rfl ⟨rfl, rfl, rfl, rfl, rfl⟩ rfl rfl rfl rfl rfl (by kernel_rfl) Try.func8 (by kernel_rfl)
    (of_decide_eq_true (by kernel_rfl)) (by unfold Func.isWrapper; first | (rw [if_pos (by decide +kernel)]; kernel_rfl) | (rw [if_neg (by decide +kernel)]; exact ⟨rfl, rfl⟩))
    (fun os started H enc _ => lifted os started H enc)
#print axioms proved
end Go.Proofs.Ytpnojhcjaneleaa.clockRefuses
