/- What is given when a stamp is past by a right clock is above it, by whatever source and right clock, and each stamp is above the true time; for every input, without conditions (of more turns the first 40). -/
import Derived.Test.YtjpalcolhagpcaaStmpT
namespace Go.Proofs.Ytjpalcolhagpcaa.stampBehind
open Go.ChangeShapes Go.WideShapes Go.ChangeAt Go.RowKit Go.Sp Go.Fl Go.Ck Go.Tp
set_option linter.unusedVariables false
set_option linter.unusedSimpArgs false

set_option maxHeartbeats 64000000 in
set_option maxRecDepth 100000 in
theorem walk (t : Int) (ht : -9223372036854775808 ≤ t ∧ t ≤ 9223372036854775807) (e : Int) (he : 0 ≤ e ∧ e ≤ 255) (A : Option Addr) (len cap : Nat) (l : List Tu) (w : World) (hL : IsR w A len cap 5 encT GT l) :
    Calls Try.prog 6 #[.int .i64 t, .int .u8 e, .slice A len cap] w fun r w' => r = .returned (.bool true) ∧ Below w.heap.size w w' := by
  obtain ⟨hlen, hs, hc1, hc2, hnil, hg⟩ := hL
  subst hlen
  have HS := Lib.hid hs
  have HG := Lib.hid hg
  have HC := Lib.hid (fun w0 => rcrated_any 4575657221408423936 (by omega) w0)
  rw [rate_ok] at HC
  clear hs hg hnil ht
  go_enter Try.func6, Try.ntmps6
  go_wp2_with fail
  refine (new_at _ rate_ok _ w.heap.size rfl).mono ?_
  rintro r w1 ⟨rfl, hb1, k1⟩
  have HA : Hid (Lw w w1 [] w.heap.size (fresh 4575657221408423936)) := Lib.hid ⟨(St.start w).call hb1, k1, Nat.le_refl _, fun r hr => by cases hr⟩
  have hs1 := k1.lt
  clear hb1 k1
  go_wp2_with fail
  refine (new_at _ rate_ok _ w1.heap.size rfl).mono ?_
  rintro r w2 ⟨rfl, hb1, k1⟩
  replace HA := Lib.hid (HA.out.call hb1)
  have HB := Lib.hid k1
  have hs2 := k1.lt
  clear hb1 k1
  go_wp2_with fail
  refine (snew_at _ w2.heap.size rfl).mono ?_
  rintro r w3 ⟨rfl, hb1, k1⟩
  replace HA := Lib.hid (HA.out.call hb1)
  replace HB := Lib.hid (HB.out.call hb1)
  have HX := Lib.hid k1
  have hs3 := k1.lt
  clear hb1 k1
  go_wp2_with fail
  refine (snew_at _ w3.heap.size rfl).mono ?_
  rintro r w4 ⟨rfl, hb1, k1⟩
  replace HA := Lib.hid (HA.out.call hb1)
  replace HB := Lib.hid (HB.out.call hb1)
  replace HX := Lib.hid (Whole.below HX.out hb1 HX.out.lt)
  have HY := Lib.hid k1
  clear hb1 k1
  go_wp2_with fail
  refine (sawake_any _).mono ?_
  rintro r w5 ⟨rfl, hb1⟩
  replace HA := Lib.hid (HA.out.call hb1)
  replace HB := Lib.hid (HB.out.call hb1)
  replace HX := Lib.hid (Whole.below HX.out hb1 HX.out.lt)
  replace HY := Lib.hid (Whole.below HY.out hb1 HY.out.lt)
  clear hb1
  go_wp2_with fail
  refine (HC.out _).mono ?_
  rintro r w6 ⟨rfl, e6⟩
  subst w6
  have hwl1 := HA.out.st.below.size
  go_wp2_with fail
  have h40 := and40 t
  generalize bits BinOp.and IntKind.i64 t 1099511627775 = T0 at *
  obtain ⟨ea, ra⟩ := Rx.begun T0 T0 e (by omega) (by omega) he (by omega) (by omega)
  obtain ⟨eb, rb⟩ := Rx.begun T0 (T0 + e) e (by omega) (by omega) he (by omega) (by omega)
  have HRA := Lib.hid ra
  have HRB := Lib.hid rb
  clear ra rb
  refine (set_any w.heap.size _ 0 T0 e (sr64 _ (by omega)) (sr64 _ (by omega)) (sr64 _ (by omega)) _ HA.out.clk).mono ?_
  rintro r w7 ⟨rfl, hb1, k1⟩
  rw [ea]
  have hne1 : w1.heap.size ≠ w.heap.size := by omega
  replace HB := Lib.hid (HB.out.other HA.out.clk hne1 hb1)
  replace HX := Lib.hid (hb1.whole HX.out (HA.out.clk.apart HX.out (by decide)))
  replace HY := Lib.hid (hb1.whole HY.out (HA.out.clk.apart HY.out (by decide)))
  replace HA := Lib.hid (HA.out.turn hb1 k1)
  have hsz7 := hb1.size
  clear hb1 k1 ea
  go_wp2_with fail
  refine (set_any w1.heap.size _ 0 (T0 + e) e (sr64 _ (by omega)) (sr64 _ (by omega)) (sr64 _ (by omega)) _ HB.out).mono ?_
  rintro r w8 ⟨rfl, hb1, k1⟩
  rw [eb]
  replace HX := Lib.hid (hb1.whole HX.out (HB.out.apart HX.out (by decide)))
  replace HY := Lib.hid (hb1.whole HY.out (HB.out.apart HY.out (by decide)))
  have HST := Lib.hid (HA.out.st.away hb1 (by omega) (fun r hr => by cases hr))
  have HA2 := Lib.hid (HA.out.clk.other HB.out (fun e => hne1 e.symm) hb1)
  replace HB := Lib.hid k1
  have hsz8 := hb1.size
  clear hb1 k1 eb HA
  generalize (fresh 4575657221408423936).set 0 T0 e = ca at *
  generalize (fresh 4575657221408423936).set 0 (T0 + e) e = cb at *
  have H := Lib.hid (show Bh w (w8.alloc (.cells (Array.replicate 40 (.int .i64 0)) 51)) [] w.heap.size w1.heap.size w2.heap.size w3.heap.size w8.heap.size ca cb 0 0 (Array.replicate 40 (.int .i64 0)) from
    ⟨HST.out.other _, HA2.out.alloc _, HB.out.alloc _, Whole.alloc HX.out _, Whole.alloc HY.out _, Whole.fresh _ _ _, ⟨Nat.le_refl _, by omega, by omega, by omega, HST.out.below.size⟩, ⟨fun e => hne1 e.symm, by omega⟩, fun r hr => by cases hr⟩)
  clear HST HA2 HB HX HY
  have hb2 : w.heap.size ≤ w8.heap.size := by omega
  clear hs1 hs2 hs3 hsz7 hsz8 hne1
  go_wp2_with fail
  go_loopw [0, 13, 14, 15, 17, 18] (fun tv hv kv pv mv iv wr => ∃ (n many : Nat) (T h k P nx ny : Int) (ca cb : Ck) (G : Array Value), n ≤ l.length ∧ n ≤ 40 ∧ many ≤ n ∧ iv = .int .i64 (n : Int) ∧ mv = .int .i64 (many : Int) ∧ tv = .int .i64 T ∧ hv = .int .i64 h ∧ kv = .int .i64 k ∧ pv = .int .i64 P ∧
    (0 ≤ T ∧ T ≤ 1099511627775 + 65535 * n) ∧ (0 ≤ h ∧ h ≤ 131070 * n) ∧ (0 ≤ k ∧ k ≤ 131070 * n) ∧ (0 ≤ P ∧ P ≤ T) ∧ (0 ≤ nx ∧ nx ≤ 2199023255552 + n) ∧ (0 ≤ ny ∧ ny ≤ 2199023255552 + n) ∧ Rx ca h T ∧ Rx cb k T ∧ Gv G many ∧
    Bh w wr [] w.heap.size w1.heap.size w2.heap.size w3.heap.size w8.heap.size ca cb nx ny G) (fun _ _ _ _ _ i _ => l.length - (intOf i).toNat)
  case atStart => exact ⟨0, 0, T0, 0, 0, 0, 0, 0, ca, cb, _, by omega, by omega, by omega, rfl, rfl, rfl, rfl, rfl, rfl, by omega, by omega, by omega, by omega, by omega, by omega, HRA.out, HRB.out, Gv.start, H.out⟩
  case round =>
    obtain ⟨n, many, T, h, k, P, nx, ny, ca, cb, G, hn1, hn2, hmn, rfl, rfl, rfl, rfl, rfl, rfl, hT, hh, hk, hP, hnx, hny, ra, rb, gv, hl⟩ := hrel
    have HL := Lib.hid hl
    have HGV := Lib.hid gv
    have HRA := Lib.hid ra
    have HRB := Lib.hid rb
    clear hl gv ra rb H
    by_cases hlt : n < l.length ∧ n < 40
    · obtain ⟨h1, h2⟩ := hlt
      obtain ⟨v, hv⟩ : ∃ v, l[n]? = some v := ⟨_, List.getElem?_eq_getElem h1⟩
      have gv := HG.out v (List.mem_of_getElem? hv)
      obtain ⟨b0, off, rfl, hb, hcc⟩ := HS.out.item encT_len (by omega) n v hv
      obtain ⟨d, va, vb, who, wait⟩ := v
      obtain ⟨gd, ga, gb⟩ := gv
      simp only at gd ga gb
      have q0 := hcc 0 _ rfl
      have q1 := hcc 1 _ rfl
      have q2 := hcc 2 _ rfl
      have q3 := hcc 3 _ rfl
      have q4 := hcc 4 _ rfl
      rw [Nat.add_zero] at q0
      simp only at q0 q1 q2 q3 q4
      have HQ3 := Lib.hid q3
      have HQ4 := Lib.hid q4
      clear q3 q4
      replace q0 := (HL.out.st.below.cell (p := ⟨b0, off + n * 5, none⟩) hb).trans q0
      replace q1 := (HL.out.st.below.cell (p := ⟨b0, off + n * 5 + 1, none⟩) hb).trans q1
      replace q2 := (HL.out.st.below.cell (p := ⟨b0, off + n * 5 + 2, none⟩) hb).trans q2
      have i1 : (n : Int) < (l.length : Int) := by omega
      have i2 : (n : Int) < 40 := by omega
      have i3 : (n : Int) ≤ 39 := by omega
      have m1 : (many : Int) ≤ 39 := by omega
      have hwr := HL.out.st.below.size
      have BA := Lib.hid (fun w0 => brought_any va (d / 256) (by omega) w0)
      have BB := Lib.hid (fun w0 => brought_any vb (d / 256) (by omega) w0)
      have ba := bro_range va (d / 256) (by omega)
      have bb := bro_range vb (d / 256) (by omega)
      generalize bro va (d / 256) = qa at *
      generalize bro vb (d / 256) = qb at *
      obtain ⟨ea, LA, UA, ea2, ea3, a1, a2, a3, a4, a5, a6, ra⟩ := (HRA.out.goes d qa (by omega) ba).asked (by omega) (by omega)
      obtain ⟨eb, LB, UB, eb2, eb3, b1, b2, b3, b4, b5, b6, rb⟩ := (HRB.out.goes d qb (by omega) bb).asked (by omega) (by omega)
      have NA := Lib.hid (fun w0 (k0 : Clk w0 w.heap.size ca) => now_any w.heap.size ca HRA.out.right.ok (h + (d - qa)) ⟨by omega, by omega⟩ w0 k0)
      have NB := Lib.hid (fun w0 (k0 : Clk w0 w1.heap.size cb) => now_any w1.heap.size cb HRB.out.right.ok (k + (d - qb)) ⟨by omega, by omega⟩ w0 k0)
      rw [ea, ea2, ea3] at NA
      rw [eb, eb2, eb3] at NB
      have HRA2 := Lib.hid ra
      have HRB2 := Lib.hid rb
      clear ra rb ea ea2 ea3 eb eb2 eb3 HRA HRB hcc hv
      generalize ca.now (h + (d - qa)) = ca2 at *
      generalize cb.now (k + (d - qb)) = cb2 at *
      go_wp2_with fail
      refine (BA.out _).mono ?_
      rintro r x1 ⟨rfl, e1⟩
      subst x1
      go_wp2_with fail
      refine (BB.out _).mono ?_
      rintro r x1 ⟨rfl, e1⟩
      subst x1
      go_wp2_with fail
      refine (NA.out _ HL.out.ca).mono ?_
      rintro r x3 ⟨rfl, hbb, kk⟩
      have hx3 : wr.heap.size ≤ x3.heap.size := hbb.size
      replace HL := Lib.hid ((HL.out.turnA hbb kk).alloc x3.heap.size rfl 28 #[.int .i64 LA, .int .i64 UA])
      clear hbb kk NA
      go_wp2_with fail
      refine (NB.out _ HL.out.cb).mono ?_
      rintro r x4 ⟨rfl, hbb, kk⟩
      have hx4 : x3.heap.size + 1 ≤ x4.heap.size := by have := hbb.size; simpa using this
      replace HL := Lib.hid (HL.out.turnB hbb kk)
      clear hbb kk NB BA BB q0 q1 q2
      obtain ⟨t0, t1, t2, t3, t4⟩ := HL.out.st.two 0 x3.heap.size rfl
      replace HL := Lib.hid (HL.out.alloc x4.heap.size rfl 28 #[.int .i64 LB, .int .i64 UB])
      go_wp2_with fail
      go_region
      have HB5 : Hid (Bh w (((x4.alloc (.cells #[.int .i64 LB, .int .i64 UB] 28)).alloc (.cells #[.int .i64 LA, .int .i64 UA] 28)).drew) [(x4.heap.size + 1, 28, #[.int .i64 LA, .int .i64 UA]), (x4.heap.size, 28, #[.int .i64 LB, .int .i64 UB]), (x3.heap.size, 28, #[.int .i64 LA, .int .i64 UA])] w.heap.size w1.heap.size w2.heap.size w3.heap.size w8.heap.size ca2 cb2 nx ny G) :=
        Lib.hid ((HL.out.alloc (x4.heap.size + 1) (by simp) 28 #[.int .i64 LA, .int .i64 UA]).drewN 1)
      clear HL t0 t1 t2 t3 t4
      have hx5 := HB5.out.st.below.size
      generalize ((x4.alloc (.cells #[.int .i64 LB, .int .i64 UB] 28)).alloc (.cells #[.int .i64 LA, .int .i64 UA] 28)).drew = y5 at *
      have HL := Lib.hid HB5.out
      clear HB5
      have q3 := (HL.out.st.below.cell (p := ⟨b0, off + n * 5 + 3, none⟩) hb).trans HQ3.out
      have q4 := (HL.out.st.below.cell (p := ⟨b0, off + n * 5 + 4, none⟩) hb).trans HQ4.out
      have hws4 : w.heap.size ≤ x4.heap.size := by omega
      cases who with
      | false =>
        obtain ⟨t0, t1, t2, t3, t4⟩ := HL.out.st.two 0 (x4.heap.size + 1) rfl
        have HNX := Lib.hid (fun w0 (h0 : Src w0 w2.heap.size nx) => next_any w2.heap.size nx LA UA (by omega) (sr64 _ (by omega)) (sr64 _ (by omega)) none 0 [] w0 h0 (Rw.none _))
        have key : ∃ V : Int, nextE nx LA UA [] = 0 ∧ nextV nx LA UA [] = V ∧ nextN nx LA UA [] = V ∧ (T + d < V) ∧ V ≤ 2199023255552 + (n + 1) ∧ isK V = true := by
          have hrc : reach nx UA [] = mx nx UA := rfl
          have hmx := mx_cases nx UA
          have hiss := (isS_iff _ _).1 a6
          rcases next_cases nx LA UA [] with ⟨e1, e2, e3, e4, e5⟩ | ⟨e1, e2, e3, e4, e5⟩ | ⟨e1, e3, e4, e5⟩
          · exact ⟨mx nx UA + 1, e3, by rw [e4, hrc], by rw [e5, hrc], by omega, by omega, (isK_iff _).2 (by omega)⟩
          · rw [hrc] at e2; omega
          · rw [a6] at e1; cases e1
        obtain ⟨V, v1, v2, v3, v4, v5, v6⟩ := key
        rw [v1, v2, v3] at HNX
        have HV6 := Lib.hid v6
        clear v1 v2 v3 v6
        cases wait with
        | false =>
          have hvp : P < V := by omega
          go_wp2_with fail
          refine (HNX.out _ HL.out.sx).mono ?_
          rintro r x6 ⟨rfl, hbb, kk⟩
          replace HL := Lib.hid (HL.out.turnX hbb kk)
          clear hbb kk HNX t0 t1 t2 t3 t4 q3 q4
          obtain ⟨u9, hu9⟩ := HGV.out.ints many (by omega)
          have c9 := (HL.out.gv.cell many).trans hu9
          have f9 := HL.out.gv.free many
          have z9 := HL.out.gv.lt
          clear hu9
          go_wp2_with fail
          go_roundw
          case rel => exact ⟨n + 1, many + 1, T + d, h + (d - qa), k + (d - qb), P, _, _, ca2, cb2, _, by omega, by omega, by omega, by go_num, by go_num, rfl, rfl, rfl, rfl, by omega, by omega, by omega, by omega, by omega, by omega, HRA2.out, HRB2.out, HGV.out.more (by omega) V HV6.out, (HL.out.setG many (.int .i64 V)).few (fun r hr => by cases hr)⟩
          case measure => simp [intOf]; omega
        | true =>
          clear HNX HV6 v4 v5
          clear V
          have hiss := (isS_iff _ _).1 a6
          have HW := Lib.hid (fun w0 (v : Int) => wait_any v LA UA (sr64 _ (by omega)) (sr64 _ (by omega)) w0)
          replace HL := Lib.hid (HL.out.few (L' := [(x4.heap.size + 1, 28, #[.int .i64 LA, .int .i64 UA])]) (by simp))
          go_wp2_with fail
          go_loopw [15, 28] (fun pv qv wx => ∃ (q : Nat) (P2 : Int), q ≤ many ∧ qv = .int .i64 (q : Int) ∧ pv = .int .i64 P2 ∧ (0 ≤ P2 ∧ P2 ≤ T + d) ∧ Bh w wx [(x4.heap.size + 1, 28, #[.int .i64 LA, .int .i64 UA])] w.heap.size w1.heap.size w2.heap.size w3.heap.size w8.heap.size ca2 cb2 nx ny G) (fun _ i _ => many - (intOf i).toNat)
          case atStart => exact ⟨0, P, by omega, rfl, rfl, by omega, HL.out⟩
          case round =>
            obtain ⟨q, P2, hq, rfl, rfl, hP2, hl⟩ := hrel
            have HLL := Lib.hid hl
            clear hl HL t0 t1 t2 t3 t4 q3 q4
            by_cases hqm : q < many
            · obtain ⟨v, hgv, hvk⟩ := HGV.out.good q hqm
              have HGQ := Lib.hid hgv
              have hvr := (isK_iff _).1 hvk
              have HWV := Lib.hid (fun w0 => HW.out w0 v)
              have kw : waitE v LA UA = 0 ∧ ((v < LA ∧ waitV v LA UA = 0) ∨ (LA ≤ v ∧ waitV v LA UA = v - LA + 1)) := by
                rcases wait_cases v LA UA with ⟨e1, e2, e3, e4⟩ | ⟨e1, e2, e3, e4⟩ | ⟨e1, e3, e4⟩
                · exact ⟨e3, e4⟩
                · rw [a6] at e2; cases e2
                · rw [hvk] at e1; cases e1
              obtain ⟨kw1, kw2⟩ := kw
              rw [kw1] at HWV
              generalize waitV v LA UA = WV at *
              have j1 : (q : Int) < (many : Int) := by omega
              have j2 : (q : Int) ≤ 38 := by omega
              have j3 : (q : Int) < 40 := by omega
              clear hgv hvk kw1
              obtain ⟨C, hC, HCc, HCf⟩ := HLL.out.class
              clear HLL
              go_wp2_with fail
              refine region_in C hC (by kernel_rfl) (by kernel_rfl) ?_
              iterate 10
                (refine WQ.step (fun K hK => ?_)
                 go_simp
                 first
                   | (refine hK _ ?_; clear hK K)
                   | (apply Exists.intro
                      refine ⟨fun x hx => ?_, hK _ ?_⟩
                      · first
                          | rfl
                          | (go_at_call 16; refine (HWV.out _).mono ?_; rintro e x1 ⟨rfl, hb⟩; exact ⟨rfl, HCc.out _ _ hx hb⟩)
                          | (have HX := HCf.out _ hx
                             obtain ⟨t0, t1, t2, t3, t4⟩ := HX.st.two 0 (x4.heap.size + 1) rfl
                             have c9 := (HX.gv.cell q).trans HGQ.out
                             have z9 := HX.gv.lt
                             clear HX
                             go_simp
                             rfl)
                      clear hK K))
              refine WQ.nil ?_
              intro x6 hw
              have HM := Lib.hid (HCf.out _ hw)
              clear hw hC HCc HCf C 
              have c9 := (HM.out.gv.cell q).trans HGQ.out
              have z9 := HM.out.gv.lt
              have kw3 : (v < LA ∧ WV = 0 ∧ P2 < v) ∨ (v < LA ∧ WV = 0 ∧ v ≤ P2) ∨ (LA ≤ v ∧ WV = v - LA + 1 ∧ v - LA + 1 ≠ 0) := by omega
              clear kw2
              rcases kw3 with ⟨k1, rfl, k2⟩ | ⟨k1, rfl, k2⟩ | ⟨k1, rfl, k2⟩
              all_goals
                go_wp2_with fail
                go_roundw
                case rel => exact ⟨q + 1, _, by omega, by go_num, rfl, by omega, HM.out⟩
                case measure => simp [intOf]; omega
            · obtain rfl : q = many := by omega
              go_wp2_with fail
              go_roundw
              case rel => exact ⟨n + 1, q, T + d, h + (d - qa), k + (d - qb), P2, nx, ny, ca2, cb2, G, by omega, by omega, by omega, by go_num, rfl, rfl, rfl, rfl, rfl, by omega, by omega, by omega, by omega, by omega, by omega, HRA2.out, HRB2.out, HGV.out, HLL.out.few (fun r hr => by cases hr)⟩
              case measure => simp [intOf]; omega
      | true =>
        obtain ⟨t0, t1, t2, t3, t4⟩ := HL.out.st.two 1 x4.heap.size rfl
        obtain ⟨r0, r1, r2, r3, r4⟩ := HL.out.st.two 0 (x4.heap.size + 1) rfl
        go_wp2_with fail
        go_region
        have HB6 : Hid (Bh w (((y5.setCell ⟨x4.heap.size + 1, 0, none⟩ (.int .i64 LB)).setCell ⟨x4.heap.size + 1, 1, none⟩ (.int .i64 UB)).drew) [(x4.heap.size + 1, 28, #[.int .i64 LB, .int .i64 UB]), (x4.heap.size, 28, #[.int .i64 LB, .int .i64 UB]), (x3.heap.size, 28, #[.int .i64 LA, .int .i64 UA])] w.heap.size w1.heap.size w2.heap.size w3.heap.size w8.heap.size ca2 cb2 nx ny G) :=
          Lib.hid ((HL.out.set2 (by omega) (by intro r hr; simp at hr; rcases hr with rfl | rfl <;> (show _ ≠ _; simp <;> omega)) (by decide) (by decide)).drewN 1)
        clear HL t0 t1 t2 t3 t4 r0 r1 r2 r3 r4 q3 q4
        generalize ((y5.setCell ⟨x4.heap.size + 1, 0, none⟩ (.int .i64 LB)).setCell ⟨x4.heap.size + 1, 1, none⟩ (.int .i64 UB)).drew = y6 at *
        have HL := Lib.hid HB6.out
        clear HB6
        have q3 := (HL.out.st.below.cell (p := ⟨b0, off + n * 5 + 3, none⟩) hb).trans HQ3.out
        have q4 := (HL.out.st.below.cell (p := ⟨b0, off + n * 5 + 4, none⟩) hb).trans HQ4.out
        obtain ⟨t0, t1, t2, t3, t4⟩ := HL.out.st.two 0 (x4.heap.size + 1) rfl
        have HNX := Lib.hid (fun w0 (h0 : Src w0 w3.heap.size ny) => next_any w3.heap.size ny LB UB (by omega) (sr64 _ (by omega)) (sr64 _ (by omega)) none 0 [] w0 h0 (Rw.none _))
        have key : ∃ V : Int, nextE ny LB UB [] = 0 ∧ nextV ny LB UB [] = V ∧ nextN ny LB UB [] = V ∧ (T + d < V) ∧ V ≤ 2199023255552 + (n + 1) ∧ isK V = true := by
          have hrc : reach ny UB [] = mx ny UB := rfl
          have hmx := mx_cases ny UB
          have hiss := (isS_iff _ _).1 b6
          rcases next_cases ny LB UB [] with ⟨e1, e2, e3, e4, e5⟩ | ⟨e1, e2, e3, e4, e5⟩ | ⟨e1, e3, e4, e5⟩
          · exact ⟨mx ny UB + 1, e3, by rw [e4, hrc], by rw [e5, hrc], by omega, by omega, (isK_iff _).2 (by omega)⟩
          · rw [hrc] at e2; omega
          · rw [b6] at e1; cases e1
        obtain ⟨V, v1, v2, v3, v4, v5, v6⟩ := key
        rw [v1, v2, v3] at HNX
        have HV6 := Lib.hid v6
        clear v1 v2 v3 v6
        cases wait with
        | false =>
          have hvp : P < V := by omega
          go_wp2_with fail
          refine (HNX.out _ HL.out.sy).mono ?_
          rintro r x6 ⟨rfl, hbb, kk⟩
          replace HL := Lib.hid (HL.out.turnY hbb kk)
          clear hbb kk HNX t0 t1 t2 t3 t4 q3 q4
          obtain ⟨u9, hu9⟩ := HGV.out.ints many (by omega)
          have c9 := (HL.out.gv.cell many).trans hu9
          have f9 := HL.out.gv.free many
          have z9 := HL.out.gv.lt
          clear hu9
          go_wp2_with fail
          go_roundw
          case rel => exact ⟨n + 1, many + 1, T + d, h + (d - qa), k + (d - qb), P, _, _, ca2, cb2, _, by omega, by omega, by omega, by go_num, by go_num, rfl, rfl, rfl, rfl, by omega, by omega, by omega, by omega, by omega, by omega, HRA2.out, HRB2.out, HGV.out.more (by omega) V HV6.out, (HL.out.setG many (.int .i64 V)).few (fun r hr => by cases hr)⟩
          case measure => simp [intOf]; omega
        | true =>
          clear HNX HV6 v4 v5
          clear V
          have hiss := (isS_iff _ _).1 b6
          have HW := Lib.hid (fun w0 (v : Int) => wait_any v LB UB (sr64 _ (by omega)) (sr64 _ (by omega)) w0)
          replace HL := Lib.hid (HL.out.few (L' := [(x4.heap.size + 1, 28, #[.int .i64 LB, .int .i64 UB])]) (by simp))
          go_wp2_with fail
          go_loopw [15, 28] (fun pv qv wx => ∃ (q : Nat) (P2 : Int), q ≤ many ∧ qv = .int .i64 (q : Int) ∧ pv = .int .i64 P2 ∧ (0 ≤ P2 ∧ P2 ≤ T + d) ∧ Bh w wx [(x4.heap.size + 1, 28, #[.int .i64 LB, .int .i64 UB])] w.heap.size w1.heap.size w2.heap.size w3.heap.size w8.heap.size ca2 cb2 nx ny G) (fun _ i _ => many - (intOf i).toNat)
          case atStart => exact ⟨0, P, by omega, rfl, rfl, by omega, HL.out⟩
          case round =>
            obtain ⟨q, P2, hq, rfl, rfl, hP2, hl⟩ := hrel
            have HLL := Lib.hid hl
            clear hl HL t0 t1 t2 t3 t4 q3 q4
            by_cases hqm : q < many
            · obtain ⟨v, hgv, hvk⟩ := HGV.out.good q hqm
              have HGQ := Lib.hid hgv
              have hvr := (isK_iff _).1 hvk
              have HWV := Lib.hid (fun w0 => HW.out w0 v)
              have kw : waitE v LB UB = 0 ∧ ((v < LB ∧ waitV v LB UB = 0) ∨ (LB ≤ v ∧ waitV v LB UB = v - LB + 1)) := by
                rcases wait_cases v LB UB with ⟨e1, e2, e3, e4⟩ | ⟨e1, e2, e3, e4⟩ | ⟨e1, e3, e4⟩
                · exact ⟨e3, e4⟩
                · rw [b6] at e2; cases e2
                · rw [hvk] at e1; cases e1
              obtain ⟨kw1, kw2⟩ := kw
              rw [kw1] at HWV
              generalize waitV v LB UB = WV at *
              have j1 : (q : Int) < (many : Int) := by omega
              have j2 : (q : Int) ≤ 38 := by omega
              have j3 : (q : Int) < 40 := by omega
              clear hgv hvk kw1
              obtain ⟨C, hC, HCc, HCf⟩ := HLL.out.class
              clear HLL
              go_wp2_with fail
              refine region_in C hC (by kernel_rfl) (by kernel_rfl) ?_
              iterate 10
                (refine WQ.step (fun K hK => ?_)
                 go_simp
                 first
                   | (refine hK _ ?_; clear hK K)
                   | (apply Exists.intro
                      refine ⟨fun x hx => ?_, hK _ ?_⟩
                      · first
                          | rfl
                          | (go_at_call 16; refine (HWV.out _).mono ?_; rintro e x1 ⟨rfl, hb⟩; exact ⟨rfl, HCc.out _ _ hx hb⟩)
                          | (have HX := HCf.out _ hx
                             obtain ⟨t0, t1, t2, t3, t4⟩ := HX.st.two 0 (x4.heap.size + 1) rfl
                             have c9 := (HX.gv.cell q).trans HGQ.out
                             have z9 := HX.gv.lt
                             clear HX
                             go_simp
                             rfl)
                      clear hK K))
              refine WQ.nil ?_
              intro x6 hw
              have HM := Lib.hid (HCf.out _ hw)
              clear hw hC HCc HCf C 
              have c9 := (HM.out.gv.cell q).trans HGQ.out
              have z9 := HM.out.gv.lt
              have kw3 : (v < LB ∧ WV = 0 ∧ P2 < v) ∨ (v < LB ∧ WV = 0 ∧ v ≤ P2) ∨ (LB ≤ v ∧ WV = v - LB + 1 ∧ v - LB + 1 ≠ 0) := by omega
              clear kw2
              rcases kw3 with ⟨k1, rfl, k2⟩ | ⟨k1, rfl, k2⟩ | ⟨k1, rfl, k2⟩
              all_goals
                go_wp2_with fail
                go_roundw
                case rel => exact ⟨q + 1, _, by omega, by go_num, rfl, by omega, HM.out⟩
                case measure => simp [intOf]; omega
            · obtain rfl : q = many := by omega
              go_wp2_with fail
              go_roundw
              case rel => exact ⟨n + 1, q, T + d, h + (d - qa), k + (d - qb), P2, nx, ny, ca2, cb2, G, by omega, by omega, by omega, by go_num, rfl, rfl, rfl, rfl, rfl, by omega, by omega, by omega, by omega, by omega, by omega, HRA2.out, HRB2.out, HGV.out, HLL.out.few (fun r hr => by cases hr)⟩
              case measure => simp [intOf]; omega
    · have hend : ((n : Int) < (l.length : Int) ∧ n = 40) ∨ (¬ (n : Int) < (l.length : Int)) := by omega
      rcases hend with ⟨i1, rfl⟩ | i1
      all_goals
        go_wp2_with fail
        go_ret
        exact ⟨rfl, HL.out.st.below⟩

set_option maxRecDepth 100000 in
theorem lifted (os : Os) (started : os.Started) (H : Type) (enc : TypeId × Value → H) :
    ReturnsInHanded {} Try.checked os 6 .any (Rows.stampBehindSpec.pre6 enc Try.prog Try.f6 Rows.stampBehindRow.domain false) (Rows.stampBehindSpec.post enc Try.prog Try.f6 false true false false) := by
  refine returnsInHanded_of_change (C := Try.checked) own started (by kernel_rfl) Try.func6
    (ChangeSpec.witness6 (enc := enc) (C := Try.checked) false ⟨#[], #[.int .i64 0, .int .u8 0, .slice none 0 0], []⟩ 8 (by kernel_rfl) (by kernel_rfl) (by kernel_rfl) (by kernel_rfl)) ?_
  intro W base args ds gs before hval0 hW hcnd _
  have hval : ∀ (j : Nat) t v, Try.f6.params[j]? = some t → args[j]? = some v → Value.okWide Try.prog W .any base t v := hval0
  have hW' := hW
  obtain ⟨p, q, hA0, hV, rfl, hfz, hnd⟩ := hW
  have hA : DataW.TrodAll enc Try.prog W 0 (fun _ => true) true Try.f6.params.toList args.toList ds p := hA0
  rw [Try.params6] at hA hval
  obtain ⟨v0, vs0, d0, ds0, p0, q0, hargs, rfl, rfl, h0, r0⟩ := trodAll_cons hA
  obtain ⟨v1, vs1, d1, ds1, p1, q1, rfl, rfl, rfl, h1, r1⟩ := trodAll_cons r0
  obtain ⟨v2, vs2, d2, ds2, p2, q2, rfl, rfl, rfl, h2, r2⟩ := trodAll_cons r1
  obtain ⟨rfl, rfl, rfl⟩ := trodAll_nil r2
  obtain rfl : args = #[v0, v1, v2] := by cases args; simp_all
  obtain ⟨rfl, rfl⟩ := trodVars_none hV
  obtain ⟨a0, rfl⟩ := okWide_int Try.underlying2 (hval 0 2 v0 rfl rfl)
  have w0 : -9223372036854775808 ≤ a0 ∧ a0 ≤ 9223372036854775807 := by
    obtain ⟨m, hm⟩ := h0
    obtain ⟨s, hs, _, hl⟩ := DataW.trod_int Try.underlying2 hm
    simp [Value.cells] at hs
    rw [hs]; have := bounds_i64 hl; omega
  have lt0 : ∀ x ∈ p0, x.block < W.heap.size := by obtain ⟨m, hm⟩ := h0; exact DataW.trod_lt m _ _ _ hm
  obtain ⟨a1, rfl⟩ := okWide_int Try.underlying5 (hval 1 5 v1 rfl rfl)
  have w1 : 0 ≤ a1 ∧ a1 ≤ 255 := by
    obtain ⟨m, hm⟩ := h1
    obtain ⟨s, hs, _, hl⟩ := DataW.trod_int Try.underlying5 hm
    simp [Value.cells] at hs
    rw [hs]; have := bounds_u8 hl; omega
  have lt1 : ∀ x ∈ p1, x.block < W.heap.size := by obtain ⟨m, hm⟩ := h1; exact DataW.trod_lt m _ _ _ hm
  obtain ⟨A2, len2, cap2, rfl⟩ := okWide_slice Try.underlying44 (hval 2 44 v2 rfl rfl)
  obtain ⟨l2, w2⟩ := open_turns h2
  have lt2 : ∀ x ∈ p2, x.block < W.heap.size := by obtain ⟨m, hm⟩ := h2; exact DataW.trod_lt m _ _ _ hm
  clear hA0 hval0
  simp only [List.append_nil] at hW'
  refine (walk a0 w0 a1 w1 A2 len2 cap2 l2 W w2).mono fun e W' ⟨he, bel⟩ => ?_
  subst he
  exact ⟨_, rfl, _, _, _, [], _, [], hW', trodAll_mk1 (shut_bool Try.underlying4 _), (trodAll_cons_mk (Below.trod laidOut (by kernel_rfl) (of_decide_eq_true (by kernel_rfl)) h0 bel lt0) (trodAll_cons_mk (Below.trod laidOut (by kernel_rfl) (of_decide_eq_true (by kernel_rfl)) h1 bel lt1) (trodAll_cons_mk (Below.trod laidOut (by kernel_rfl) (of_decide_eq_true (by kernel_rfl)) h2 bel lt2) trodAll_mk0))), rfl, bel.frame _, fun h => by cases h⟩

theorem proved : Rows.StampBehindSaid :=
  OpenClaim.holds_of_wide 6 Try.f6 rfl rfl rfl rfl rfl rfl rfl ⟨rfl, rfl, rfl, rfl, rfl⟩ rfl rfl rfl rfl rfl (by kernel_rfl) Try.func6 (by kernel_rfl)
    (of_decide_eq_true (by kernel_rfl)) (by unfold Func.isWrapper; first | (rw [if_pos (by decide +kernel)]; kernel_rfl) | (rw [if_neg (by decide +kernel)]; exact ⟨rfl, rfl⟩))
    (fun os started H enc _ => lifted os started H enc)
#print axioms proved
end Go.Proofs.Ytjpalcolhagpcaa.stampBehind
