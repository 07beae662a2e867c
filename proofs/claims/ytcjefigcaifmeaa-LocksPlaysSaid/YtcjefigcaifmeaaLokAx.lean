/- Locks: the document's Ask, in memory. (Written by gdask.py.) -/
import Derived.Test.YtcjefigcaifmeaaLokAy
namespace Go.Proofs.Ytcjefigcaifmeaa
open Go.ChangeShapes Go.WideShapes Go.ChangeAt Go.RowKit Go.Lk
set_option linter.unusedVariables false
set_option linter.unusedSimpArgs false
set_option maxRecDepth 100000
theorem wd_nil (x k : Int) (b : Bool) : woundsR ([] : List Rw) x k b = [] := rfl
set_option maxHeartbeats 16000000 in
theorem docAsk_any (B : Nat) (vH vW vD : Value) (H W : List Rw) (D : List Int) (x k : Int) (b : Bool) (w : World) (hB : B ≤ w.heap.size) (hH : OwR w B vH H) (hW : OwR w B vW W) (hD : OwD w B vD D) (hl : H.length ≤ 10000) (hl2 : W.length ≤ 10000) (hl3 : D.length ≤ 40000) :
    Calls Try.prog 7 #[.agg #[vH, vW, vD], .int .i64 x, .int .i64 k, .bool b] w fun e w' => ∃ vh vw vd A cap A' cap', e = .returned (.tuple #[.agg #[vh, vw, vd], .agg #[.bool (askO H W D x k b).granted, .slice A (askO H W D x k b).wounded.length cap, .slice A' (askO H W D x k b).woken.length cap'], .int .i64 (askO H W D x k b).err]) ∧
      OwR w' B vh (askO H W D x k b).H ∧ OwR w' B vw (askO H W D x k b).W ∧ OwD w' B vd (askO H W D x k b).D ∧ OwD w' w.heap.size (.slice A (askO H W D x k b).wounded.length cap) (askO H W D x k b).wounded ∧ OwG w' w.heap.size (.slice A' (askO H W D x k b).woken.length cap') (askO H W D x k b).woken ∧ Below w.heap.size w w' := by
  have HRR : Hid (askO H W D x k b = askO H W D x k b) := Lib.hid rfl
  obtain ⟨AH, cH, rfl, -⟩ := own_slice0 hH
  obtain ⟨AW, cW, rfl, -⟩ := own_slice0 hW
  obtain ⟨AD, cD, rfl, -⟩ := own_slice0 hD
  have HBB := Lib.hid hB
  have HG0 : Hid (Ts w (((w.alloc (.cells #[.slice AH H.length cH, .slice AW W.length cW, .slice AD D.length cD] 28)).alloc (.cells #[.slice none 0 0, .slice none 0 0, .slice none 0 0] 28)).alloc (.cells #[.bool false, .slice none 0 0, .slice none 0 0] 34)) [(w.heap.size + 1 + 1, 34, #[.bool false, .slice none 0 0, .slice none 0 0]), (w.heap.size + 1, 28, #[.slice none 0 0, .slice none 0 0, .slice none 0 0])] B w.heap.size (.slice AH H.length cH) (.slice AW W.length cW) (.slice AD D.length cD) H W D) := Lib.hid (by
    have k1 := ((Whole.fresh w 28 #[.slice AH H.length cH, .slice AW W.length cW, .slice AD D.length cD]).alloc (.cells #[.slice none 0 0, .slice none 0 0, .slice none 0 0] 28)).alloc (.cells #[.bool false, .slice none 0 0, .slice none 0 0] 34)
    have hs := (((St.start w).other (.cells #[.slice AH H.length cH, .slice AW W.length cW, .slice AD D.length cD] 28)).alloc (w.heap.size + 1) (by simp) 28 #[.slice none 0 0, .slice none 0 0, .slice none 0 0]).alloc (w.heap.size + 1 + 1) (by simp) 34 #[.bool false, .slice none 0 0, .slice none 0 0]
    exact Ts.new hs hH hW hD hs.below w.heap.size k1 (Nat.le_refl _) fun r hr => by
      rcases List.mem_cons.1 hr with rfl | hr
      · simp; omega
      · rw [List.mem_singleton.1 hr]; simp)
  have HZ0 : Hid ((((w.alloc (.cells #[.slice AH H.length cH, .slice AW W.length cW, .slice AD D.length cD] 28)).alloc (.cells #[.slice none 0 0, .slice none 0 0, .slice none 0 0] 28)).alloc (.cells #[.bool false, .slice none 0 0, .slice none 0 0] 34)).heap.size = w.heap.size + 3) := Lib.hid (by simp)
  clear hH hW hD hB
  go_enter Try.func7, Try.ntmps7
  go_upto_region 1 with fail
  generalize hw0 : (((w.alloc (.cells #[.slice AH H.length cH, .slice AW W.length cW, .slice AD D.length cD] 28)).alloc (.cells #[.slice none 0 0, .slice none 0 0, .slice none 0 0] 28)).alloc (.cells #[.bool false, .slice none 0 0, .slice none 0 0] 34)) = w0 at *
  clear hw0
  by_cases h1 : x < 1
  · have HR : Hid (askO H W D x k b = ⟨H, W, D, false, [], [], 130⟩) := Lib.hid (by unfold askO; rw [if_pos h1])
    obtain ⟨s0, s1, s2, r0, r1, r2, sz⟩ := HG0.out.cells
    have kx := HG0.out.st.knows.at 1 rfl
    have x0 := kx.cell 0
    have x1 := kx.cell 1
    have x2 := kx.cell 2
    have f0 := kx.free 0
    have f1 := kx.free 1
    have f2 := kx.free 2
    have xz := kx.lt
    clear kx
    have kx := HG0.out.st.knows.at 0 rfl
    have y0 := kx.cell 0
    have y1 := kx.cell 1
    have y2 := kx.cell 2
    have g0 := kx.free 0
    have g1 := kx.free 1
    have g2 := kx.free 2
    have yz := kx.lt
    clear kx
    simp only [List.getElem?_toArray, List.getElem?_cons_zero, List.getElem?_cons_succ] at x0 x1 x2 y0 y1 y2
    have HF := Lib.hid (HG0.out.exit (Nat.le_succ _) (by omega) (.slice (AH) H.length cH) (.slice (AW) W.length cW) (.slice (AD) D.length cD) (.bool false) (.slice none 0 0) (.slice none 0 0) _ rfl)
    go_wp2_with fail
    refine bodyPost_ret (by simp [results, Try.results7, go_sem, x0, x1, x2, f0, f1, f2, xz, y0, y1, y2, g0, g1, g2, yz]; try rfl) rfl ?_
    rw [HR.out]
    exact ⟨_, _, _, none, 0, none, 0, rfl, HF.out.1, HF.out.2.1, HF.out.2.2.1, own_zero3 _ _ _ _, own_zero3 _ _ _ _, HF.out.2.2.2.1⟩
  by_cases h2 : k < 0
  · have HR : Hid (askO H W D x k b = ⟨H, W, D, false, [], [], 131⟩) := Lib.hid (by unfold askO; rw [if_neg h1, if_pos (.inl h2)])
    obtain ⟨s0, s1, s2, r0, r1, r2, sz⟩ := HG0.out.cells
    have kx := HG0.out.st.knows.at 1 rfl
    have x0 := kx.cell 0
    have x1 := kx.cell 1
    have x2 := kx.cell 2
    have f0 := kx.free 0
    have f1 := kx.free 1
    have f2 := kx.free 2
    have xz := kx.lt
    clear kx
    have kx := HG0.out.st.knows.at 0 rfl
    have y0 := kx.cell 0
    have y1 := kx.cell 1
    have y2 := kx.cell 2
    have g0 := kx.free 0
    have g1 := kx.free 1
    have g2 := kx.free 2
    have yz := kx.lt
    clear kx
    simp only [List.getElem?_toArray, List.getElem?_cons_zero, List.getElem?_cons_succ] at x0 x1 x2 y0 y1 y2
    have HF := Lib.hid (HG0.out.exit (Nat.le_succ _) (by omega) (.slice (AH) H.length cH) (.slice (AW) W.length cW) (.slice (AD) D.length cD) (.bool false) (.slice none 0 0) (.slice none 0 0) _ rfl)
    go_wp2_with fail
    refine bodyPost_ret (by simp [results, Try.results7, go_sem, x0, x1, x2, f0, f1, f2, xz, y0, y1, y2, g0, g1, g2, yz]; try rfl) rfl ?_
    rw [HR.out]
    exact ⟨_, _, _, none, 0, none, 0, rfl, HF.out.1, HF.out.2.1, HF.out.2.2.1, own_zero3 _ _ _ _, own_zero3 _ _ _ _, HF.out.2.2.2.1⟩
  by_cases h3 : 8191 < k
  · have HR : Hid (askO H W D x k b = ⟨H, W, D, false, [], [], 131⟩) := Lib.hid (by unfold askO; rw [if_neg h1, if_pos (.inr h3)])
    obtain ⟨s0, s1, s2, r0, r1, r2, sz⟩ := HG0.out.cells
    have kx := HG0.out.st.knows.at 1 rfl
    have x0 := kx.cell 0
    have x1 := kx.cell 1
    have x2 := kx.cell 2
    have f0 := kx.free 0
    have f1 := kx.free 1
    have f2 := kx.free 2
    have xz := kx.lt
    clear kx
    have kx := HG0.out.st.knows.at 0 rfl
    have y0 := kx.cell 0
    have y1 := kx.cell 1
    have y2 := kx.cell 2
    have g0 := kx.free 0
    have g1 := kx.free 1
    have g2 := kx.free 2
    have yz := kx.lt
    clear kx
    simp only [List.getElem?_toArray, List.getElem?_cons_zero, List.getElem?_cons_succ] at x0 x1 x2 y0 y1 y2
    have HF := Lib.hid (HG0.out.exit (Nat.le_succ _) (by omega) (.slice (AH) H.length cH) (.slice (AW) W.length cW) (.slice (AD) D.length cD) (.bool false) (.slice none 0 0) (.slice none 0 0) _ rfl)
    go_wp2_with fail
    refine bodyPost_ret (by simp [results, Try.results7, go_sem, x0, x1, x2, f0, f1, f2, xz, y0, y1, y2, g0, g1, g2, yz]; try rfl) rfl ?_
    rw [HR.out]
    exact ⟨_, _, _, none, 0, none, 0, rfl, HF.out.1, HF.out.2.1, HF.out.2.2.1, own_zero3 _ _ _ _, own_zero3 _ _ _ _, HF.out.2.2.2.1⟩
  have h23 : ¬ (k < 0 ∨ 8191 < k) := by omega
  have HIN := Lib.hid (rin_any AD cD D x w0 (Sees.own HG0.out.hd) (by omega))
  by_cases h4 : x ∈ D
  · have HR : Hid (askO H W D x k b = ⟨H, W, D, false, [], [], 132⟩) := Lib.hid (by unfold askO; rw [if_neg h1, if_neg h23, if_pos h4])
    rw [decide_eq_true h4] at HIN
    clear h4 h23
    obtain ⟨s0, s1, s2, r0, r1, r2, sz⟩ := HG0.out.cells
    go_wp2_with fail
    refine HIN.out.mono ?_
    rintro e w5 ⟨rfl, hb⟩
    have HG5 := Lib.hid (HG0.out.call hb)
    clear hb HG0 s0 s1 s2 r0 r1 r2 sz HIN
    obtain ⟨s0, s1, s2, r0, r1, r2, sz⟩ := HG5.out.cells
    have kx := HG5.out.st.knows.at 1 rfl
    have x0 := kx.cell 0
    have x1 := kx.cell 1
    have x2 := kx.cell 2
    have f0 := kx.free 0
    have f1 := kx.free 1
    have f2 := kx.free 2
    have xz := kx.lt
    clear kx
    have kx := HG5.out.st.knows.at 0 rfl
    have y0 := kx.cell 0
    have y1 := kx.cell 1
    have y2 := kx.cell 2
    have g0 := kx.free 0
    have g1 := kx.free 1
    have g2 := kx.free 2
    have yz := kx.lt
    clear kx
    simp only [List.getElem?_toArray, List.getElem?_cons_zero, List.getElem?_cons_succ] at x0 x1 x2 y0 y1 y2
    have HF := Lib.hid (HG5.out.exit (Nat.le_succ _) (by omega) (.slice (AH) H.length cH) (.slice (AW) W.length cW) (.slice (AD) D.length cD) (.bool false) (.slice none 0 0) (.slice none 0 0) _ rfl)
    go_wp2_with fail
    refine bodyPost_ret (by simp [results, Try.results7, go_sem, x0, x1, x2, f0, f1, f2, xz, y0, y1, y2, g0, g1, g2, yz]; try rfl) rfl ?_
    rw [HR.out]
    exact ⟨_, _, _, none, 0, none, 0, rfl, HF.out.1, HF.out.2.1, HF.out.2.2.1, own_zero3 _ _ _ _, own_zero3 _ _ _ _, HF.out.2.2.2.1⟩
  rw [decide_eq_false h4] at HIN
  have HQ4 : Hid ((W.any fun y => y.tx == x) = false → askO H W D x k b = if ownsR H x k b = true then ⟨H, W, D, true, [], [], 0⟩ else ⟨(giveR (killR (woundsR H x k b) H) (putR ⟨x, k, b⟩ (killR (woundsR H x k b) W))).1, (giveR (killR (woundsR H x k b) H) (putR ⟨x, k, b⟩ (killR (woundsR H x k b) W))).2.1, D ++ woundsR H x k b,
    (giveR (killR (woundsR H x k b) H) (putR ⟨x, k, b⟩ (killR (woundsR H x k b) W))).2.2.any (fun p => p.1 == x), woundsR H x k b, (giveR (killR (woundsR H x k b) H) (putR ⟨x, k, b⟩ (killR (woundsR H x k b) W))).2.2.filter (fun p => p.1 != x), 0⟩) := Lib.hid fun h => by unfold askO; rw [if_neg h1, if_neg h23, if_neg h4, if_neg (by rw [h]; simp)]
  have HQ3 : Hid ((W.any fun y => y.tx == x) = true → askO H W D x k b = ⟨H, W, D, false, [], [], 133⟩) := Lib.hid fun h => by unfold askO; rw [if_neg h1, if_neg h23, if_neg h4, if_pos h]
  clear h4 h23
  obtain ⟨s0, s1, s2, r0, r1, r2, sz⟩ := HG0.out.cells
  go_wp2_with fail
  refine HIN.out.mono ?_
  rintro e w5 ⟨rfl, hb⟩
  have HG5 := Lib.hid (HG0.out.call hb)
  have HZ5 : Hid (w.heap.size + 3 ≤ w5.heap.size) := Lib.hid (by have := hb.size; have := HZ0.out; omega)
  clear hb HG0 s0 s1 s2 r0 r1 r2 sz HIN HZ0
  go_wp2_with fail
  go_loopw [11] (fun j wr => ∃ c : Nat, c ≤ W.length ∧ j = .int .i64 (c : Int) ∧ Ts w wr [(w.heap.size + 1 + 1, 34, #[.bool false, .slice none 0 0, .slice none 0 0]), (w.heap.size + 1, 28, #[.slice none 0 0, .slice none 0 0, .slice none 0 0])] B w.heap.size (.slice AH H.length cH) (.slice AW W.length cW) (.slice AD D.length cD) H W D ∧ w.heap.size + 3 ≤ wr.heap.size ∧ Hid (∀ j z, j < c → W[j]? = some z → (z.tx == x) = false)) (fun j _ => W.length - (intOf j).toNat)
  case atStart => exact ⟨0, by omega, rfl, HG5.out, HZ5.out, Lib.hid fun j z h => by omega⟩
  case round =>
    obtain ⟨c, hc, rfl, hg, hz, HI⟩ := hrel
    clear HG5 HZ5
    have HG := Lib.hid hg
    have HZ := Lib.hid hz
    obtain ⟨s0, s1, s2, r0, r1, r2, sz⟩ := hg.cells
    clear hg hz
    by_cases hlt : c < W.length
    · obtain ⟨y, hy⟩ : ∃ y, W[c]? = some y := ⟨_, List.getElem?_eq_getElem hlt⟩
      obtain ⟨b0, off, rfl, hbb, hcc⟩ := (Sees.own HG.out.hw).item encR_len (by omega) c y hy
      have p0 := hcc 0 _ rfl
      have p1 := hcc 1 _ rfl
      have p2 := hcc 2 _ rfl
      rw [Nat.add_zero] at p0
      have i1 : (c : Int) < (W.length : Int) := by omega
      by_cases e : y.tx = x
      · have e1 : (y.tx == x) = true := by simpa using e
        have HR := Lib.hid (HQ3.out (List.any_eq_true.2 ⟨y, List.mem_of_getElem? hy, e1⟩))
        obtain ⟨y1', y2', y3'⟩ := y
        dsimp only at *
        clear hcc hy hbb HQ3 HQ4 HI s0 s1 s2 r0 r1 r2 sz
        subst e
        obtain ⟨s0, s1, s2, r0, r1, r2, sz⟩ := HG.out.cells
        have kx := HG.out.st.knows.at 1 rfl
        have x0 := kx.cell 0
        have x1 := kx.cell 1
        have x2 := kx.cell 2
        have f0 := kx.free 0
        have f1 := kx.free 1
        have f2 := kx.free 2
        have xz := kx.lt
        clear kx
        have kx := HG.out.st.knows.at 0 rfl
        have y0 := kx.cell 0
        have y1 := kx.cell 1
        have y2 := kx.cell 2
        have g0 := kx.free 0
        have g1 := kx.free 1
        have g2 := kx.free 2
        have yz := kx.lt
        clear kx
        simp only [List.getElem?_toArray, List.getElem?_cons_zero, List.getElem?_cons_succ] at x0 x1 x2 y0 y1 y2
        have HF := Lib.hid (HG.out.exit (Nat.le_succ _) (by omega) (.slice (AH) H.length cH) (.slice (some ⟨b0, off, none⟩) W.length cW) (.slice (AD) D.length cD) (.bool false) (.slice none 0 0) (.slice none 0 0) _ rfl)
        go_wp2_with fail
        refine bodyPost_ret (by simp [results, Try.results7, go_sem, x0, x1, x2, f0, f1, f2, xz, y0, y1, y2, g0, g1, g2, yz]; try rfl) rfl ?_
        rw [HR.out]
        exact ⟨_, _, _, none, 0, none, 0, rfl, HF.out.1, HF.out.2.1, HF.out.2.2.1, own_zero3 _ _ _ _, own_zero3 _ _ _ _, HF.out.2.2.2.1⟩
      · have e1 : (y.tx == x) = false := by simpa using e
        have HN := Lib.hid (next_none (p := fun z : Rw => z.tx == x) HI.out hy e1)
        obtain ⟨y1', y2', y3'⟩ := y
        dsimp only at *
        clear hcc hy hbb e
        go_wp2_with fail
        go_roundw
        case rel => exact ⟨c + 1, by omega, by go_num, HG.out, HZ.out, HN⟩
        case measure => simp [intOf]; omega
    · obtain rfl : c = W.length := by omega
      have i1 : ¬ (W.length : Int) < (W.length : Int) := by omega
      have HQ5 := Lib.hid (HQ4.out (any_none HI.out))
      clear HQ3 HQ4 HI
      have HT1 : Hid (Ts w ((wr.alloc (.cells #[.int .i64 x, .int .i64 k, .bool b] 74)).alloc (.cells #[.bool false, .slice none 0 0, .slice none 0 0] 34)) [(wr.heap.size + 1, 34, #[.bool false, .slice none 0 0, .slice none 0 0]), (wr.heap.size, 74, #[.int .i64 x, .int .i64 k, .bool b]), (w.heap.size + 1 + 1, 34, #[.bool false, .slice none 0 0, .slice none 0 0]), (w.heap.size + 1, 28, #[.slice none 0 0, .slice none 0 0, .slice none 0 0])] B w.heap.size (.slice AH H.length cH) (.slice AW W.length cW) (.slice AD D.length cD) H W D) := Lib.hid ((HG.out.alloc wr.heap.size rfl 74 #[.int .i64 x, .int .i64 k, .bool b]).alloc (wr.heap.size + 1) (by simp) 34 #[.bool false, .slice none 0 0, .slice none 0 0])
      go_wp2_with fail
      generalize hw1 : (wr.alloc (.cells #[.int .i64 x, .int .i64 k, .bool b] 74)).alloc (.cells #[.bool false, .slice none 0 0, .slice none 0 0] 34) = w1 at *
      clear hw1 HG s0 s1 s2 r0 r1 r2 sz
      obtain ⟨q1, hq1⟩ : ∃ q1, q1 = wr.heap.size + 1 := ⟨_, rfl⟩
      rw [← hq1] at HT1 ⊢
      have HQQ : Hid (w.heap.size + 3 ≤ wr.heap.size ∧ q1 = wr.heap.size + 1) := Lib.hid ⟨HZ.out, hq1⟩
      have HQD : Hid (wr.heap.size ≠ w.heap.size + 1 + 1 ∧ wr.heap.size ≠ w.heap.size + 1 ∧ q1 ≠ w.heap.size + 1 + 1 ∧ q1 ≠ w.heap.size + 1) := Lib.hid (by have := HZ.out; omega)
      clear hq1 HZ
      generalize wr.heap.size = q at *
      have HD4 : Hid (∀ r ∈ ([(q, 74, #[.int .i64 x, .int .i64 k, .bool b]), (w.heap.size + 1 + 1, 34, #[.bool false, .slice none 0 0, .slice none 0 0]), (w.heap.size + 1, 28, #[.slice none 0 0, .slice none 0 0, .slice none 0 0])] : List Row), r.1 ≠ q1) := Lib.hid fun r hr => by
        have := HQQ.out
        simp only [List.mem_cons, List.not_mem_nil, or_false] at hr
        rcases hr with rfl | rfl | rfl <;> simp only <;> omega
      have HLW : Hid (w.heap.size ≤ q1) := Lib.hid (by have := HQQ.out; omega)
      go_loopw [14, 15] (fun i yb wr => ∃ (c : Nat) (vd1 : Value), c ≤ H.length ∧ i = .int .i64 (c : Int) ∧ Ts w wr [(q1, 34, #[.bool false, vd1, .slice none 0 0]), (q, 74, #[.int .i64 x, .int .i64 k, .bool b]), (w.heap.size + 1 + 1, 34, #[.bool false, .slice none 0 0, .slice none 0 0]), (w.heap.size + 1, 28, #[.slice none 0 0, .slice none 0 0, .slice none 0 0])] B w.heap.size (.slice AH H.length cH) (.slice AW W.length cW) (.slice AD D.length cD) H W D ∧ OwD wr w.heap.size vd1 (woundsR (H.take c) x k b) ∧ (∀ b, vd1.ownBlock = some b → (Value.slice AD D.length cD).ownBlock ≠ some b) ∧ Hid (∀ j z, j < c → H[j]? = some z → (z.key == k && z.tx == x && (z.b || !b)) = false)) (fun i _ _ => H.length - (intOf i).toNat)
      case atStart => exact ⟨0, .slice none 0 0, by omega, rfl, HT1.out, own_zero3 _ _ _ _, (fun b hb => by simp [Value.ownBlock] at hb), Lib.hid fun j z h => by omega⟩
      case round =>
        obtain ⟨c, vd1, hc, rfl, hg, ho, hfar, HI⟩ := hrel
        clear HT1
        have HG := Lib.hid hg
        have HFR := Lib.hid hfar
        have HLL := Lib.hid (woundsR_len (H.take c) x k b)
        obtain ⟨Ad, cd, rfl, -⟩ := own_slice0 ho
        have HO := Lib.hid ho
        obtain ⟨s0, s1, s2, r0, r1, r2, sz⟩ := hg.cells
        clear hg ho hfar
        by_cases hlt : c < H.length
        · obtain ⟨y, hy⟩ : ∃ y, H[c]? = some y := ⟨_, List.getElem?_eq_getElem hlt⟩
          obtain ⟨b0, off, rfl, hbb, hcc⟩ := (Sees.own HG.out.hh).item encR_len (by omega) c y hy
          have p0 := hcc 0 _ rfl
          have p1 := hcc 1 _ rfl
          have p2 := hcc 2 _ rfl
          rw [Nat.add_zero] at p0
          have i1 : (c : Int) < (H.length : Int) := by omega
          have HWN := Lib.hid (wounds_next hy x k b)
          have HOA := Lib.hid (fun hp => owns_at (x := x) (k := k) (b := b) hy hp)
          have HNX := Lib.hid (fun hp => next_none (p := fun z : Rw => z.key == k && z.tx == x && (z.b || !b)) HI.out hy hp)
          obtain ⟨y1', y2', y3'⟩ := y
          dsimp only at *
          clear hcc hy hbb HI
          have HT2 := Lib.hid (HG.out.alloc wr.heap.size rfl 74 #[.int .i64 y1', .int .i64 y2', .bool y3'])
          have HAL : Hid (Below wr.heap.size wr (wr.alloc (.cells #[.int .i64 y1', .int .i64 y2', .bool y3'] 74))) := Lib.hid ((Below.refl _ _).alloc (Nat.le_refl _) _)
          go_upto_region 18 with fail
          have HO2 := Lib.hid (own_call HO.out HAL.out)
          generalize hw2 : wr.alloc (.cells #[.int .i64 y1', .int .i64 y2', .bool y3'] 74) = w2 at *
          clear hw2 s0 s1 s2 r0 r1 r2 sz p0 p1 p2
          have ky := HT2.out.st.knows.at 0 rfl
          have z0 := ky.cell 0
          have z1 := ky.cell 1
          have z2 := ky.cell 2
          have zz := ky.lt
          simp only [List.getElem?_toArray, List.getElem?_cons_zero, List.getElem?_cons_succ] at z0 z1 z2
          clear ky
          have HK2 : Hid (Ts w w2 [(q1, 34, #[.bool false, .slice Ad (woundsR (H.take c) x k b).length cd, .slice none 0 0]), (q, 74, #[.int .i64 x, .int .i64 k, .bool b]), (w.heap.size + 1 + 1, 34, #[.bool false, .slice none 0 0, .slice none 0 0]), (w.heap.size + 1, 28, #[.slice none 0 0, .slice none 0 0, .slice none 0 0])] B w.heap.size (.slice (some ⟨b0, off, none⟩) H.length cH) (.slice AW W.length cW) (.slice AD D.length cD) H W D) := Lib.hid (HT2.out.few fun r hr => List.mem_cons_of_mem _ hr)
          by_cases e2 : y2' = k
          · have e2' := e2.symm
            subst e2'
            clear e2
            have n2 : (k == k) = true := by simp
            by_cases e1 : y1' = x
            · have n1 : (y1' == x) = true := by simpa using e1
              by_cases e3 : (y3' || !b) = true
              · have HOW := Lib.hid (HOA.out (by rw [n2, n1, e3]; rfl))
                have HR : Hid (askO H W D x k b = ⟨H, W, D, true, [], [], 0⟩) := Lib.hid (by rw [HQ5.out, if_pos HOW.out])
                have HK3 := Lib.hid (HK2.out.few (L' := [(w.heap.size + 1 + 1, 34, #[.bool false, .slice none 0 0, .slice none 0 0]), (w.heap.size + 1, 28, #[.slice none 0 0, .slice none 0 0, .slice none 0 0])]) fun r hr => List.mem_cons_of_mem _ (List.mem_cons_of_mem _ hr))
                clear HWN HOA HNX HK2 HT2 HQ5
                subst e1
                cases y3' with
                | true =>
                  clear e3
                  obtain ⟨s0, s1, s2, r0, r1, r2, sz⟩ := HK3.out.cells
                  have kx := HK3.out.st.knows.at 1 rfl
                  have x0 := kx.cell 0
                  have x1 := kx.cell 1
                  have x2 := kx.cell 2
                  have f0 := kx.free 0
                  have f1 := kx.free 1
                  have f2 := kx.free 2
                  have xz := kx.lt
                  clear kx
                  have kx := HK3.out.st.knows.at 0 rfl
                  have y0 := kx.cell 0
                  have y1 := kx.cell 1
                  have y2 := kx.cell 2
                  have g0 := kx.free 0
                  have g1 := kx.free 1
                  have g2 := kx.free 2
                  have yz := kx.lt
                  clear kx
                  simp only [List.getElem?_toArray, List.getElem?_cons_zero, List.getElem?_cons_succ] at x0 x1 x2 y0 y1 y2
                  have HF := Lib.hid (HK3.out.exit (Nat.le_succ _) (by omega) (.slice (some ⟨b0, off, none⟩) H.length cH) (.slice (AW) W.length cW) (.slice (AD) D.length cD) (.bool true) (.slice none 0 0) (.slice none 0 0) _ rfl)
                  go_wp2_with fail
                  refine bodyPost_ret (by simp [results, Try.results7, go_sem, x0, x1, x2, f0, f1, f2, xz, y0, y1, y2, g0, g1, g2, yz]; try rfl) rfl ?_
                  rw [HR.out]
                  exact ⟨_, _, _, none, 0, none, 0, rfl, HF.out.1, HF.out.2.1, HF.out.2.2.1, own_zero3 _ _ _ _, own_zero3 _ _ _ _, HF.out.2.2.2.1⟩
                | false =>
                  cases b with
                  | true => exact absurd e3 (by decide)
                  | false =>
                    clear e3
                    obtain ⟨s0, s1, s2, r0, r1, r2, sz⟩ := HK3.out.cells
                    have kx := HK3.out.st.knows.at 1 rfl
                    have x0 := kx.cell 0
                    have x1 := kx.cell 1
                    have x2 := kx.cell 2
                    have f0 := kx.free 0
                    have f1 := kx.free 1
                    have f2 := kx.free 2
                    have xz := kx.lt
                    clear kx
                    have kx := HK3.out.st.knows.at 0 rfl
                    have y0 := kx.cell 0
                    have y1 := kx.cell 1
                    have y2 := kx.cell 2
                    have g0 := kx.free 0
                    have g1 := kx.free 1
                    have g2 := kx.free 2
                    have yz := kx.lt
                    clear kx
                    simp only [List.getElem?_toArray, List.getElem?_cons_zero, List.getElem?_cons_succ] at x0 x1 x2 y0 y1 y2
                    have HF := Lib.hid (HK3.out.exit (Nat.le_succ _) (by omega) (.slice (some ⟨b0, off, none⟩) H.length cH) (.slice (AW) W.length cW) (.slice (AD) D.length cD) (.bool true) (.slice none 0 0) (.slice none 0 0) _ rfl)
                    go_wp2_with fail
                    refine bodyPost_ret (by simp [results, Try.results7, go_sem, x0, x1, x2, f0, f1, f2, xz, y0, y1, y2, g0, g1, g2, yz]; try rfl) rfl ?_
                    rw [HR.out]
                    exact ⟨_, _, _, none, 0, none, 0, rfl, HF.out.1, HF.out.2.1, HF.out.2.2.1, own_zero3 _ _ _ _, own_zero3 _ _ _ _, HF.out.2.2.2.1⟩
              · have HN := Lib.hid (HNX.out (by rw [n2, n1, Bool.true_and, Bool.true_and]; simpa using e3))
                have HW2 : Hid (woundsR (H.take (c + 1)) x k b = woundsR (H.take c) x k b) := Lib.hid (by have := HWN.out; rw [if_neg (by rw [decide_eq_false (by omega : ¬ x < y1')]; simp), List.append_nil] at this; exact this)
                have e4 : y3' = false ∧ b = true := by cases y3' <;> cases b <;> simp_all
                obtain ⟨rfl, rfl⟩ := e4
                have e5 : ¬ x < y1' := by omega
                clear HWN HOA HNX HT2 e3
                subst e1
                go_wp2_with fail
                go_roundw
                case rel => exact ⟨c + 1, _, by omega, by go_num, HK2.out, by rw [HW2.out]; exact HO2.out, HFR.out, HN⟩
                case measure => simp [intOf]; omega
            · have n1 : (y1' == x) = false := by simpa using e1
              have HN := Lib.hid (HNX.out (by rw [n1, Bool.and_false, Bool.false_and]))
              by_cases e5 : x < y1'
              · have HTG := Lib.hid (fun z => rtog_any ⟨x, k, b⟩ ⟨y1', k, y3'⟩ z)
                have kx := HT2.out.st.knows.at 2 rfl
                have x0 := kx.cell 0
                have x1 := kx.cell 1
                have x2 := kx.cell 2
                have xz := kx.lt
                simp only [List.getElem?_toArray, List.getElem?_cons_zero, List.getElem?_cons_succ] at x0 x1 x2
                clear kx
                cases ht : togR ⟨x, k, b⟩ ⟨y1', k, y3'⟩ with
                | true =>
                  have HW2 : Hid (woundsR (H.take (c + 1)) x k b = woundsR (H.take c) x k b) := Lib.hid (by have := HWN.out; rw [if_neg (by rw [ht]; simp), List.append_nil] at this; exact this)
                  rw [ht] at HTG
                  clear HWN HOA HNX ht
                  go_wp2_with fail
                  refine (HTG.out _).mono ?_
                  rintro e w3 ⟨rfl, hb⟩
                  have HK3 := Lib.hid (HK2.out.call hb)
                  have HO3 := Lib.hid (own_call HO2.out hb)
                  clear hb
                  go_wp2_with fail
                  go_roundw
                  case rel => exact ⟨c + 1, _, by omega, by go_num, HK3.out, by rw [HW2.out]; exact HO3.out, HFR.out, HN⟩
                  case measure => simp [intOf]; omega
                | false =>
                  have HW2 : Hid (woundsR (H.take (c + 1)) x k b = woundsR (H.take c) x k b ++ [y1']) := Lib.hid (by have := HWN.out; rw [if_pos (by rw [n2, decide_eq_true e5, ht]; rfl)] at this; exact this)
                  rw [ht] at HTG
                  clear HWN HOA HNX ht
                  go_wp2_with fail
                  refine (HTG.out _).mono ?_
                  rintro e w3 ⟨rfl, hb⟩
                  have HK3 := Lib.hid (HK2.out.call hb)
                  have HO3 := Lib.hid (own_call HO2.out hb)
                  have HY3 := Lib.hid ((HT2.out.call hb).st.knows.at 0 rfl)
                  have HT3 := Lib.hid (HT2.out.call hb)
                  clear hb z0 z1 z2 zz x0 x1 x2 xz
                  have z0 := HY3.out.cell 0
                  have zz := HY3.out.lt
                  have ku := HK3.out.st.knows.at 0 rfl
                  have u1 := ku.cell 1
                  have v1 := ku.free 1
                  have uz := ku.lt
                  simp only [List.getElem?_toArray, List.getElem?_cons_zero, List.getElem?_cons_succ] at z0 u1
                  clear ku HY3
                  generalize hus : woundsR (H.take c) x k b = us at *
                  have HUL : Hid (us.length ≤ 10000) := Lib.hid (by have := HLL.out; rw [List.length_take] at this; omega)
                  have HSN := Lib.hid (sees_num1 w3 _ rfl y1')
                  have hal := (Below.refl w3.heap.size w3).alloc (Nat.le_refl _) (.cells #[.int .i64 y1'] 3)
                  have HA3 := Lib.hid hal
                  have HZ3 : Hid (w.heap.size ≤ w3.heap.size) := Lib.hid HK3.out.st.below.size
                  clear hal
                  go_wp2_with (at_builtin; refine wpList_appAt rfl (.tmp 109) (.tmp 112) _ 3 _ 1 8 rfl info_num Try.underlying26 rfl (by decide) w.heap.size _ us.length (flat encN us) rfl (own_call HO3.out HA3.out) (w3.heap.size + 1) _ 1 1 (flat encN [y1']) rfl HSN.out (fun h => by cases h) (encN_one _) (by have := HUL.out; omega) (by have := HUL.out; omega) (by have := HZ3.out; (try simp); omega) ?_)
                  intro v7 w7 ho7 hg7 hw7
                  rw [← flat_append] at ho7
                  have ho7' : OwD w7 w.heap.size v7 (us ++ [y1']) := by rw [OwD, List.length_append]; exact ho7
                  have hga := HK3.out.call HA3.out
                  have hg8 := hga.grown hg7 fun b hb => ⟨own_block_ge HO3.out hb, fun e => own_kind HO3.out HK3.out.box (by decide) (by rw [hb, e]), fun r hr e => (show r.1 ≠ b from by
                    have hk := HK3.out.st.knows r hr
                    intro e9
                    have h3 := own_kind HO3.out hk (by simp only [List.mem_cons, List.not_mem_nil, or_false] at hr; rcases hr with rfl | rfl | rfl | rfl <;> (dsimp only; decide))
                    exact h3 (by rw [hb, e9])) e, fun e => own_apart HK3.out.hh HO3.out (by decide) b e hb, fun e => own_apart HK3.out.hw HO3.out (by decide) b e hb, HFR.out b hb⟩
                  have HF7 : Hid (∀ b, v7.ownBlock = some b → (Value.slice AD D.length cD).ownBlock ≠ some b) := Lib.hid fun b hb e => by
                    rcases hw7 with h | h
                    · exact HFR.out b (by rw [← h]; exact hb) e
                    · have h1 := (HK3.out.hd.lt b e).2
                      rw [h] at hb
                      injection hb with hb
                      try simp at hb
                      omega
                  obtain ⟨A7, c7, rfl, -⟩ := own_slice0 ho7
                  have HO7 := Lib.hid (own_set (p := q1) (i := 1) (u := .slice A7 (us.length + 1) c7) ho7' (own_kind ho7' (hg8.st.knows.at 0 rfl) (by decide)))
                  have hs8 := hg8.set0 HLW.out HD4.out (by decide) (by decide) 1 (.slice A7 (us.length + 1) c7)
                  have HS8 := Lib.hid hs8
                  have ku := hg8.st.knows.at 0 rfl
                  have u1' := ku.cell 1
                  have v1' := ku.free 1
                  have uz' := ku.lt
                  simp only [List.getElem?_toArray, List.getElem?_cons_zero, List.getElem?_cons_succ] at u1'
                  clear ho7 ho7' hg7 hw7 hga hg8 hs8 ku z0 zz u1 v1 uz
                  go_wp2_with fail
                  go_roundw
                  case rel => exact ⟨c + 1, .slice A7 (us.length + 1) c7, by omega, by go_num, HS8.out, by rw [HW2.out]; exact HO7.out, HF7.out, HN⟩
                  case measure => simp [intOf]; omega
              · have HW2 : Hid (woundsR (H.take (c + 1)) x k b = woundsR (H.take c) x k b) := Lib.hid (by have := HWN.out; rw [if_neg (by rw [decide_eq_false e5]; simp), List.append_nil] at this; exact this)
                clear HWN HOA HNX HT2
                go_wp2_with fail
                go_roundw
                case rel => exact ⟨c + 1, _, by omega, by go_num, HK2.out, by rw [HW2.out]; exact HO2.out, HFR.out, HN⟩
                case measure => simp [intOf]; omega
          · have n2 : (y2' == k) = false := by simpa using e2
            have HN := Lib.hid (HNX.out (by rw [n2]; rfl))
            have HW2 : Hid (woundsR (H.take (c + 1)) x k b = woundsR (H.take c) x k b) := Lib.hid (by have := HWN.out; rw [if_neg (by rw [n2]; simp), List.append_nil] at this; exact this)
            clear HWN HOA HNX HT2
            go_wp2_with fail
            go_roundw
            case rel => exact ⟨c + 1, _, by omega, by go_num, HK2.out, by rw [HW2.out]; exact HO2.out, HFR.out, HN⟩
            case measure => simp [intOf]; omega
        · obtain rfl : c = H.length := by omega
          have i1 : ¬ (H.length : Int) < (H.length : Int) := by omega
          have HOW := Lib.hid (any_none HI.out)
          have HR : Hid (askO H W D x k b = ⟨(giveR (killR (woundsR H x k b) H) (putR ⟨x, k, b⟩ (killR (woundsR H x k b) W))).1, (giveR (killR (woundsR H x k b) H) (putR ⟨x, k, b⟩ (killR (woundsR H x k b) W))).2.1, D ++ woundsR H x k b,
              (giveR (killR (woundsR H x k b) H) (putR ⟨x, k, b⟩ (killR (woundsR H x k b) W))).2.2.any (fun p => p.1 == x), woundsR H x k b, (giveR (killR (woundsR H x k b) H) (putR ⟨x, k, b⟩ (killR (woundsR H x k b) W))).2.2.filter (fun p => p.1 != x), 0⟩) := Lib.hid (by rw [HQ5.out, if_neg (by unfold ownsR; rw [HOW.out]; simp)])
          have ho := HO.out
          rw [List.take_length] at HO HLL HG ho
          clear HOW HQ5 HI HFR
          generalize woundsR H x k b = wd at *
          have ku := HG.out.st.knows.at 0 rfl
          have u1 := ku.cell 1
          have uz := ku.lt
          simp only [List.getElem?_toArray, List.getElem?_cons_zero, List.getElem?_cons_succ] at u1
          clear ku
          have HWL : Hid (wd.length ≤ 10000) := Lib.hid (by have := HLL.out; omega)
          clear HLL ho
          go_wp2_with fail
          go_loopw [17, 118] (fun oth idx wr => ∃ (c : Nat) (vh vw vd : Value), c ≤ wd.length ∧ idx = .int .i64 (c : Int) ∧ Ts w wr [(q1, 34, #[.bool false, .slice Ad wd.length cd, .slice none 0 0]), (q, 74, #[.int .i64 x, .int .i64 k, .bool b]), (w.heap.size + 1 + 1, 34, #[.bool false, .slice none 0 0, .slice none 0 0]), (w.heap.size + 1, 28, #[.slice none 0 0, .slice none 0 0, .slice none 0 0])] B w.heap.size vh vw vd (killR (wd.take c) H) (killR (wd.take c) W) (D ++ wd.take c) ∧ OwD wr w.heap.size (.slice Ad wd.length cd) wd) (fun _ i _ => wd.length - (intOf i).toNat)
          case atStart => exact ⟨0, _, _, _, by omega, rfl, by rw [List.take_zero, List.append_nil]; exact HG.out, HO.out⟩
          case round =>
            obtain ⟨c, vh, vw, vd, hc, rfl, hg, ho⟩ := hrel
            have HGK := Lib.hid hg
            have HOK := Lib.hid ho
            have HKL := Lib.hid (killR_len (wd.take c) H)
            have HKL2 := Lib.hid (killR_len (wd.take c) W)
            have HDL : Hid ((D ++ wd.take c).length ≤ 60000) := Lib.hid (by have := HWL.out; rw [List.length_append, List.length_take]; omega)
            obtain ⟨A1, c1, rfl, -⟩ := own_slice0 hg.hh
            obtain ⟨A2, c2, rfl, -⟩ := own_slice0 hg.hw
            obtain ⟨A3, c3, rfl, -, -, hn3⟩ := own_slice0 hg.hd
            have HNC := Lib.hid hn3
            obtain ⟨s0, s1, s2, r0, r1, r2, sz⟩ := hg.cells
            clear hg ho HG HO u1 uz
            by_cases hlt : c < wd.length
            · obtain ⟨y, hy⟩ : ∃ y, wd[c]? = some y := ⟨_, List.getElem?_eq_getElem hlt⟩
              obtain ⟨b0, off, rfl, hbb, hcc⟩ := (Sees.own HOK.out).item encN_len (by omega) c y hy
              have p0 := hcc 0 _ rfl
              rw [Nat.add_zero, Nat.mul_one] at p0
              have i1 : (c : Int) < (wd.length : Int) := by omega
              have HN1 := Lib.hid (kill_next hy H)
              have HN2 := Lib.hid (kill_next hy W)
              have HN3 : Hid (D ++ wd.take (c + 1) = (D ++ wd.take c) ++ [y]) := Lib.hid (by rw [take_next hy, List.append_assoc])
              clear hcc hy hbb
              generalize killR (wd.take c) H = HC at *
              generalize killR (wd.take c) W = WC at *
              generalize D ++ wd.take c = DC at *
              have HGS := Lib.hid (fun wz (hz : Below wr.heap.size wr wz) => Gk.start (HGK.out.call hz) (own_call HOK.out hz))
              go_wp2_with fail
              refine Iv.region (fun f aa yy => ∃ v1 v2 v3 v5 p0 p8, aa = ⟨#[.agg #[.slice AH H.length cH, .slice AW W.length cW, .slice AD D.length cD], .int .i64 x, .int .i64 k, .bool b, .pointer (some ⟨w.heap.size, 0, none⟩), undef, undef, undef, .pointer (some ⟨w.heap.size + 1, 0, none⟩), .pointer (some ⟨w.heap.size + 1 + 1, 0, none⟩), u10, .int .i64 (W.length : Int), .pointer (some ⟨q, 0, none⟩), .pointer (some ⟨q1, 0, none⟩), .int .i64 (H.length : Int), u15, undef, .int .i64 y, undef, undef, .int .i64 x, .bool false, undef, undef, .int .i64 k, .bool false, .bool false, .int .i64 k, .bool false, .bool false, undef, undef, .pointer (some ⟨w.heap.size, 2, none⟩), .slice AD D.length cD, .int .i64 x, .bool false, undef, undef, .int .i64 (W.length : Int), .pointer (some ⟨w.heap.size, 1, none⟩), .slice AW W.length cW, .int .i64 (W.length : Int), .bool false, u43, u44, u45, u46, u47, u48, u49, u50, u51, u52, u53, u54, .int .i64 x, .int .i64 k, .bool b, .agg #[.int .i64 x, .int .i64 k, .bool b], .agg #[.bool false, .slice none 0 0, .slice none 0 0], .int .i64 (H.length : Int), .pointer (some ⟨w.heap.size, 0, none⟩), .slice AH H.length cH, .int .i64 (H.length : Int), .bool false, u65, u66, u67, u68, u69, u70, u71, u72, u73, u74, u75, u76, u77, u78, u79, u80, u81, u82, u83, u84, u85, u86, u87, u88, u89, u90, u91, u92, u93, u94, u95, u96, u97, u98, u99, u100, u101, u102, u103, u104, u105, u106, u107, u108, u109, u110, u111, u112, u113, u114, .pointer (some ⟨q1, 1, none⟩), .slice (some ⟨b0, off, none⟩) wd.length cd, .int .i64 (wd.length : Int), .int .i64 (c : Int), .bool true, .pointer (some ⟨b0, off + c, none⟩), .int .i64 y, so (f 0) (.pointer (some ⟨w.heap.size, 0, none⟩)) (u122), so (f 1) (.slice A1 HC.length c1) (u123), so (f 2) (.int .i64 y) (u124), so (f 3) (v1) (u125), so (f 4) (.pointer (some ⟨w.heap.size, 1, none⟩)) (u126), so (f 5) (.slice A2 WC.length c2) (u127), so (f 6) (.int .i64 y) (u128), so (f 7) (v2) (u129), so (f 8) (.slice (some ⟨p0, 0, none⟩) 0 0) (u130), so (f 9) (.pointer (some ⟨w.heap.size, 2, none⟩)) (u131), so (f 10) (.slice A3 DC.length c3) (u132), so (f 11) (v5) (u133), so (f 12) (.int .i64 y) (u134), so (f 13) (.slice (some ⟨p8, 0, none⟩) 1 1) (u135), so (f 14) (v3) (u136), so (f 15) (.pointer (some ⟨w.heap.size, 0, none⟩)) (u137), so (f 17) (.pointer (some ⟨w.heap.size, 1, none⟩)) (u138), so (f 19) (.pointer (some ⟨w.heap.size, 2, none⟩)) (u139), u140, undef, undef, undef, undef, undef, undef, undef, undef, undef, undef, undef, undef, undef, undef, undef, undef, undef, undef, undef, undef, undef, undef, undef, undef, undef, undef, undef, undef, undef, undef, undef, undef, undef, undef, undef], []⟩ ∧ Gk w yy [(q1, 34, #[.bool false, .slice (some ⟨b0, off, none⟩) wd.length cd, .slice none 0 0]), (q, 74, #[.int .i64 x, .int .i64 k, .bool b]), (w.heap.size + 1 + 1, 34, #[.bool false, .slice none 0 0, .slice none 0 0]), (w.heap.size + 1, 28, #[.slice none 0 0, .slice none 0 0, .slice none 0 0])] B wr.heap.size w.heap.size (.slice A1 HC.length c1) (.slice A2 WC.length c2) (.slice A3 DC.length c3) HC WC DC v1 v2 v3 (withoutR HC y) (withoutR WC y) y (.slice (some ⟨b0, off, none⟩) wd.length cd) wd p0 p8 v5 (f 3) (f 7) (f 14) (f 16) (f 18) (f 20) (f 8) (f 11) (f 13) ∧ (f 3 = true → f 1 = true) ∧ (f 7 = true → f 5 = true) ∧ (f 11 = true → f 10 = true)) (by kernel_rfl) (by kernel_rfl) ?_ ?_ ?_
              · exact ⟨undef, undef, undef, undef, 0, 0, rfl, ⟨HGS.out _ (drew_below wr 1) undef undef undef undef 0 0 (withoutR HC y) (withoutR WC y) y, (fun h => by cases h), (fun h => by cases h), fun h => by cases h⟩⟩
              · refine ⟨?_, ?_, ?_, ?_, ?_, ?_, ?_, ?_, ?_, ?_, ?_, ?_, ?_, ?_, ?_, ?_, ?_, ?_, ?_, ?_, ?_, trivial⟩
                · rintro f a0 yy Q' ⟨v1, v2, v3, v5, p0, p8, rfl, hw⟩ hi hd hQ
                  replace hQ := Lib.hid hQ
                  simp [Iv.depsB, Region.binds] at hd
                  try simp only [hi, hd, sl_true, sl_false, so_true, so_false]
                  try simp only [hi, sl_true, sl_false, so_true, so_false]
                  go_wp2_with fail
                  refine hQ.out _ _ ⟨v1, v2, v3, v5, p0, p8, ?_, ?_⟩
                  · simp [Iv.upd, hi, hd, sl_true, sl_false, so_true, so_false]
                  · simpa [Iv.upd, hi, hd] using hw
                · rintro f a0 yy Q' ⟨v1, v2, v3, v5, p0, p8, rfl, hw⟩ hi hd hQ
                  replace hQ := Lib.hid hQ
                  simp [Iv.depsB, Region.binds] at hd
                  try simp only [hi, hd, sl_true, sl_false, so_true, so_false]
                  try simp only [hi, sl_true, sl_false, so_true, so_false]
                  have ez : f 16 = false := by
                    cases e : f 16 with
                    | false => rfl
                    | true => have h1 := hw.2.1 (hw.1.g.ord.1 e); rw [hi] at h1; cases h1
                  have kx := hw.1.g.box
                  rw [ez] at kx
                  have t9 := kx.cell 0
                  have tz9 := kx.lt
                  simp only [Bool.false_eq_true, ↓reduceIte, List.getElem?_toArray, List.getElem?_cons_zero, List.getElem?_cons_succ] at t9
                  clear kx
                  go_wp2_with fail
                  refine hQ.out _ _ ⟨v1, v2, v3, v5, p0, p8, ?_, ?_⟩
                  · simp [Iv.upd, hi, hd, sl_true, sl_false, so_true, so_false]
                  · simpa [Iv.upd, hi, hd] using (show _ ∧ _ ∧ _ from ⟨hw.1, hw.2.2.1, hw.2.2.2⟩)
                · rintro f a0 yy Q' ⟨v1, v2, v3, v5, p0, p8, rfl, hw⟩ hi hd hQ
                  replace hQ := Lib.hid hQ
                  simp [Iv.depsB, Region.binds] at hd
                  try simp only [hi, hd, sl_true, sl_false, so_true, so_false]
                  try simp only [hi, sl_true, sl_false, so_true, so_false]
                  go_wp2_with fail
                  refine hQ.out _ _ ⟨v1, v2, v3, v5, p0, p8, ?_, ?_⟩
                  · simp [Iv.upd, hi, hd, sl_true, sl_false, so_true, so_false]
                  · simpa [Iv.upd, hi, hd] using hw
                · rintro f a0 yy Q' ⟨v1, v2, v3, v5, p0, p8, rfl, hw⟩ hi hd hQ
                  replace hQ := Lib.hid hQ
                  simp [Iv.depsB, Region.binds] at hd
                  try simp only [hi, hd, sl_true, sl_false, so_true, so_false]
                  try simp only [hi, sl_true, sl_false, so_true, so_false]
                  have hw2 := hw
                  rw [hi] at hw2
                  have HW2 := Lib.hid hw2
                  clear hw2
                  have ea : f 1 = true := by simp [hd]
                  have eb : f 2 = true := by simp [hd]
                  try simp only [ea, eb, so_true, so_false]
                  go_wp2_with fail
                  refine (rwithout_any A1 c1 HC y yy (Sees.own HW2.out.1.g.hh) (by have := HKL.out; omega)).mono ?_
                  rintro e y1 ⟨vn, rfl, ho, hb⟩
                  have HN := Lib.hid (show _ ∧ _ ∧ _ from ⟨HW2.out.1.got1 hb ho, HW2.out.2.2⟩)
                  clear ho hb
                  go_wp2_with fail
                  refine hQ.out _ _ ⟨vn, v2, v3, v5, p0, p8, ?_, ?_⟩
                  · simp [Iv.upd, hi, hd, sl_true, sl_false, so_true, so_false, ea, eb]
                  · simpa [Iv.upd, hi, hd, ea, eb] using HN.out
                · rintro f a0 yy Q' ⟨v1, v2, v3, v5, p0, p8, rfl, hw⟩ hi hd hQ
                  replace hQ := Lib.hid hQ
                  simp [Iv.depsB, Region.binds] at hd
                  try simp only [hi, hd, sl_true, sl_false, so_true, so_false]
                  try simp only [hi, sl_true, sl_false, so_true, so_false]
                  go_wp2_with fail
                  refine hQ.out _ _ ⟨v1, v2, v3, v5, p0, p8, ?_, ?_⟩
                  · simp [Iv.upd, hi, hd, sl_true, sl_false, so_true, so_false]
                  · simpa [Iv.upd, hi, hd] using hw
                · rintro f a0 yy Q' ⟨v1, v2, v3, v5, p0, p8, rfl, hw⟩ hi hd hQ
                  replace hQ := Lib.hid hQ
                  simp [Iv.depsB, Region.binds] at hd
                  try simp only [hi, hd, sl_true, sl_false, so_true, so_false]
                  try simp only [hi, sl_true, sl_false, so_true, so_false]
                  have ez : f 18 = false := by
                    cases e : f 18 with
                    | false => rfl
                    | true => have h1 := hw.2.2.1 (hw.1.g.ord.2.1 e); rw [hi] at h1; cases h1
                  have kx := hw.1.g.box
                  rw [ez] at kx
                  have t9 := kx.cell 1
                  have tz9 := kx.lt
                  simp only [Bool.false_eq_true, ↓reduceIte, List.getElem?_toArray, List.getElem?_cons_zero, List.getElem?_cons_succ] at t9
                  clear kx
                  go_wp2_with fail
                  refine hQ.out _ _ ⟨v1, v2, v3, v5, p0, p8, ?_, ?_⟩
                  · simp [Iv.upd, hi, hd, sl_true, sl_false, so_true, so_false]
                  · simpa [Iv.upd, hi, hd] using (show _ ∧ _ ∧ _ from ⟨hw.1, hw.2.1, hw.2.2.2⟩)
                · rintro f a0 yy Q' ⟨v1, v2, v3, v5, p0, p8, rfl, hw⟩ hi hd hQ
                  replace hQ := Lib.hid hQ
                  simp [Iv.depsB, Region.binds] at hd
                  try simp only [hi, hd, sl_true, sl_false, so_true, so_false]
                  try simp only [hi, sl_true, sl_false, so_true, so_false]
                  go_wp2_with fail
                  refine hQ.out _ _ ⟨v1, v2, v3, v5, p0, p8, ?_, ?_⟩
                  · simp [Iv.upd, hi, hd, sl_true, sl_false, so_true, so_false]
                  · simpa [Iv.upd, hi, hd] using hw
                · rintro f a0 yy Q' ⟨v1, v2, v3, v5, p0, p8, rfl, hw⟩ hi hd hQ
                  replace hQ := Lib.hid hQ
                  simp [Iv.depsB, Region.binds] at hd
                  try simp only [hi, hd, sl_true, sl_false, so_true, so_false]
                  try simp only [hi, sl_true, sl_false, so_true, so_false]
                  have e1z : f 1 = true := hw.2.1 (by simp [hd])
                  have hw2 := hw
                  rw [hi] at hw2
                  have HW2 := Lib.hid hw2
                  clear hw2
                  have ea : f 5 = true := by simp [hd]
                  have eb : f 6 = true := by simp [hd]
                  try simp only [ea, eb, so_true, so_false]
                  go_wp2_with fail
                  refine (rwithout_any A2 c2 WC y yy (Sees.own HW2.out.1.g.hw) (by have := HKL2.out; omega)).mono ?_
                  rintro e y1 ⟨vn, rfl, ho, hb⟩
                  have HN := Lib.hid (show _ ∧ _ ∧ _ from ⟨HW2.out.1.got2 hb ho, ⟨HW2.out.2.1, HW2.out.2.2.2⟩⟩)
                  clear ho hb
                  go_wp2_with fail
                  refine hQ.out _ _ ⟨v1, vn, v3, v5, p0, p8, ?_, ?_⟩
                  · simp [Iv.upd, hi, hd, sl_true, sl_false, e1z, so_true, so_false, ea, eb]
                  · simpa [Iv.upd, hi, hd, e1z, ea, eb] using HN.out
                · rintro f a0 yy Q' ⟨v1, v2, v3, v5, p0, p8, rfl, hw⟩ hi hd hQ
                  replace hQ := Lib.hid hQ
                  simp [Iv.depsB, Region.binds] at hd
                  try simp only [hi, hd, sl_true, sl_false, so_true, so_false]
                  try simp only [hi, sl_true, sl_false, so_true, so_false]
                  have hw2 := hw
                  rw [hi] at hw2
                  go_wp2_with fail
                  refine hQ.out _ _ ⟨v1, v2, v3, v5, yy.heap.size, p8, ?_, ?_⟩
                  · simp [Iv.upd, hi, hd, sl_true, sl_false, so_true, so_false]
                  · simpa [Iv.upd, hi, hd] using (show _ ∧ _ ∧ _ ∧ _ from ⟨hw2.1.make, hw2.2⟩)
                · rintro f a0 yy Q' ⟨v1, v2, v3, v5, p0, p8, rfl, hw⟩ hi hd hQ
                  replace hQ := Lib.hid hQ
                  simp [Iv.depsB, Region.binds] at hd
                  try simp only [hi, hd, sl_true, sl_false, so_true, so_false]
                  try simp only [hi, sl_true, sl_false, so_true, so_false]
                  go_wp2_with fail
                  refine hQ.out _ _ ⟨v1, v2, v3, v5, p0, p8, ?_, ?_⟩
                  · simp [Iv.upd, hi, hd, sl_true, sl_false, so_true, so_false]
                  · simpa [Iv.upd, hi, hd] using hw
                · rintro f a0 yy Q' ⟨v1, v2, v3, v5, p0, p8, rfl, hw⟩ hi hd hQ
                  replace hQ := Lib.hid hQ
                  simp [Iv.depsB, Region.binds] at hd
                  try simp only [hi, hd, sl_true, sl_false, so_true, so_false]
                  try simp only [hi, sl_true, sl_false, so_true, so_false]
                  have ez : f 20 = false := by
                    cases e : f 20 with
                    | false => rfl
                    | true => have h1 := hw.2.2.2 (hw.1.ord.2 (hw.1.g.ord.2.2 e)).1; rw [hi] at h1; cases h1
                  have kx := hw.1.g.box
                  rw [ez] at kx
                  have t9 := kx.cell 2
                  have tz9 := kx.lt
                  simp only [Bool.false_eq_true, ↓reduceIte, List.getElem?_toArray, List.getElem?_cons_zero, List.getElem?_cons_succ] at t9
                  clear kx
                  go_wp2_with fail
                  refine hQ.out _ _ ⟨v1, v2, v3, v5, p0, p8, ?_, ?_⟩
                  · simp [Iv.upd, hi, hd, sl_true, sl_false, so_true, so_false]
                  · simpa [Iv.upd, hi, hd] using (show _ ∧ _ ∧ _ from ⟨hw.1, hw.2.1, hw.2.2.1⟩)
                · rintro f a0 yy Q' ⟨v1, v2, v3, v5, p0, p8, rfl, hw⟩ hi hd hQ
                  replace hQ := Lib.hid hQ
                  simp [Iv.depsB, Region.binds] at hd
                  try simp only [hi, hd, sl_true, sl_false, so_true, so_false]
                  try simp only [hi, sl_true, sl_false, so_true, so_false]
                  have e5z : f 5 = true := hw.2.2.1 (by simp [hd])
                  have ea : f 8 = true := by simp [hd]
                  have eb : f 10 = true := by simp [hd]
                  have hw2 := hw
                  rw [hi, ea] at hw2
                  have HW2 := Lib.hid hw2
                  clear hw2
                  try simp only [ea, eb, so_true, so_false]
                  refine wpList_appAt rfl (.tmp 130) (.tmp 132) _ 3 _ 1 8 rfl info_num Try.underlying26 rfl (by decide) wr.heap.size _ 0 ([]) (by rfl) (HW2.out.1.made rfl rfl) yy.heap.size A3 DC.length c3 (flat encN DC) (by rfl) (Sees.own HW2.out.1.g.hd) HNC.out (encN_one _) (by have := HDL.out; omega) (by have := HDL.out; omega) HW2.out.1.low.2.1 ?_
                  intro vn yn ho hg hv
                  rw [Nat.zero_add, List.nil_append] at ho
                  have HN := Lib.hid (show _ ∧ _ ∧ _ from ⟨HW2.out.1.app5 ho hg hv, HW2.out.2.1, HW2.out.2.2.1⟩)
                  clear ho hg hv
                  go_wp2_with fail
                  refine hQ.out _ _ ⟨v1, v2, v3, vn, p0, p8, ?_, ?_⟩
                  · simp [Iv.upd, hi, hd, sl_true, sl_false, e5z, so_true, so_false, ea, eb]
                  · simpa [Iv.upd, hi, hd, e5z, ea, eb] using HN.out
                · rintro f a0 yy Q' ⟨v1, v2, v3, v5, p0, p8, rfl, hw⟩ hi hd hQ
                  replace hQ := Lib.hid hQ
                  simp [Iv.depsB, Region.binds] at hd
                  try simp only [hi, hd, sl_true, sl_false, so_true, so_false]
                  try simp only [hi, sl_true, sl_false, so_true, so_false]
                  go_wp2_with fail
                  refine hQ.out _ _ ⟨v1, v2, v3, v5, p0, p8, ?_, ?_⟩
                  · simp [Iv.upd, hi, hd, sl_true, sl_false, so_true, so_false]
                  · simpa [Iv.upd, hi, hd] using hw
                · rintro f a0 yy Q' ⟨v1, v2, v3, v5, p0, p8, rfl, hw⟩ hi hd hQ
                  replace hQ := Lib.hid hQ
                  simp [Iv.depsB, Region.binds] at hd
                  try simp only [hi, hd, sl_true, sl_false, so_true, so_false]
                  try simp only [hi, sl_true, sl_false, so_true, so_false]
                  have hw2 := hw
                  rw [hi] at hw2
                  go_wp2_with fail
                  refine hQ.out _ _ ⟨v1, v2, v3, v5, p0, yy.heap.size, ?_, ?_⟩
                  · simp [Iv.upd, hi, hd, sl_true, sl_false, so_true, so_false]
                  · simpa [Iv.upd, hi, hd] using (show _ ∧ _ ∧ _ ∧ _ from ⟨hw2.1.make8, hw2.2⟩)
                · rintro f a0 yy Q' ⟨v1, v2, v3, v5, p0, p8, rfl, hw⟩ hi hd hQ
                  replace hQ := Lib.hid hQ
                  simp [Iv.depsB, Region.binds] at hd
                  try simp only [hi, hd, sl_true, sl_false, so_true, so_false]
                  try simp only [hi, sl_true, sl_false, so_true, so_false]
                  have e10z : f 10 = true := hw.2.2.2 (by simp [hd])
                  have ea : f 11 = true := by simp [hd]
                  have eb : f 13 = true := by simp [hd]
                  have hw2 := hw
                  rw [hi, ea, eb] at hw2
                  have HW2 := Lib.hid hw2
                  clear hw2
                  try simp only [ea, eb, so_true, so_false]
                  refine wpList_appAt rfl (.tmp 133) (.tmp 135) _ 3 _ 1 8 rfl info_num Try.underlying26 rfl (by decide) wr.heap.size _ DC.length (flat encN DC) (by rfl) (HW2.out.1.old rfl rfl) (p8 + 1) (some ⟨p8, 0, none⟩) 1 1 (flat encN [y]) (by rfl) (sees_whole (HW2.out.1.item rfl rfl).1 rfl rfl) (fun h => by cases h) (encN_one _) (by have := HDL.out; omega) (by have := HDL.out; omega) HW2.out.1.low.2.1 ?_
                  intro vn yn ho hg hv
                  rw [← flat_append] at ho
                  have ho : OwD yn wr.heap.size vn (DC ++ [y]) := by rw [OwD, List.length_append]; exact ho
                  have HN := Lib.hid (show _ ∧ _ ∧ _ ∧ _ from ⟨HW2.out.1.app3 ho hg, HW2.out.2⟩)
                  clear ho hg hv
                  go_wp2_with fail
                  refine hQ.out _ _ ⟨v1, v2, vn, v5, p0, p8, ?_, ?_⟩
                  · simp [Iv.upd, hi, hd, sl_true, sl_false, e10z, so_true, so_false, ea, eb]
                  · simpa [Iv.upd, hi, hd, e10z, ea, eb] using HN.out
                · rintro f a0 yy Q' ⟨v1, v2, v3, v5, p0, p8, rfl, hw⟩ hi hd hQ
                  replace hQ := Lib.hid hQ
                  simp [Iv.depsB, Region.binds] at hd
                  try simp only [hi, hd, sl_true, sl_false, so_true, so_false]
                  try simp only [hi, sl_true, sl_false, so_true, so_false]
                  go_wp2_with fail
                  refine hQ.out _ _ ⟨v1, v2, v3, v5, p0, p8, ?_, ?_⟩
                  · simp [Iv.upd, hi, hd, sl_true, sl_false, so_true, so_false]
                  · simpa [Iv.upd, hi, hd] using hw
                · rintro f a0 yy Q' ⟨v1, v2, v3, v5, p0, p8, rfl, hw⟩ hi hd hQ
                  replace hQ := Lib.hid hQ
                  simp [Iv.depsB, Region.binds] at hd
                  try simp only [hi, hd, sl_true, sl_false, so_true, so_false]
                  try simp only [hi, sl_true, sl_false, so_true, so_false]
                  have ez : f 3 = true := by simp [hd]
                  obtain ⟨Av, cv, hv, -⟩ := own_slice0 (hw.1.g.n1 ez)
                  subst hv
                  have ea : f 3 = true := by simp [hd]
                  have eb : f 15 = true := by simp [hd]
                  have hw2 := hw
                  rw [hi, ea] at hw2
                  have kx := hw2.1.g.box
                  have t9 := kx.cell 0
                  have d9 := kx.free 0
                  have tz9 := kx.lt
                  simp only [Bool.false_eq_true, ↓reduceIte, List.getElem?_toArray, List.getElem?_cons_zero, List.getElem?_cons_succ] at t9
                  have HN := Lib.hid (show _ ∧ _ ∧ _ ∧ _ from ⟨hw2.1.setH, hw2.2⟩)
                  clear kx hw2
                  try simp only [ea, eb, so_true, so_false]
                  go_wp2_with fail
                  refine hQ.out _ _ ⟨.slice Av (withoutR HC y).length cv, v2, v3, v5, p0, p8, ?_, ?_⟩
                  · simp [Iv.upd, hi, hd, sl_true, sl_false, so_true, so_false, ea, eb]
                  · simpa [Iv.upd, hi, hd, ea, eb] using HN.out
                · rintro f a0 yy Q' ⟨v1, v2, v3, v5, p0, p8, rfl, hw⟩ hi hd hQ
                  replace hQ := Lib.hid hQ
                  simp [Iv.depsB, Region.binds] at hd
                  try simp only [hi, hd, sl_true, sl_false, so_true, so_false]
                  try simp only [hi, sl_true, sl_false, so_true, so_false]
                  go_wp2_with fail
                  refine hQ.out _ _ ⟨v1, v2, v3, v5, p0, p8, ?_, ?_⟩
                  · simp [Iv.upd, hi, hd, sl_true, sl_false, so_true, so_false]
                  · simpa [Iv.upd, hi, hd] using hw
                · rintro f a0 yy Q' ⟨v1, v2, v3, v5, p0, p8, rfl, hw⟩ hi hd hQ
                  replace hQ := Lib.hid hQ
                  simp [Iv.depsB, Region.binds] at hd
                  try simp only [hi, hd, sl_true, sl_false, so_true, so_false]
                  try simp only [hi, sl_true, sl_false, so_true, so_false]
                  have ez : f 7 = true := by simp [hd]
                  obtain ⟨Av, cv, hv, -⟩ := own_slice0 (hw.1.g.n2 ez)
                  subst hv
                  have ea : f 7 = true := by simp [hd]
                  have eb : f 17 = true := by simp [hd]
                  have hw2 := hw
                  rw [hi, ea] at hw2
                  have kx := hw2.1.g.box
                  have t9 := kx.cell 1
                  have d9 := kx.free 1
                  have tz9 := kx.lt
                  simp only [Bool.false_eq_true, ↓reduceIte, List.getElem?_toArray, List.getElem?_cons_zero, List.getElem?_cons_succ] at t9
                  have HN := Lib.hid (show _ ∧ _ ∧ _ ∧ _ from ⟨hw2.1.setW, hw2.2⟩)
                  clear kx hw2
                  try simp only [ea, eb, so_true, so_false]
                  go_wp2_with fail
                  refine hQ.out _ _ ⟨v1, .slice Av (withoutR WC y).length cv, v3, v5, p0, p8, ?_, ?_⟩
                  · simp [Iv.upd, hi, hd, sl_true, sl_false, so_true, so_false, ea, eb]
                  · simpa [Iv.upd, hi, hd, ea, eb] using HN.out
                · rintro f a0 yy Q' ⟨v1, v2, v3, v5, p0, p8, rfl, hw⟩ hi hd hQ
                  replace hQ := Lib.hid hQ
                  simp [Iv.depsB, Region.binds] at hd
                  try simp only [hi, hd, sl_true, sl_false, so_true, so_false]
                  try simp only [hi, sl_true, sl_false, so_true, so_false]
                  go_wp2_with fail
                  refine hQ.out _ _ ⟨v1, v2, v3, v5, p0, p8, ?_, ?_⟩
                  · simp [Iv.upd, hi, hd, sl_true, sl_false, so_true, so_false]
                  · simpa [Iv.upd, hi, hd] using hw
                · rintro f a0 yy Q' ⟨v1, v2, v3, v5, p0, p8, rfl, hw⟩ hi hd hQ
                  replace hQ := Lib.hid hQ
                  simp [Iv.depsB, Region.binds] at hd
                  try simp only [hi, hd, sl_true, sl_false, so_true, so_false]
                  try simp only [hi, sl_true, sl_false, so_true, so_false]
                  have ez : f 14 = true := by simp [hd]
                  obtain ⟨Av, cv, hv, -⟩ := own_slice0 (hw.1.g.n3 ez)
                  subst hv
                  have ea : f 14 = true := by simp [hd]
                  have eb : f 19 = true := by simp [hd]
                  have hw2 := hw
                  rw [hi, ea] at hw2
                  have kx := hw2.1.g.box
                  have t9 := kx.cell 2
                  have d9 := kx.free 2
                  have tz9 := kx.lt
                  simp only [Bool.false_eq_true, ↓reduceIte, List.getElem?_toArray, List.getElem?_cons_zero, List.getElem?_cons_succ] at t9
                  have HN := Lib.hid (show _ ∧ _ ∧ _ ∧ _ from ⟨hw2.1.setD, hw2.2⟩)
                  clear kx hw2
                  try simp only [ea, eb, so_true, so_false]
                  go_wp2_with fail
                  refine hQ.out _ _ ⟨v1, v2, .slice Av (DC ++ [y]).length cv, v5, p0, p8, ?_, ?_⟩
                  · simp [Iv.upd, hi, hd, sl_true, sl_false, so_true, so_false, ea, eb]
                  · simpa [Iv.upd, hi, hd, ea, eb] using HN.out
              · rintro f a0 yz ⟨v1, v2, v3, v5, p0, p8, rfl, hw⟩ hall
                simp only [hall 0 (by decide), hall 1 (by decide), hall 2 (by decide), hall 3 (by decide), hall 4 (by decide), hall 5 (by decide), hall 6 (by decide), hall 7 (by decide), hall 8 (by decide), hall 9 (by decide), hall 10 (by decide), hall 11 (by decide), hall 12 (by decide), hall 13 (by decide), hall 14 (by decide), hall 15 (by decide), hall 16 (by decide), hall 17 (by decide), hall 18 (by decide), hall 19 (by decide), hall 20 (by decide), sl_true, ↓reduceIte, so_true, so_false] at hw ⊢
                clear hall
                have HT := Lib.hid (hw.1.g.fin HBB.out)
                have HWO := Lib.hid hw.1.wo
                have hwl := HWL.out
                clear hw
                go_wp2_with fail
                go_roundw
                case rel => exact ⟨c + 1, _, _, _, by omega, by go_num, by rw [HN1.out, HN2.out, HN3.out]; exact HT.out, HWO.out⟩
                case measure => simp [intOf]; omega
            · obtain rfl : c = wd.length := by omega
              have i1 : ¬ (wd.length : Int) < (wd.length : Int) := by omega
              rw [List.take_length] at HGK HKL HKL2 s0 s1 s2
              generalize hHC : killR wd H = HC at *
              generalize hWC : killR wd W = WC at *
              generalize D ++ wd = DC at *
              clear hHC hWC
              have kx := HGK.out.st.knows.at 1 rfl
              have x0 := kx.cell 0
              have x1 := kx.cell 1
              have x2 := kx.cell 2
              have xz := kx.lt
              simp only [List.getElem?_toArray, List.getElem?_cons_zero, List.getElem?_cons_succ] at x0 x1 x2
              clear kx
              go_wp2_with fail
              refine (rput_any (.slice A2 WC.length c2) WC ⟨x, k, b⟩ wr B HGK.out.hw (by have := HKL2.out; omega)).mono ?_
              rintro e w2 ⟨vp, rfl, hop, hb⟩
              have HPL := Lib.hid (putR_len ⟨x, k, b⟩ WC)
              have hg2 := HGK.out.call hb
              have HO2 := Lib.hid (own_call HOK.out hb)
              obtain ⟨A5, c5, rfl, -⟩ := own_slice0 hop
              have HG2 := Lib.hid (hg2.set1 (own_lessB hop (Nat.le_trans HBB.out HGK.out.st.below.size)))
              have HO2' := Lib.hid (own_set (p := w.heap.size) (i := 1) (u := .slice A5 (putR ⟨x, k, b⟩ WC).length c5) HO2.out (own_kind HO2.out hg2.box (by decide)))
              generalize hPW : putR ⟨x, k, b⟩ WC = PW at *
              clear hPW s0 s1 s2 r0 r1 r2 sz
              obtain ⟨s0, s1, s2, r0, r1, r2, sz⟩ := hg2.cells
              clear hg2 hop hb HGK HOK HO2
              go_upto_region 28 with fail
              generalize hw3 : w2.setCell ⟨w.heap.size, 1, none⟩ (.slice A5 PW.length c5) = w3 at *
              clear hw3 s0 s1 s2 r0 r1 r2 sz x0 x1 x2 xz
              obtain ⟨s0, s1, s2, r0, r1, r2, sz⟩ := HG2.out.cells
              go_wp2_with fail
              refine (docGive_any B (.slice A1 HC.length c1) (.slice A5 PW.length c5) A3 DC.length c3 HC PW w3 (Nat.le_trans HBB.out HG2.out.st.below.size) HG2.out.hh HG2.out.hw (by have := HKL.out; omega) (by have := HPL.out; have := HKL2.out; omega)).mono ?_
              rintro e yg ⟨vh, vw, vo, rfl, k1, k2, k3, hb⟩
              have HGL := Lib.hid (giveR_len HC PW)
              generalize giveR HC PW = G at *
              obtain ⟨G1, G2, G3⟩ := G
              dsimp only at *
              have HTG := Lib.hid (HG2.out.call hb)
              have ho9 := own_call HO2'.out hb
              obtain ⟨A6, c6, rfl, -⟩ := own_slice0 k1
              obtain ⟨A7, c7, rfl, -⟩ := own_slice0 k2
              obtain ⟨A8, c8, rfl, -⟩ := own_slice0 k3
              have HS3 := Lib.hid (HTG.out.set3 k1 k2 HTG.out.hd)
              have hk3 := own_kind k3 HTG.out.box (by decide)
              have hk9 := own_kind ho9 HTG.out.box (by decide)
              have HZ9 : Hid (w.heap.size ≤ w3.heap.size) := Lib.hid HG2.out.st.below.size
              have HO3 := Lib.hid (own_lessB (own_set (i := 2) (u := .slice A3 DC.length c3) (own_set (i := 1) (u := .slice A7 G2.length c7) (own_set (i := 0) (u := .slice A6 G1.length c6) k3 hk3) hk3) hk3) HZ9.out)
              have HO9 := Lib.hid (own_set (i := 2) (u := .slice A3 DC.length c3) (own_set (i := 1) (u := .slice A7 G2.length c7) (own_set (i := 0) (u := .slice A6 G1.length c6) ho9 hk9) hk9) hk9)
              clear s0 s1 s2 r0 r1 r2 sz k1 k2 k3 hb ho9 hk3 hk9 HO2'
              obtain ⟨s0, s1, s2, r0, r1, r2, sz⟩ := HTG.out.cells
              go_upto_region 29 with fail
              clear s0 s1 s2 r0 r1 r2 sz HTG HG2
              generalize hyk : ((yg.setCell ⟨w.heap.size, 0, none⟩ (.slice A6 G1.length c6)).setCell ⟨w.heap.size, 1, none⟩ (.slice A7 G2.length c7)).setCell ⟨w.heap.size, 2, none⟩ (.slice A3 DC.length c3) = yk at *
              clear hyk
              go_wp2_with fail
              go_loopw [19] (fun j wr => ∃ (c : Nat) (vk : Value), c ≤ G3.length ∧ j = .int .i64 (c : Int) ∧ Ts w wr [(q1, 34, #[.bool ((G3.take c).any fun p => p.1 == x), .slice Ad wd.length cd, vk]), (q, 74, #[.int .i64 x, .int .i64 k, .bool b]), (w.heap.size + 1 + 1, 34, #[.bool false, .slice none 0 0, .slice none 0 0]), (w.heap.size + 1, 28, #[.slice none 0 0, .slice none 0 0, .slice none 0 0])] B w.heap.size (.slice A6 G1.length c6) (.slice A7 G2.length c7) (.slice A3 DC.length c3) G1 G2 DC ∧ OwD wr w.heap.size (.slice Ad wd.length cd) wd ∧ OwG wr w.heap.size (.slice A8 G3.length c8) G3 ∧ OwG wr w.heap.size vk ((G3.take c).filter fun p => p.1 != x) ∧ (∀ b, vk.ownBlock = some b → (Value.slice A8 G3.length c8).ownBlock ≠ some b)) (fun j _ => G3.length - (intOf j).toNat)
              case atStart => exact ⟨0, .slice none 0 0, by omega, rfl, HS3.out, HO9.out, HO3.out, own_zero3 _ _ _ _, fun b hb => by simp [Value.ownBlock] at hb⟩
              case round =>
                obtain ⟨c, vk, hc, rfl, hg, ho, hoo, hok, hfar⟩ := hrel
                clear HS3 HO9 HO3
                have HG := Lib.hid hg
                have HO := Lib.hid ho
                have HOO := Lib.hid hoo
                have HFR := Lib.hid hfar
                obtain ⟨Ak, ck, rfl, -⟩ := own_slice0 hok
                have HOK := Lib.hid hok
                obtain ⟨gl1, gl2, gl3⟩ := HGL.out
                have hgb : G3.length ≤ 20000 := by have := HPL.out; have := HKL2.out; omega
                clear hg ho hoo hok hfar
                by_cases hlt : c < G3.length
                · obtain ⟨y, hy⟩ : ∃ y, G3[c]? = some y := ⟨_, List.getElem?_eq_getElem hlt⟩
                  obtain ⟨b0, off, rfl, hbb, hcc⟩ := (Sees.own HOO.out).item encG_len (by omega) c y hy
                  have p0 := hcc 0 _ rfl
                  have p1 := hcc 1 _ rfl
                  rw [Nat.add_zero] at p0
                  have i1 : (c : Int) < (G3.length : Int) := by omega
                  have HTN := Lib.hid (take_next hy)
                  obtain ⟨y1', y2'⟩ := y
                  dsimp only at *
                  have HY := Lib.hid hy
                  clear hcc hy
                  have ku := HG.out.st.knows.at 0 rfl
                  have u0 := ku.cell 0
                  have u2 := ku.cell 2
                  have v0 := ku.free 0
                  have v2 := ku.free 2
                  have uz := ku.lt
                  simp only [List.getElem?_toArray, List.getElem?_cons_zero, List.getElem?_cons_succ] at u0 u2
                  by_cases e1 : y1' = x
                  · have n1 : (y1' == x) = true := by simpa using e1
                    have HAN : Hid ((G3.take (c + 1)).any (fun p => p.1 == x) = true) := Lib.hid (by rw [HTN.out, List.any_append]; simp [n1])
                    have HFN : Hid ((G3.take (c + 1)).filter (fun p => p.1 != x) = (G3.take c).filter fun p => p.1 != x) := Lib.hid (by rw [HTN.out, List.filter_append]; simp [e1])
                    have HS := Lib.hid (HG.out.set0 HLW.out HD4.out (by decide) (by decide) 0 (.bool true))
                    have HO' := Lib.hid (own_set (p := q1) (i := 0) (u := .bool true) HO.out (own_kind HO.out ku (by decide)))
                    have HOO' := Lib.hid (own_set (p := q1) (i := 0) (u := .bool true) HOO.out (own_kind HOO.out ku (by decide)))
                    have HOK' := Lib.hid (own_set (p := q1) (i := 0) (u := .bool true) HOK.out (own_kind HOK.out ku (by decide)))
                    clear ku hbb HTN
                    have e1' := e1.symm
                    subst e1'
                    clear e1
                    go_wp2_with fail
                    go_roundw
                    case rel => exact ⟨c + 1, .slice Ak ((G3.take c).filter fun p => p.1 != x).length ck, by omega, by go_num, by rw [HAN.out]; exact HS.out, HO'.out, HOO'.out, by rw [HFN.out]; exact HOK'.out, HFR.out⟩
                    case measure => simp [intOf]; omega
                  · have n1 : (y1' == x) = false := by simpa using e1
                    have HAN : Hid ((G3.take (c + 1)).any (fun p => p.1 == x) = (G3.take c).any fun p => p.1 == x) := Lib.hid (by rw [HTN.out, List.any_append]; simp [n1])
                    have HFN : Hid ((G3.take (c + 1)).filter (fun p => p.1 != x) = (G3.take c).filter (fun p => p.1 != x) ++ [(y1', y2')]) := Lib.hid (by rw [HTN.out, List.filter_append]; simp [e1])
                    have HKK : Hid (((G3.take c).filter fun p => p.1 != x).length ≤ 100000) := Lib.hid (Nat.le_trans (List.length_filter_le _ _) (by have := HPL.out; have := HKL2.out; rw [List.length_take]; omega))
                    have HCE : Hid (∀ z, Below wr.heap.size wr z → z.cell? ⟨b0, off + c * 2, none⟩ = some (.int .i64 y1') ∧ z.cell? ⟨b0, off + c * 2 + 1, none⟩ = some (.int .i64 y2')) := Lib.hid fun z hz => ⟨(hz.cell hbb).trans p0, (hz.cell hbb).trans p1⟩
                    generalize (G3.take c).filter (fun p => p.1 != x) = us at *
                    generalize (G3.take c).any (fun p => p.1 == x) = gr at *
                    clear ku hbb HTN
                    have HGV := Lib.hid (fun wz (hz : Below wr.heap.size wr wz) v3 x1 x2 p8 => Gv.start (HG.out.call hz) (own_call HO.out hz) (own_call HOO.out hz) (own_call HOK.out hz) HFR.out ⟨HLW.out, HD4.out, fun r hr => by simp only [List.mem_cons, List.not_mem_nil, or_false] at hr; rcases hr with rfl | rfl | rfl <;> (dsimp only; decide)⟩ v3 x1 x2 p8)
                    go_wp2_with fail
                    refine Iv.region (fun f aa yy => ∃ v3 p8, aa = ⟨#[.agg #[.slice AH H.length cH, .slice AW W.length cW, .slice AD D.length cD], .int .i64 x, .int .i64 k, .bool b, .pointer (some ⟨w.heap.size, 0, none⟩), undef, undef, undef, .pointer (some ⟨w.heap.size + 1, 0, none⟩), .pointer (some ⟨w.heap.size + 1 + 1, 0, none⟩), u10, .int .i64 (W.length : Int), .pointer (some ⟨q, 0, none⟩), .pointer (some ⟨q1, 0, none⟩), .int .i64 (H.length : Int), u15, undef, u17, .slice (some ⟨b0, off, none⟩) G3.length c8, .int .i64 (c : Int), .int .i64 x, .bool false, undef, undef, .int .i64 k, .bool false, .bool false, .int .i64 k, .bool false, .bool false, undef, undef, .pointer (some ⟨w.heap.size, 2, none⟩), .slice AD D.length cD, .int .i64 x, .bool false, undef, undef, .int .i64 (W.length : Int), .pointer (some ⟨w.heap.size, 1, none⟩), .slice AW W.length cW, .int .i64 (W.length : Int), .bool false, u43, u44, u45, u46, u47, u48, u49, u50, u51, u52, u53, u54, .int .i64 x, .int .i64 k, .bool b, .agg #[.int .i64 x, .int .i64 k, .bool b], .agg #[.bool false, .slice none 0 0, .slice none 0 0], .int .i64 (H.length : Int), .pointer (some ⟨w.heap.size, 0, none⟩), .slice AH H.length cH, .int .i64 (H.length : Int), .bool false, u65, u66, u67, u68, u69, u70, u71, u72, u73, u74, u75, u76, u77, u78, u79, u80, u81, u82, u83, u84, u85, u86, u87, u88, u89, u90, u91, u92, u93, u94, u95, u96, u97, u98, u99, u100, u101, u102, u103, u104, u105, u106, u107, u108, u109, u110, u111, u112, u113, u114, .pointer (some ⟨q1, 1, none⟩), .slice Ad wd.length cd, .int .i64 (wd.length : Int), .int .i64 (wd.length : Int), .bool false, u120, u121, u122, u123, u124, u125, u126, u127, u128, u129, u130, u131, u132, u133, u134, u135, u136, u137, u138, u139, u140, .pointer (some ⟨w.heap.size, 1, none⟩), .slice A2 WC.length c2, .agg #[.int .i64 x, .int .i64 k, .bool b], .slice A5 PW.length c5, .pointer (some ⟨w.heap.size, 1, none⟩), .tuple #[.agg #[.slice A6 G1.length c6, .slice A7 G2.length c7, .slice A3 DC.length c3], .slice (some ⟨b0, off, none⟩) G3.length c8], .agg #[.slice A1 HC.length c1, .slice A5 PW.length c5, .slice A3 DC.length c3], .tuple #[.agg #[.slice A6 G1.length c6, .slice A7 G2.length c7, .slice A3 DC.length c3], .slice (some ⟨b0, off, none⟩) G3.length c8], .agg #[.slice A6 G1.length c6, .slice A7 G2.length c7, .slice A3 DC.length c3], .slice (some ⟨b0, off, none⟩) G3.length c8, .int .i64 (c : Int), .slice (some ⟨b0, off, none⟩) G3.length c8, .int .i64 (G3.length : Int), .bool true, u155, u156, .slice (some ⟨b0, off, none⟩) G3.length c8, .int .i64 (c : Int), .pointer (some ⟨b0, off + c * 2, none⟩), .pointer (some ⟨b0, off + c * 2, none⟩), .int .i64 y1', .int .i64 x, .bool false, u164, so (f 0) (.pointer (some ⟨q1, 2, none⟩)) (u165), so (f 1) (.slice Ak us.length ck) (u166), so (f 2) (.slice (some ⟨b0, off, none⟩) G3.length c8) (u167), so (f 3) (.int .i64 (c : Int)) (u168), so (f 4) (.pointer (some ⟨b0, off + c * 2, none⟩)) (u169), so (f 5) (.agg #[.int .i64 y1', .int .i64 y2']) (u170), so (f 6) (.slice (some ⟨p8, 0, none⟩) 1 1) (u171), so (f 7) (v3) (u172), so (f 8) (.pointer (some ⟨q1, 2, none⟩)) (u173), undef, undef], []⟩ ∧ Gv w yy [(q, 74, #[.int .i64 x, .int .i64 k, .bool b]), (w.heap.size + 1 + 1, 34, #[.bool false, .slice none 0 0, .slice none 0 0]), (w.heap.size + 1, 28, #[.slice none 0 0, .slice none 0 0, .slice none 0 0])] B w.heap.size q1 gr (.slice Ad wd.length cd) (.slice Ak us.length ck) v3 (.slice (some ⟨b0, off, none⟩) G3.length c8) (.slice A6 G1.length c6) (.slice A7 G2.length c7) (.slice A3 DC.length c3) G1 G2 DC wd G3 us y1' y2' p8 (f 6) (f 7) (f 9) ∧ (f 7 = true → f 1 = true)) (by kernel_rfl) (by kernel_rfl) ?_ ?_ ?_
                    · exact ⟨undef, 0, rfl, ⟨HGV.out _ (drew_below wr 1) undef y1' y2' 0, fun h => by cases h⟩⟩
                    · refine ⟨?_, ?_, ?_, ?_, ?_, ?_, ?_, ?_, ?_, ?_, trivial⟩
                      · rintro f a0 yy Q' ⟨v3, p8, rfl, hw⟩ hi hd hQ
                        replace hQ := Lib.hid hQ
                        simp [Iv.depsB, Region.binds] at hd
                        try simp only [hi, hd, sl_true, sl_false, so_true, so_false]
                        try simp only [hi, sl_true, sl_false, so_true, so_false]
                        go_wp2_with fail
                        refine hQ.out _ _ ⟨v3, p8, ?_, ?_⟩
                        · simp [Iv.upd, hi, hd, sl_true, sl_false, so_true, so_false]
                        · simpa [Iv.upd, hi, hd] using hw
                      · rintro f a0 yy Q' ⟨v3, p8, rfl, hw⟩ hi hd hQ
                        replace hQ := Lib.hid hQ
                        simp [Iv.depsB, Region.binds] at hd
                        try simp only [hi, hd, sl_true, sl_false, so_true, so_false]
                        try simp only [hi, sl_true, sl_false, so_true, so_false]
                        have ez : f 9 = false := by
                          cases e : f 9 with
                          | false => rfl
                          | true => have h1 := hw.2 (hw.1.ord.1 e); rw [hi] at h1; cases h1
                        have kx := hw.1.t.st.knows.at 0 rfl
                        rw [ez] at kx
                        have t9 := kx.cell 2
                        have tz9 := kx.lt
                        simp only [Bool.false_eq_true, ↓reduceIte, List.getElem?_toArray, List.getElem?_cons_zero, List.getElem?_cons_succ] at t9
                        clear kx
                        go_wp2_with fail
                        refine hQ.out _ _ ⟨v3, p8, ?_, ?_⟩
                        · simp [Iv.upd, hi, hd, sl_true, sl_false, so_true, so_false]
                        · simpa [Iv.upd, hi, hd] using hw.1
                      · rintro f a0 yy Q' ⟨v3, p8, rfl, hw⟩ hi hd hQ
                        replace hQ := Lib.hid hQ
                        simp [Iv.depsB, Region.binds] at hd
                        try simp only [hi, hd, sl_true, sl_false, so_true, so_false]
                        try simp only [hi, sl_true, sl_false, so_true, so_false]
                        go_wp2_with fail
                        refine hQ.out _ _ ⟨v3, p8, ?_, ?_⟩
                        · simp [Iv.upd, hi, hd, sl_true, sl_false, so_true, so_false]
                        · simpa [Iv.upd, hi, hd] using hw
                      · rintro f a0 yy Q' ⟨v3, p8, rfl, hw⟩ hi hd hQ
                        replace hQ := Lib.hid hQ
                        simp [Iv.depsB, Region.binds] at hd
                        try simp only [hi, hd, sl_true, sl_false, so_true, so_false]
                        try simp only [hi, sl_true, sl_false, so_true, so_false]
                        go_wp2_with fail
                        refine hQ.out _ _ ⟨v3, p8, ?_, ?_⟩
                        · simp [Iv.upd, hi, hd, sl_true, sl_false, so_true, so_false]
                        · simpa [Iv.upd, hi, hd] using hw
                      · rintro f a0 yy Q' ⟨v3, p8, rfl, hw⟩ hi hd hQ
                        replace hQ := Lib.hid hQ
                        simp [Iv.depsB, Region.binds] at hd
                        try simp only [hi, hd, sl_true, sl_false, so_true, so_false]
                        try simp only [hi, sl_true, sl_false, so_true, so_false]
                        go_wp2_with fail
                        refine hQ.out _ _ ⟨v3, p8, ?_, ?_⟩
                        · simp [Iv.upd, hi, hd, sl_true, sl_false, so_true, so_false]
                        · simpa [Iv.upd, hi, hd] using hw
                      · rintro f a0 yy Q' ⟨v3, p8, rfl, hw⟩ hi hd hQ
                        replace hQ := Lib.hid hQ
                        simp [Iv.depsB, Region.binds] at hd
                        try simp only [hi, hd, sl_true, sl_false, so_true, so_false]
                        try simp only [hi, sl_true, sl_false, so_true, so_false]
                        have kc := (Sees.own hw.1.vo).item encG_len (by omega) c (y1', y2') HY.out
                        obtain ⟨b9, off9, hA9, hb9, hc9⟩ := kc
                        injection hA9 with hA9
                        injection hA9 with hA9 hA10
                        subst hA9 hA10
                        have t0 := hc9 0 _ rfl
                        have t1 := hc9 1 _ rfl
                        rw [Nat.add_zero] at t0
                        clear hc9 hb9
                        go_wp2_with fail
                        refine hQ.out _ _ ⟨v3, p8, ?_, ?_⟩
                        · simp [Iv.upd, hi, hd, sl_true, sl_false, so_true, so_false]
                        · simpa [Iv.upd, hi, hd] using hw
                      · rintro f a0 yy Q' ⟨v3, p8, rfl, hw⟩ hi hd hQ
                        replace hQ := Lib.hid hQ
                        simp [Iv.depsB, Region.binds] at hd
                        try simp only [hi, hd, sl_true, sl_false, so_true, so_false]
                        try simp only [hi, sl_true, sl_false, so_true, so_false]
                        have hw2 := hw
                        rw [hi] at hw2
                        go_wp2_with fail
                        refine hQ.out _ _ ⟨v3, yy.heap.size, ?_, ?_⟩
                        · simp [Iv.upd, hi, hd, sl_true, sl_false, so_true, so_false]
                        · simpa [Iv.upd, hi, hd] using (show _ ∧ _ from ⟨hw2.1.make, hw2.2⟩)
                      · rintro f a0 yy Q' ⟨v3, p8, rfl, hw⟩ hi hd hQ
                        replace hQ := Lib.hid hQ
                        simp [Iv.depsB, Region.binds] at hd
                        try simp only [hi, hd, sl_true, sl_false, so_true, so_false]
                        try simp only [hi, sl_true, sl_false, so_true, so_false]
                        have ea : f 1 = true := by simp [hd]
                        have eb : f 6 = true := by simp [hd]
                        have hw2 := hw
                        rw [hi, eb] at hw2
                        have HW2 := Lib.hid hw2
                        clear hw2
                        try simp only [ea, eb, so_true, so_false]
                        refine wpList_appAt rfl (.tmp 166) (.tmp 171) _ 57 _ 2 16 rfl info_grant Try.underlying32 rfl (by decide) w.heap.size _ us.length (flat encG us) (by rfl) (HW2.out.1.old rfl) (p8 + 1) (some ⟨p8, 0, none⟩) 1 1 (flat encG [(y1', y2')]) (by rfl) (sees_whole (HW2.out.1.item rfl rfl) rfl rfl) (fun h => by cases h) (encG_one _) (by have := HKK.out; omega) (by have := HKK.out; omega) HW2.out.1.t.st.below.size ?_
                        intro vn yn ho hg hv
                        rw [← flat_append] at ho
                        have ho : OwG yn w.heap.size vn (us ++ [(y1', y2')]) := by rw [OwG, List.length_append]; exact ho
                        have HN := Lib.hid (HW2.out.1.app ho hg hv)
                        clear ho hg hv
                        go_wp2_with fail
                        refine hQ.out _ _ ⟨vn, p8, ?_, ?_⟩
                        · simp [Iv.upd, hi, hd, sl_true, sl_false, so_true, so_false, ea, eb]
                        · simpa [Iv.upd, hi, hd, ea, eb] using HN.out
                      · rintro f a0 yy Q' ⟨v3, p8, rfl, hw⟩ hi hd hQ
                        replace hQ := Lib.hid hQ
                        simp [Iv.depsB, Region.binds] at hd
                        try simp only [hi, hd, sl_true, sl_false, so_true, so_false]
                        try simp only [hi, sl_true, sl_false, so_true, so_false]
                        go_wp2_with fail
                        refine hQ.out _ _ ⟨v3, p8, ?_, ?_⟩
                        · simp [Iv.upd, hi, hd, sl_true, sl_false, so_true, so_false]
                        · simpa [Iv.upd, hi, hd] using hw
                      · rintro f a0 yy Q' ⟨v3, p8, rfl, hw⟩ hi hd hQ
                        replace hQ := Lib.hid hQ
                        simp [Iv.depsB, Region.binds] at hd
                        try simp only [hi, hd, sl_true, sl_false, so_true, so_false]
                        try simp only [hi, sl_true, sl_false, so_true, so_false]
                        have ez : f 7 = true := by simp [hd]
                        obtain ⟨Av, cv, hv, -⟩ := own_slice0 (hw.1.new ez)
                        subst hv
                        have ea : f 7 = true := by simp [hd]
                        have eb : f 8 = true := by simp [hd]
                        have hw2 := hw
                        rw [hi, ea] at hw2
                        have kx := hw2.1.t.st.knows.at 0 rfl
                        have t9 := kx.cell 2
                        have d9 := kx.free 2
                        have tz9 := kx.lt
                        simp only [Bool.false_eq_true, ↓reduceIte, List.getElem?_toArray, List.getElem?_cons_zero, List.getElem?_cons_succ] at t9
                        have HN := Lib.hid (show _ ∧ _ from ⟨hw2.1.store, hw2.2⟩)
                        clear kx hw2
                        try simp only [ea, eb, so_true, so_false]
                        go_wp2_with fail
                        refine hQ.out _ _ ⟨.slice Av (us ++ [(y1', y2')]).length cv, p8, ?_, ?_⟩
                        · simp [Iv.upd, hi, hd, sl_true, sl_false, so_true, so_false, ea, eb]
                        · simpa [Iv.upd, hi, hd, ea, eb] using HN.out
                    · rintro f a0 yz ⟨v3, p8, rfl, hw⟩ hall
                      simp only [hall 0 (by decide), hall 1 (by decide), hall 2 (by decide), hall 3 (by decide), hall 4 (by decide), hall 5 (by decide), hall 6 (by decide), hall 7 (by decide), hall 8 (by decide), hall 9 (by decide), sl_true, ↓reduceIte, so_true, so_false] at hw ⊢
                      clear hall
                      have HV := Lib.hid hw.1
                      clear hw
                      go_wp2_with fail
                      go_roundw
                      case rel => exact ⟨c + 1, _, by omega, by go_num, by rw [HAN.out]; exact HV.out.t, HV.out.wo, HV.out.vo, by rw [HFN.out]; exact HV.out.new rfl, HV.out.far3 rfl⟩
                      case measure => simp [intOf]; omega
                · obtain rfl : c = G3.length := by omega
                  have i1 : ¬ (G3.length : Int) < (G3.length : Int) := by omega
                  rw [List.take_length] at HG HOK
                  generalize G3.any (fun p => p.1 == x) = gr at *
                  generalize G3.filter (fun p => p.1 != x) = us at *
                  have HGX : Hid (∀ wz, Below wr.heap.size wr wz → Gx w wz [(q1, 34, #[.bool gr, .slice Ad wd.length cd, .slice Ak us.length ck]), (q, 74, #[.int .i64 x, .int .i64 k, .bool b])] B w.heap.size (w.heap.size + 1 + 1) (w.heap.size + 1) (.bool gr, .slice Ad wd.length cd, .slice Ak us.length ck) (.slice A6 G1.length c6, .slice A7 G2.length c7, .slice A3 DC.length c3) #[.bool false, .slice none 0 0, .slice none 0 0] #[.slice none 0 0, .slice none 0 0, .slice none 0 0] (.slice A6 G1.length c6) (.slice A7 G2.length c7) (.slice A3 DC.length c3) G1 G2 DC (.slice Ad wd.length cd) (.slice Ak us.length ck) wd us false false) := Lib.hid fun wz hz =>
                    ⟨(HG.out.call hz).few fun r hr => (by
                      simp only [List.mem_cons, List.not_mem_nil, or_false, Bool.false_eq_true, ↓reduceIte] at hr ⊢
                      rcases hr with h | h | h | h
                      · exact .inr (.inr (.inl h))
                      · exact .inr (.inr (.inr h))
                      · exact .inl h
                      · exact .inr (.inl h)), own_call HO.out hz, own_call HOK.out hz, ⟨by omega, by omega⟩, by omega, fun r hr => (by
                      have := HQD.out
                      simp only [List.mem_cons, List.not_mem_nil, or_false] at hr
                      rcases hr with rfl | rfl <;> (dsimp only; omega)), rfl, rfl⟩
                  obtain ⟨s0, s1, s2, r0, r1, r2, sz⟩ := HG.out.cells
                  have ku := HG.out.st.knows.at 0 rfl
                  have u0 := ku.cell 0
                  have u1 := ku.cell 1
                  have u2 := ku.cell 2
                  have uz := ku.lt
                  simp only [List.getElem?_toArray, List.getElem?_cons_zero, List.getElem?_cons_succ] at u0 u1 u2
                  clear ku
                  go_wp2_with fail
                  refine Iv.region (fun f aa yy => aa = ⟨#[.agg #[.slice AH H.length cH, .slice AW W.length cW, .slice AD D.length cD], .int .i64 x, .int .i64 k, .bool b, .pointer (some ⟨w.heap.size, 0, none⟩), undef, undef, undef, .pointer (some ⟨w.heap.size + 1, 0, none⟩), .pointer (some ⟨w.heap.size + 1 + 1, 0, none⟩), so (f 4) (.int .i64 0) (u10), .int .i64 (W.length : Int), .pointer (some ⟨q, 0, none⟩), .pointer (some ⟨q1, 0, none⟩), .int .i64 (H.length : Int), u15, undef, u17, .slice A8 G3.length c8, .int .i64 (G3.length : Int), .int .i64 x, .bool false, undef, undef, .int .i64 k, .bool false, .bool false, .int .i64 k, .bool false, .bool false, undef, undef, .pointer (some ⟨w.heap.size, 2, none⟩), .slice AD D.length cD, .int .i64 x, .bool false, undef, undef, .int .i64 (W.length : Int), .pointer (some ⟨w.heap.size, 1, none⟩), .slice AW W.length cW, .int .i64 (W.length : Int), .bool false, u43, u44, u45, u46, u47, u48, u49, u50, u51, u52, u53, u54, .int .i64 x, .int .i64 k, .bool b, .agg #[.int .i64 x, .int .i64 k, .bool b], .agg #[.bool false, .slice none 0 0, .slice none 0 0], .int .i64 (H.length : Int), .pointer (some ⟨w.heap.size, 0, none⟩), .slice AH H.length cH, .int .i64 (H.length : Int), .bool false, u65, u66, u67, u68, u69, u70, u71, u72, u73, u74, u75, u76, u77, u78, u79, u80, u81, u82, u83, u84, u85, u86, u87, u88, u89, u90, u91, u92, u93, u94, u95, u96, u97, u98, u99, u100, u101, u102, u103, u104, u105, u106, u107, u108, u109, u110, u111, u112, u113, u114, .pointer (some ⟨q1, 1, none⟩), .slice Ad wd.length cd, .int .i64 (wd.length : Int), .int .i64 (wd.length : Int), .bool false, u120, u121, u122, u123, u124, u125, u126, u127, u128, u129, u130, u131, u132, u133, u134, u135, u136, u137, u138, u139, u140, .pointer (some ⟨w.heap.size, 1, none⟩), .slice A2 WC.length c2, .agg #[.int .i64 x, .int .i64 k, .bool b], .slice A5 PW.length c5, .pointer (some ⟨w.heap.size, 1, none⟩), .tuple #[.agg #[.slice A6 G1.length c6, .slice A7 G2.length c7, .slice A3 DC.length c3], .slice A8 G3.length c8], .agg #[.slice A1 HC.length c1, .slice A5 PW.length c5, .slice A3 DC.length c3], .tuple #[.agg #[.slice A6 G1.length c6, .slice A7 G2.length c7, .slice A3 DC.length c3], .slice A8 G3.length c8], .agg #[.slice A6 G1.length c6, .slice A7 G2.length c7, .slice A3 DC.length c3], .slice A8 G3.length c8, .int .i64 (G3.length : Int), .slice A8 G3.length c8, .int .i64 (G3.length : Int), .bool false, u155, u156, u157, u158, u159, u160, u161, u162, u163, u164, u165, u166, u167, u168, u169, u170, u171, u172, u173, so (f 0) (.agg #[.slice A6 G1.length c6, .slice A7 G2.length c7, .slice A3 DC.length c3]) (undef), so (f 1) (.agg #[.bool gr, .slice Ad wd.length cd, .slice Ak us.length ck]) (undef)], []⟩ ∧ Gx w yy [(q1, 34, #[.bool gr, .slice Ad wd.length cd, .slice Ak us.length ck]), (q, 74, #[.int .i64 x, .int .i64 k, .bool b])] B w.heap.size (w.heap.size + 1 + 1) (w.heap.size + 1) (.bool gr, .slice Ad wd.length cd, .slice Ak us.length ck) (.slice A6 G1.length c6, .slice A7 G2.length c7, .slice A3 DC.length c3) #[.bool false, .slice none 0 0, .slice none 0 0] #[.slice none 0 0, .slice none 0 0, .slice none 0 0] (.slice A6 G1.length c6) (.slice A7 G2.length c7) (.slice A3 DC.length c3) G1 G2 DC (.slice Ad wd.length cd) (.slice Ak us.length ck) wd us (f 2) (f 3)) (by kernel_rfl) (by kernel_rfl) ?_ ?_ ?_
                  · exact ⟨rfl, HGX.out _ (drew_below wr 1)⟩
                  · refine ⟨?_, ?_, ?_, ?_, ?_, trivial⟩
                    · rintro f a0 yy Q' ⟨rfl, hw⟩ hi hd hQ
                      replace hQ := Lib.hid hQ
                      simp [Iv.depsB, Region.binds] at hd
                      try simp only [hi, hd, sl_true, sl_false, so_true, so_false]
                      try simp only [hi, sl_true, sl_false, so_true, so_false]
                      obtain ⟨t0, t1, t2, d0, d1, d2, tz⟩ := hw.t.cells
                      go_wp2_with fail
                      refine hQ.out _ _ ⟨?_, ?_⟩
                      · simp [Iv.upd, hi, hd, sl_true, sl_false, so_true, so_false]
                      · simpa [Iv.upd, hi, hd] using hw
                    · rintro f a0 yy Q' ⟨rfl, hw⟩ hi hd hQ
                      replace hQ := Lib.hid hQ
                      simp [Iv.depsB, Region.binds] at hd
                      try simp only [hi, hd, sl_true, sl_false, so_true, so_false]
                      try simp only [hi, sl_true, sl_false, so_true, so_false]
                      have kx := hw.t.st.knows.at 2 rfl
                      have t0 := kx.cell 0
                      have t1 := kx.cell 1
                      have t2 := kx.cell 2
                      have tz := kx.lt
                      simp only [List.getElem?_toArray, List.getElem?_cons_zero, List.getElem?_cons_succ] at t0 t1 t2
                      clear kx
                      go_wp2_with fail
                      refine hQ.out _ _ ⟨?_, ?_⟩
                      · simp [Iv.upd, hi, hd, sl_true, sl_false, so_true, so_false]
                      · simpa [Iv.upd, hi, hd] using hw
                    · rintro f a0 yy Q' ⟨rfl, hw⟩ hi hd hQ
                      replace hQ := Lib.hid hQ
                      simp [Iv.depsB, Region.binds] at hd
                      try simp only [hi, hd, sl_true, sl_false, so_true, so_false]
                      try simp only [hi, sl_true, sl_false, so_true, so_false]
                      have ea : f 0 = true := by simp [hd]
                      have hw2 := hw
                      rw [hi] at hw2
                      have kx := hw2.t.st.knows.at 1 rfl
                      have t0 := kx.cell 0
                      have t1 := kx.cell 1
                      have t2 := kx.cell 2
                      have d0 := kx.free 0
                      have d1 := kx.free 1
                      have d2 := kx.free 2
                      have tz := kx.lt
                      simp only [Bool.false_eq_true, ↓reduceIte, List.getElem?_toArray, List.getElem?_cons_zero, List.getElem?_cons_succ] at t0 t1 t2
                      have HN := Lib.hid hw2.st8
                      clear kx hw2
                      try simp only [ea, so_true, so_false]
                      go_wp2_with fail
                      refine hQ.out _ _ ⟨?_, ?_⟩
                      · simp [Iv.upd, hi, hd, sl_true, sl_false, so_true, so_false, ea]
                      · simpa [Iv.upd, hi, hd, ea] using HN.out
                    · rintro f a0 yy Q' ⟨rfl, hw⟩ hi hd hQ
                      replace hQ := Lib.hid hQ
                      simp [Iv.depsB, Region.binds] at hd
                      try simp only [hi, hd, sl_true, sl_false, so_true, so_false]
                      try simp only [hi, sl_true, sl_false, so_true, so_false]
                      have ea : f 1 = true := by simp [hd]
                      have hw2 := hw
                      rw [hi] at hw2
                      have kx := hw2.t.st.knows.at 0 rfl
                      have t0 := kx.cell 0
                      have t1 := kx.cell 1
                      have t2 := kx.cell 2
                      have d0 := kx.free 0
                      have d1 := kx.free 1
                      have d2 := kx.free 2
                      have tz := kx.lt
                      simp only [Bool.false_eq_true, ↓reduceIte, List.getElem?_toArray, List.getElem?_cons_zero, List.getElem?_cons_succ] at t0 t1 t2
                      have HN := Lib.hid hw2.st9
                      clear kx hw2
                      try simp only [ea, so_true, so_false]
                      go_wp2_with fail
                      refine hQ.out _ _ ⟨?_, ?_⟩
                      · simp [Iv.upd, hi, hd, sl_true, sl_false, so_true, so_false, ea]
                      · simpa [Iv.upd, hi, hd, ea] using HN.out
                    · rintro f a0 yy Q' ⟨rfl, hw⟩ hi hd hQ
                      replace hQ := Lib.hid hQ
                      simp [Iv.depsB, Region.binds] at hd
                      try simp only [hi, hd, sl_true, sl_false, so_true, so_false]
                      try simp only [hi, sl_true, sl_false, so_true, so_false]
                      go_wp2_with fail
                      refine hQ.out _ _ ⟨?_, ?_⟩
                      · simp [Iv.upd, hi, hd, sl_true, sl_false, so_true, so_false]
                      · simpa [Iv.upd, hi, hd] using hw
                  · rintro f a0 yz ⟨rfl, hw⟩ hall
                    simp only [hall 0 (by decide), hall 1 (by decide), hall 2 (by decide), hall 3 (by decide), hall 4 (by decide), sl_true, ↓reduceIte, so_true, so_false] at hw ⊢
                    clear hall
                    have HX := Lib.hid hw
                    clear hw
                    have kx := HX.out.t.st.knows.at 1 rfl
                    have x0 := kx.cell 0
                    have x1 := kx.cell 1
                    have x2 := kx.cell 2
                    have xz := kx.lt
                    clear kx
                    have kx := HX.out.t.st.knows.at 0 rfl
                    have y0 := kx.cell 0
                    have y1 := kx.cell 1
                    have y2 := kx.cell 2
                    have yz' := kx.lt
                    clear kx
                    simp only [↓reduceIte, List.getElem?_toArray, List.getElem?_cons_zero, List.getElem?_cons_succ] at x0 x1 x2 y0 y1 y2
                    go_wp2_with fail
                    refine bodyPost_ret (by simp [results, Try.results7, go_sem, x0, x1, x2, xz, y0, y1, y2, yz']; try rfl) rfl ?_
                    rw [HR.out]
                    exact ⟨_, _, _, _, _, _, _, rfl, HX.out.t.hh, HX.out.t.hw, HX.out.t.hd, HX.out.wo, HX.out.vo, HX.out.t.st.below⟩
end Go.Proofs.Ytcjefigcaifmeaa
