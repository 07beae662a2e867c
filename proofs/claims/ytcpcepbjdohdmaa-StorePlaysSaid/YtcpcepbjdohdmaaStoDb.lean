/- Contracts at layer 12, of the document's Last, counts, Get. (Written by gstod.py.) -/
import Derived.Test.YtcpcepbjdohdmaaStoD
import Derived.Test.YtcpcepbjdohdmaaTail
namespace Go.Proofs.Ytcpcepbjdohdmaa
open Go.ChangeShapes Go.WideShapes Go.ChangeAt Go.RowKit Go.Cn Go.So
set_option linter.unusedVariables false
set_option linter.unusedSimpArgs false
set_option maxRecDepth 100000
set_option maxHeartbeats 4000000 in
theorem rlast_any (A : Option Addr) (cap : Nat) (l : List Dr) (c m k : Int) (w : World) (h : Dv w A cap l) (hl : l.length ≤ 1000000000) :
    Calls Try.prog 14 #[aggM A l.length cap c m, .int .i64 k] w fun e w' => e = .returned (.tuple #[aggV (lastV (chainOf l k)), .bool (decide (0 < (chainOf l k).length))]) ∧ Below w.heap.size w w' := by
  have H := Lib.hid ((((St.start w).alloc w.heap.size rfl 27 #[.slice A l.length cap, .int .i64 c, .int .i64 m]).alloc (w.heap.size + 1) (by simp) 36 #[.int .i64 0, .int .i64 0]).alloc (w.heap.size + 1 + 1) (by simp) 36 #[.int .i64 0, .int .i64 0])
  have HD := Lib.hid h
  have hroom := h.room
  have htop := h.top
  clear h
  go_enter Try.func14, Try.ntmps14
  go_wp2_with fail
  go_loopw [7, 8] (fun b i wr => ∃ j : Nat, j ≤ l.length ∧ i = .int .i64 (j : Int) ∧ b = .bool (decide (0 < (chainOf (l.take j) k).length)) ∧ St w wr [(w.heap.size + 1 + 1, 36, #[.int .i64 (lastV (chainOf (l.take j) k)).1, .int .i64 (lastV (chainOf (l.take j) k)).2]), (w.heap.size + 1, 36, #[.int .i64 0, .int .i64 0]), (w.heap.size, 27, #[.slice A l.length cap, .int .i64 c, .int .i64 m])]) (fun _ i _ => l.length - (intOf i).toNat)
  case atStart => exact ⟨0, by omega, rfl, rfl, H.out⟩
  case round =>
    obtain ⟨j, hj, rfl, rfl, hst⟩ := hrel
    have HS := Lib.hid hst
    have hk := HS.out.knows.at 2 rfl
    have c0 := hk.cell 0
    have cz := hk.lt
    clear hst hk H
    by_cases hlt : j < l.length
    · obtain ⟨d, hd⟩ : ∃ d, l[j]? = some d := ⟨_, List.getElem?_eq_getElem hlt⟩
      have HST := Lib.hid (chainOf_take l j d hd k)
      have HV := Lib.hid hd
      obtain ⟨b0, off, rfl, hb, g0, g1, g2⟩ := (HD.out.call HS.out.below).cell j d hd
      have i1 : (j : Int) < (l.length : Int) := by omega
      have i2 : (j : Int) < (cap : Int) := by omega
      clear hd
      generalize chainOf (l.take j) k = v at *
      by_cases hk : d.2.1 = k
      · have j1 : (d.2.1 == k) = true := by simpa using hk
        rw [if_pos hk] at HST
        clear hk
        obtain ⟨C, hC, HCc, HCf⟩ := below_class wr
        go_wp2_with fail
        refine region_inT 14 C hC (by kernel_rfl) (by kernel_rfl) ?_
        simp only [List.take_succ_cons, List.take_zero, List.drop_succ_cons, List.drop_zero]
        iterate 14
          (refine WQ.step (fun K hK => ?_)
           go_simp
           first
             | (refine hK _ ?_; clear hK K)
             | (apply Exists.intro
                refine ⟨fun x hx => ?_, hK _ ?_⟩
                · first
                    | rfl
                    | (have hs := HS.out.call (HCf.out _ hx); have hk := hs.knows.at 2 rfl; have c0 := hk.cell 0; obtain ⟨-, g0, g1, g2⟩ := (HD.out.call hs.below).cellAt j d HV.out; go_simp; rfl)
                clear hK K))
        refine WQ.nil ?_
        intro w5 hw
        have HBW := Lib.hid (HCf.out _ hw)
        clear hw hC HCc HCf C
        have HS5 := Lib.hid (HS.out.call HBW.out)
        have hk := HS5.out.knows.at 0 rfl
        have d0 := hk.cell 0
        have d1 := hk.cell 1
        have f0 := hk.free 0
        have f1 := hk.free 1
        have dz := hk.lt
        have HS6 := Lib.hid ((HS5.out.set0 (by omega) (fun r hr => by simp at hr; rcases hr with rfl | rfl <;> (simp only; omega)) 0 (.int .i64 d.1)).set0 (by omega) (fun r hr => by simp at hr; rcases hr with rfl | rfl <;> (simp only; omega)) 1 (.int .i64 d.2.2))
        clear hk c0 cz g0 g1 g2
        go_wp2_with fail
        go_roundw
        case rel => exact ⟨j + 1, by omega, by go_num, by rw [HST.out]; simp, by rw [HST.out, lastV_snoc]; exact HS6.out⟩
        case measure => simp [intOf]; omega
        
      · have j1 : (d.2.1 == k) = false := by simpa using hk
        rw [if_neg hk, List.append_nil] at HST
        clear hk
        go_wp2_with fail
        go_roundw
        case rel => exact ⟨j + 1, by omega, by go_num, by rw [HST.out], by rw [HST.out]; exact HS.out⟩
        case measure => simp [intOf]; omega
        
    · obtain rfl : j = l.length := by omega
      rw [List.take_length] at HS ⊢
      have hk0 := HS.out.knows.at 0 rfl
      have o0 := hk0.cell 0
      have o1 := hk0.cell 1
      have oz := hk0.lt
      have hk1 := HS.out.knows.at 1 rfl
      have d0 := hk1.cell 0
      have d1 := hk1.cell 1
      have f0 := hk1.free 0
      have f1 := hk1.free 1
      have z0 := hk1.lt
      clear hk0 hk1
      go_wp2_with fail
      refine bodyPost_ret (by simp [results, Try.results14, go_sem, d0, d1, f0, f1, z0]; try rfl) rfl ?_
      refine ⟨rfl, ?_⟩
      have hb := HS.out.below
      go_grown
set_option maxHeartbeats 4000000 in
theorem rcounts_any (A : Option Addr) (cap : Nat) (l : List Dr) (c m k u : Int) (w : World) (h : Dv w A cap l) (hl : l.length ≤ 1000000000) :
    Calls Try.prog 37 #[aggM A l.length cap c m, .int .i64 k, .int .i64 u] w fun e w' => e = .returned (.tuple #[aggV (lastV (leF u (chainOf l k))), .bool (decide (0 < (leF u (chainOf l k)).length))]) ∧ Below w.heap.size w w' := by
  have H := Lib.hid ((((St.start w).alloc w.heap.size rfl 27 #[.slice A l.length cap, .int .i64 c, .int .i64 m]).alloc (w.heap.size + 1) (by simp) 36 #[.int .i64 0, .int .i64 0]).alloc (w.heap.size + 1 + 1) (by simp) 36 #[.int .i64 0, .int .i64 0])
  have HD := Lib.hid h
  have hroom := h.room
  have htop := h.top
  clear h
  go_enter Try.func37, Try.ntmps37
  go_wp2_with fail
  go_loopw [9, 10] (fun b i wr => ∃ j : Nat, j ≤ l.length ∧ i = .int .i64 (j : Int) ∧ b = .bool (decide (0 < (leF u (chainOf (l.take j) k)).length)) ∧ St w wr [(w.heap.size + 1 + 1, 36, #[.int .i64 (lastV (leF u (chainOf (l.take j) k))).1, .int .i64 (lastV (leF u (chainOf (l.take j) k))).2]), (w.heap.size + 1, 36, #[.int .i64 0, .int .i64 0]), (w.heap.size, 27, #[.slice A l.length cap, .int .i64 c, .int .i64 m])]) (fun _ i _ => l.length - (intOf i).toNat)
  case atStart => exact ⟨0, by omega, rfl, rfl, H.out⟩
  case round =>
    obtain ⟨j, hj, rfl, rfl, hst⟩ := hrel
    have HS := Lib.hid hst
    have hk := HS.out.knows.at 2 rfl
    have c0 := hk.cell 0
    have cz := hk.lt
    clear hst hk H
    by_cases hlt : j < l.length
    · obtain ⟨d, hd⟩ : ∃ d, l[j]? = some d := ⟨_, List.getElem?_eq_getElem hlt⟩
      have HST := Lib.hid (chainOf_take l j d hd k)
      have HV := Lib.hid hd
      obtain ⟨b0, off, rfl, hb, g0, g1, g2⟩ := (HD.out.call HS.out.below).cell j d hd
      have i1 : (j : Int) < (l.length : Int) := by omega
      have i2 : (j : Int) < (cap : Int) := by omega
      clear hd
      generalize chainOf (l.take j) k = v at *
      by_cases hk : d.2.1 = k
      · have j1 : (d.2.1 == k) = true := by simpa using hk
        rw [if_pos hk] at HST
        clear hk
        by_cases hu : d.1 ≤ u
        · have HST2 : Hid (leF u (chainOf (l.take (j + 1)) k) = leF u v ++ [(d.1, d.2.2)]) := Lib.hid (by rw [HST.out]; unfold leF; rw [List.filter_append]; simp [hu])
          clear HST
          have HST := HST2
          clear HST2
          generalize leF u v = v2 at *
          obtain ⟨C, hC, HCc, HCf⟩ := below_class wr
          go_wp2_with fail
          refine region_inT 14 C hC (by kernel_rfl) (by kernel_rfl) ?_
          simp only [List.take_succ_cons, List.take_zero, List.drop_succ_cons, List.drop_zero]
          iterate 14
            (refine WQ.step (fun K hK => ?_)
             go_simp
             first
               | (refine hK _ ?_; clear hK K)
               | (apply Exists.intro
                  refine ⟨fun x hx => ?_, hK _ ?_⟩
                  · first
                      | rfl
                      | (have hs := HS.out.call (HCf.out _ hx); have hk := hs.knows.at 2 rfl; have c0 := hk.cell 0; obtain ⟨-, g0, g1, g2⟩ := (HD.out.call hs.below).cellAt j d HV.out; go_simp; rfl)
                  clear hK K))
          refine WQ.nil ?_
          intro w5 hw
          have HBW := Lib.hid (HCf.out _ hw)
          clear hw hC HCc HCf C
          have HS5 := Lib.hid (HS.out.call HBW.out)
          have hk := HS5.out.knows.at 0 rfl
          have d0 := hk.cell 0
          have d1 := hk.cell 1
          have f0 := hk.free 0
          have f1 := hk.free 1
          have dz := hk.lt
          have HS6 := Lib.hid ((HS5.out.set0 (by omega) (fun r hr => by simp at hr; rcases hr with rfl | rfl <;> (simp only; omega)) 0 (.int .i64 d.1)).set0 (by omega) (fun r hr => by simp at hr; rcases hr with rfl | rfl <;> (simp only; omega)) 1 (.int .i64 d.2.2))
          clear hk c0 cz g0 g1 g2
          go_wp2_with fail
          go_roundw
          case rel => exact ⟨j + 1, by omega, by go_num, by rw [HST.out]; simp, by rw [HST.out, lastV_snoc]; exact HS6.out⟩
          case measure => simp [intOf]; omega
          
        · have HST2 : Hid (leF u (chainOf (l.take (j + 1)) k) = leF u v) := Lib.hid (by rw [HST.out]; unfold leF; rw [List.filter_append]; simp [hu])
          clear HST
          have HST := HST2
          clear HST2
          generalize leF u v = v2 at *
          go_wp2_with fail
          go_roundw
          case rel => exact ⟨j + 1, by omega, by go_num, by rw [HST.out], by rw [HST.out]; exact HS.out⟩
          case measure => simp [intOf]; omega
          
      · have j1 : (d.2.1 == k) = false := by simpa using hk
        rw [if_neg hk, List.append_nil] at HST
        have HST2 : Hid (leF u (chainOf (l.take (j + 1)) k) = leF u v) := Lib.hid (by rw [HST.out])
        clear hk HST
        have HST := HST2
        clear HST2
        generalize leF u v = v2 at *
        go_wp2_with fail
        go_roundw
        case rel => exact ⟨j + 1, by omega, by go_num, by rw [HST.out], by rw [HST.out]; exact HS.out⟩
        case measure => simp [intOf]; omega
        
    · obtain rfl : j = l.length := by omega
      rw [List.take_length] at HS ⊢
      have hk0 := HS.out.knows.at 0 rfl
      have o0 := hk0.cell 0
      have o1 := hk0.cell 1
      have oz := hk0.lt
      have hk1 := HS.out.knows.at 1 rfl
      have d0 := hk1.cell 0
      have d1 := hk1.cell 1
      have f0 := hk1.free 0
      have f1 := hk1.free 1
      have z0 := hk1.lt
      clear hk0 hk1
      go_wp2_with fail
      refine bodyPost_ret (by simp [results, Try.results37, go_sem, d0, d1, f0, f1, z0]; try rfl) rfl ?_
      refine ⟨rfl, ?_⟩
      have hb := HS.out.below
      go_grown
theorem box_ver (w : World) (A : Option Addr) (n cap : Nat) (c m : Int) : St w ((w.alloc (.cells #[.slice A n cap, .int .i64 c, .int .i64 m] 27)).alloc (.cells #[.int .i64 0, .int .i64 0] 36)) [(w.heap.size + 1, 36, #[.int .i64 0, .int .i64 0]), (w.heap.size, 27, #[.slice A n cap, .int .i64 c, .int .i64 m])] :=
  ((St.start w).alloc w.heap.size rfl _ _).alloc (w.heap.size + 1) (by simp) _ _
set_option maxHeartbeats 4000000 in
theorem rget_any (A : Option Addr) (cap : Nat) (d : Ds) (s : Sto) (hr : Rel d s) (hf : Fine s) (k u : Int) (w : World) (h : Dv w A cap d.l) (hl : d.l.length ≤ 1000000000) :
    Calls Try.prog 28 #[aggM A d.l.length cap s.closed s.mark, .int .i64 k, .int .i64 u] w fun e w' => e = .returned (.tuple #[aggV (getSV s k u), .int .i64 (getSE s k u)]) ∧ Below w.heap.size w w' := by
  have H := Lib.hid (box_ver w A d.l.length cap s.closed s.mark)
  obtain ⟨d0, d1, f0, f1, z0⟩ := H.out.knows.two 0 (w.heap.size + 1) rfl
  have hk1 := H.out.knows.at 1 rfl
  have c0 := hk1.cell 0
  have c1 := hk1.cell 1
  have c2 := hk1.cell 2
  have cz := hk1.lt
  clear hk1
  have HD := Lib.hid h
  have HT := Lib.hid (fun w0 => rtime_any A d.l.length cap s u w0)
  have HC := Lib.hid (fun w0 (h0 : Dv w0 A cap d.l) => rcounts_any A cap d.l s.closed s.mark k u w0 h0 hl)
  have HREL := Lib.hid (fun h0 => hr.counts hf k u h0)
  clear h hr
  rcases getS_cases s k u with ⟨h1, h2, h3⟩ | ⟨h1, h4, h2, h3⟩ | ⟨h1, h4, h5, h2, h3⟩ | ⟨h1, h4, ⟨v, h5, h3⟩, h2⟩ <;> rw [h2, h3]
  · have h6 := (isK_no k).1 h1
    clear h1 h2 h3
    by_cases h0 : k < 0
    · clear h6
      go_enter Try.func28, Try.ntmps28
      go_wp2_with fail
      refine bodyPost_ret (by simp [results, Try.results28, go_sem, d0, d1, f0, f1, z0]; try rfl) rfl ?_
      refine ⟨rfl, ?_⟩
      have hb := H.out.below
      go_grown
    · have h7 : 8191 < k := by omega
      clear h6
      go_enter Try.func28, Try.ntmps28
      go_wp2_with fail
      refine bodyPost_ret (by simp [results, Try.results28, go_sem, d0, d1, f0, f1, z0]; try rfl) rfl ?_
      refine ⟨rfl, ?_⟩
      have hb := H.out.below
      go_grown
  all_goals
    obtain ⟨q1, q2⟩ := (isK_iff k).1 h1
    have q3 : ¬ k < 0 := by omega
    have q4 : ¬ 8191 < k := by omega
    clear h1 h2 h3
  · have h5 : (tellsE s u == 0) = false := by simpa using h4
    have h6 : (tellsE s u != 0) = true := by simpa using h4
    clear h4 HREL
    generalize tellsE s u = E at *
    go_enter Try.func28, Try.ntmps28
    go_wp2_with fail
    refine (HT.out _).mono ?_
    rintro e w1 ⟨rfl, hb1⟩
    replace H := Lib.hid (H.out.call hb1)
    clear hb1 d0 d1 f0 f1 z0 c0 c1 c2 cz
    obtain ⟨d0, d1, f0, f1, z0⟩ := H.out.knows.two 0 (w.heap.size + 1) rfl
    go_wp2_with fail
    refine bodyPost_ret (by simp [results, Try.results28, go_sem, d0, d1, f0, f1, z0]; try rfl) rfl ?_
    refine ⟨rfl, ?_⟩
    have hb := H.out.below
    go_grown
  all_goals
    obtain ⟨r1, r2⟩ := HREL.out h4
    rw [h5] at r1 r2
    rw [r1, r2] at HC
    rw [h4] at HT
    clear r1 r2 h4 h5 HREL
    go_enter Try.func28, Try.ntmps28
    go_wp2_with fail
    refine (HT.out _).mono ?_
    rintro e w1 ⟨rfl, hb1⟩
    replace H := Lib.hid (H.out.call hb1)
    clear hb1 d0 d1 f0 f1 z0 c0 c1 c2 cz
    have hk1 := H.out.knows.at 1 rfl
    have c0 := hk1.cell 0
    have c1 := hk1.cell 1
    have c2 := hk1.cell 2
    have cz := hk1.lt
    clear hk1
    go_wp2_with fail
    refine (HC.out _ (HD.out.call H.out.below)).mono ?_
    rintro e w2 ⟨rfl, hb1⟩
    replace H := Lib.hid (H.out.call hb1)
    clear hb1 c0 c1 c2 cz
  · replace H := Lib.hid (H.out.alloc w2.heap.size rfl 36 #[.int .i64 0, .int .i64 0])
    obtain ⟨d0, d1, f0, f1, z0⟩ := H.out.knows.two 1 (w.heap.size + 1) rfl
    go_wp2_with fail
    refine bodyPost_ret (by simp [results, Try.results28, go_sem, d0, d1, f0, f1, z0]; try rfl) rfl ?_
    refine ⟨rfl, ?_⟩
    have hb := H.out.below
    go_grown
  · replace H := Lib.hid (H.out.alloc w2.heap.size rfl 36 #[.int .i64 v.1, .int .i64 v.2])
    obtain ⟨d0, d1, f0, f1, z0⟩ := H.out.knows.two 1 (w.heap.size + 1) rfl
    go_wp2_with fail
    refine bodyPost_ret (by simp [results, Try.results28, go_sem, d0, d1, f0, f1, z0]; try rfl) rfl ?_
    refine ⟨rfl, ?_⟩
    have hb := H.out.below
    go_grown
end Go.Proofs.Ytcpcepbjdohdmaa
