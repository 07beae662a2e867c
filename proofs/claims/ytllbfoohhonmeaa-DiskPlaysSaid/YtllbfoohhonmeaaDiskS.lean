/- The law's told: do both disks have the same? (Written by gtold.py.) -/
import Derived.Test.YtllbfoohhonmeaaDiskU
namespace Go.Proofs.Ytllbfoohhonmeaa
open Go.RowKit Go.Dk
set_option linter.unusedVariables false
set_option linter.unusedSimpArgs false
set_option maxRecDepth 100000

set_option maxHeartbeats 4000000 in
theorem told_any (g : Nat) (W w : World) (X : Nat → Prop) (L : List Row) (d : D) (AL : Option Addr) (cL : Nat) (AK : Option Addr) (cK : Nat) (r : Rf) (n : Nat) (hn : n ≤ 1000) (h : Bw W w X L g d AL cL AK cK r) (p : Pl r d n) :
    Calls Try.prog 14 #[ptr g, vM AL cL AK cK r] w fun e w' => e = .returned (.bool true) ∧ Below w.heap.size w w' := by
  have hrok := p.rok h.ok (by omega)
  have hrel := p.rel
  have HREL := Lib.hid hrel
  have hlen : d.logs.length = r.logs.length := hrel.len
  have hfew := hrok.few
  have HS : Hid (∀ (i : Nat) (l : Lo), r.logs[i]? = some l → (d.of (i : Int)).sure = l.sure.length) := Lib.hid fun i l hl => by
    have hlt := (List.getElem?_eq_some_iff.1 hl).1
    rw [hrel.of ⟨by omega, by omega⟩]
    unfold Rf.of
    rw [Int.toNat_natCast, List.getD_eq_getElem?_getD, hl]
    rfl
  have HDN := Lib.hid fun a (hb : Below w.heap.size w a) => (h.call hb).down hrel
  have HAC := Lib.hid fun a (hb : Below w.heap.size w a) => (h.call hb).acts hrel
  have HSM : Hid (∀ a, Below w.heap.size w a → Calls Try.prog 20 #[ptr g, .int .i64 (-1)] a fun e w' => e = .returned (.int .i64 0) ∧ Below a.heap.size a w') := Lib.hid fun a hb => by
    have s1 : (d.of (-1)).sure = 0 := by rw [D.of_out (by omega)]
    have := (h.call hb).sure (log := -1) ⟨by omega, by omega⟩
    rw [s1] at this
    exact this
  have HSN : Hid (∀ a, Below w.heap.size w a → Calls Try.prog 20 #[ptr g, .int .i64 (r.logs.length : Int)] a fun e w' => e = .returned (.int .i64 0) ∧ Below a.heap.size a w') := Lib.hid fun a hb => by
    have s1 : (d.of (r.logs.length : Int)).sure = 0 := by rw [D.of_out (by omega)]
    have := (h.call hb).sure (log := (r.logs.length : Int)) ⟨by omega, by omega⟩
    rw [s1] at this
    exact this
  have HSI : Hid (∀ (i : Nat) (l : Lo), r.logs[i]? = some l → ∀ a, Below w.heap.size w a → Calls Try.prog 20 #[ptr g, .int .i64 (i : Int)] a fun e w' => e = .returned (.int .i64 l.sure.length) ∧ Below a.heap.size a w') := Lib.hid fun i l hl a hb => by
    have hlt := (List.getElem?_eq_some_iff.1 hl).1
    have := (h.call hb).sure (log := (i : Int)) ⟨by omega, by omega⟩
    rw [HS.out i l hl] at this
    exact this
  have hrd : ∀ (i : Nat), i < r.logs.length → d.check (i : Int) = (if r.off then 71 else 0) ∧ (r.off = false → d.read (i : Int) = r.bytes i) ∧ (r.off = true → d.read (i : Int) = []) := fun i hlt => by
    have hc := hrel.check (i : Int)
    rw [if_pos ⟨by omega, by omega⟩] at hc
    refine ⟨hc, fun hf => ?_, fun hf => ?_⟩
    · rw [hrel.read i ⟨by omega, by omega⟩ hf, show r.bytes i = (r.of i).sure ++ (r.of i).loose from by unfold Rf.bytes; rw [if_pos (show 0 ≤ (i : Int) ∧ (i : Int) < (r.logs.length : Int) by omega)]]
    · unfold D.read
      rw [hc, hf]
      rfl
  have HRF : Hid (r.off = false → ∀ (i : Nat), i < r.logs.length → ∀ a, Below w.heap.size w a → Calls Try.prog 17 #[ptr g, .int .i64 (i : Int)] a fun e w' => ∃ v, e = .returned (.tuple #[v, .int .i64 0]) ∧ OwnB w' a.heap.size v (r.bytes i) ∧ Below a.heap.size a w') := Lib.hid fun hf i hlt a hb => by
    have := (h.call hb).read (log := (i : Int)) ⟨by omega, by omega⟩
    rw [(hrd i hlt).1, hf, (hrd i hlt).2.1 hf] at this
    exact this
  have HRT : Hid (r.off = true → ∀ (i : Nat), i < r.logs.length → ∀ a, Below w.heap.size w a → Calls Try.prog 17 #[ptr g, .int .i64 (i : Int)] a fun e w' => ∃ v, e = .returned (.tuple #[v, .int .i64 71]) ∧ OwnB w' a.heap.size v [] ∧ Below a.heap.size a w') := Lib.hid fun hf i hlt a hb => by
    have := (h.call hb).read (log := (i : Int)) ⟨by omega, by omega⟩
    rw [(hrd i hlt).1, hf, (hrd i hlt).2.2 hf] at this
    exact this
  clear hrd
  have HBY := Lib.hid fun (i : Nat) (hlt : i < r.logs.length) a (hb : Below w.heap.size w a) => (h.call hb).rbytes hrok (log := (i : Int)) ⟨by omega, by omega⟩
  have HIT : Hid (∀ (i : Nat) (l : Lo), r.logs[i]? = some l → ∃ b off, AL = some ⟨b, off, none⟩ ∧ ∀ a, Below w.heap.size w a → a.cell? ⟨b, off + i * 2, none⟩ = some (.string (txt l.sure))) := Lib.hid fun i l hl => by
    obtain ⟨F, -, -, -, hm⟩ := h.dsk
    obtain ⟨b, off, e, hlb, q0, -⟩ := hm.logs.item i l hl
    exact ⟨b, off, e, fun a hb => (hb.cell (p := ⟨b, off + i * 2, none⟩) hlb).trans q0⟩
  have H := Lib.hid ((St.start w).alloc w.heap.size rfl 30 #[.slice AL r.logs.length cL, .int .i64 r.acts, .bool r.off, .int .i64 r.armed, .slice AK r.keep.length cK])
  have HBS : Hid (∀ i : Nat, (r.bytes i).length ≤ 4194304) := Lib.hid fun i => by
    unfold Rf.bytes
    split
    · rename_i hl
      have hlt : i < r.logs.length := by omega
      have := hrok.logs (r.logs[i]) (List.getElem_mem hlt)
      unfold Rf.of
      rw [Int.toNat_natCast, List.getD_eq_getElem?_getD, List.getElem?_eq_getElem hlt]
      simpa using this
    · simp
  clear HS HREL h p hrok hrel hlen
  unfold vM at HBY ⊢
  have HLN : Hid (r.logs.length = r.logs.length) := Lib.hid rfl
  generalize hac : r.acts = ac at HBY HAC H ⊢
  generalize har : r.armed = ar at HBY H ⊢
  clear hac har
  generalize hof : r.off = of at HBY HDN HRF HRT H ⊢
  cases of
  · go_enter Try.func14, Try.ntmps14
    obtain ⟨C, hC, HCc, HCf⟩ := H.out.class
    clear H
    go_wp2_with fail
    refine region_in C hC (by kernel_rfl) (by kernel_rfl) ?_
    iterate 25
      (refine WQ.step (fun K hK => ?_)
       go_simp
       first
         | (refine hK _ ?_; clear hK K)
         | (apply Exists.intro
            refine ⟨fun x hx => ?_, hK _ ?_⟩
            · first
                | rfl
                | (go_at_call 22; refine (HDN.out _ (HCf.out _ hx).below).mono ?_; rintro e x1 ⟨rfl, rfl⟩; exact ⟨rfl, hx⟩)
                | (go_at_call 18; refine (HAC.out _ (HCf.out _ hx).below).mono ?_; rintro e x1 ⟨rfl, rfl⟩; exact ⟨rfl, hx⟩)
                | (go_at_call 20; refine (HSM.out _ (HCf.out _ hx).below).mono ?_; rintro e x1 ⟨rfl, hb⟩; exact ⟨rfl, HCc.out _ _ hx hb⟩)
                | (go_at_call 20; refine (HSN.out _ (HCf.out _ hx).below).mono ?_; rintro e x1 ⟨rfl, hb⟩; exact ⟨rfl, HCc.out _ _ hx hb⟩)
                | (have HX := HCf.out _ hx
                   have hk := (HX.knows.at 0 rfl).five
                   obtain ⟨⟨b0, b1, b2, b3, b4⟩, -⟩ := hk
                   clear HX
                   go_simp
                   rfl)
            clear hK K))
    refine WQ.nil ?_
    intro w1 hw
    have H1 := Lib.hid (HCf.out _ hw)
    clear hw hC HCc HCf C HDN HAC HSM HSN
    obtain ⟨⟨b0, b1, b2, b3, b4⟩, f0, f1, f2, f3, f4⟩ := (H1.out.knows.at 0 rfl).five
    go_wp2_with fail
    clear b0 b1 b2 b3 b4 f0 f1 f2 f3 f4
    go_loopw [5] (fun i wr => ∃ j : Nat, j ≤ r.logs.length ∧ i = .int .i64 (j : Int) ∧ St w wr [(w.heap.size, 30, #[.slice AL r.logs.length cL, .int .i64 ac, .bool false, .int .i64 ar, .slice AK r.keep.length cK])]) (fun i _ => r.logs.length - (intOf i).toNat)
    case atStart => exact ⟨0, by omega, rfl, H1.out⟩
    case round =>
      obtain ⟨j, hj, rfl, hst⟩ := hrel
      replace H1 := Lib.hid hst
      obtain ⟨⟨b0, b1, b2, b3, b4⟩, f0, f1, f2, f3, f4⟩ := (hst.knows.at 0 rfl).five
      clear hst
      by_cases hlt : j < r.logs.length
      · obtain ⟨l, hl⟩ : ∃ l, r.logs[j]? = some l := ⟨_, List.getElem?_eq_getElem hlt⟩
        have hjl : (j : Int) < (r.logs.length : Int) := by omega
        obtain ⟨b, off, rfl, hq⟩ := HIT.out j l hl
        have HQ := Lib.hid hq
        have HCS := Lib.hid (HSI.out j l hl)
        have HCR := Lib.hid (HRF.out (by simp) j hlt)
        have HCB := Lib.hid (HBY.out j hlt)
        have hbl := HBS.out j
        have ht : (txt l.sure).size = l.sure.length := txt_size _
        have hdl : decide (0 ≤ (j : Int) ∧ (j : Int) < (r.logs.length : Int)) = true := decide_eq_true ⟨by omega, by omega⟩
        rw [hdl] at HCB
        clear hq hl hdl HSI HRF HRT HBY HIT HBS
        go_upto_region 6 with fail
        clear b0 b1 b2 b3 b4 f0 f1 f2 f3 f4
        obtain ⟨C, hC, HCc, HCf⟩ := H1.out.class
        clear H1
        go_wp2_with fail
        refine region_in C hC (by kernel_rfl) (by kernel_rfl) ?_
        iterate 11
          (refine WQ.step (fun K hK => ?_)
           go_simp
           first
             | (refine hK _ ?_; clear hK K)
             | (apply Exists.intro
                refine ⟨fun x hx => ?_, hK _ ?_⟩
                · first
                    | rfl
                    | (go_at_call 20; refine (HCS.out _ (HCf.out _ hx).below).mono ?_; rintro e x1 ⟨rfl, hb⟩; exact ⟨rfl, HCc.out _ _ hx hb⟩)
                    | (have HX := HCf.out _ hx
                       have hk := (HX.knows.at 0 rfl).five
                       obtain ⟨⟨b0, b1, b2, b3, b4⟩, -⟩ := hk
                       have hq := HQ.out _ HX.below
                       clear HX
                       go_simp
                       rfl)
                clear hK K))
        refine WQ.nil ?_
        intro w2 hw
        have H2 := Lib.hid (HCf.out _ hw)
        clear hw hC HCc HCf C HCS
        go_wp2_with fail
        refine (HCR.out _ H2.out.below).mono ?_
        rintro e w3 ⟨v, rfl, ho, hb⟩
        have H3 := Lib.hid (H2.out.call hb)
        obtain ⟨A, cap, rfl, h1, h2, h3⟩ := own_bytes ho
        have HO := Lib.hid ho
        obtain ⟨⟨b0, b1, b2, b3, b4⟩, f0, f1, f2, f3, f4⟩ := (H3.out.knows.at 0 rfl).five
        clear ho hb H2
        go_wp2_with fail
        refine (HCB.out _ H3.out.below).mono ?_
        rintro e w4 ⟨rfl, hb⟩
        have H4 := Lib.hid (H3.out.call hb)
        have HO4 := Lib.hid (HO.out.keep hb (Nat.le_refl _))
        clear b0 b1 b2 b3 b4 f0 f1 f2 f3 f4 hb H3 HO
        obtain ⟨⟨b0, b1, b2, b3, b4⟩, f0, f1, f2, f3, f4⟩ := (H4.out.knows.at 0 rfl).five
        have hcv : (convert 41 9 (.slice A (r.bytes (j : Int)).length cap)).run Try.prog w4 = .ok (.string (txt (r.bytes (j : Int)))) w4 := conv_bytes _ A cap _ w4 (HO4.out.sees rfl)
        generalize r.bytes (j : Int) = bs at *
        clear HCR HCB HO4
        go_wp2_with fail
        go_roundw
        case rel => exact ⟨j + 1, by omega, by go_num, H4.out⟩
        case measure => simp [intOf]; omega
      · obtain rfl : j = r.logs.length := by omega
        go_wp2_with fail
        go_ret
        exact ⟨rfl, H1.out.below⟩
  · go_enter Try.func14, Try.ntmps14
    obtain ⟨C, hC, HCc, HCf⟩ := H.out.class
    clear H
    go_wp2_with fail
    refine region_in C hC (by kernel_rfl) (by kernel_rfl) ?_
    iterate 25
      (refine WQ.step (fun K hK => ?_)
       go_simp
       first
         | (refine hK _ ?_; clear hK K)
         | (apply Exists.intro
            refine ⟨fun x hx => ?_, hK _ ?_⟩
            · first
                | rfl
                | (go_at_call 22; refine (HDN.out _ (HCf.out _ hx).below).mono ?_; rintro e x1 ⟨rfl, rfl⟩; exact ⟨rfl, hx⟩)
                | (go_at_call 18; refine (HAC.out _ (HCf.out _ hx).below).mono ?_; rintro e x1 ⟨rfl, rfl⟩; exact ⟨rfl, hx⟩)
                | (go_at_call 20; refine (HSM.out _ (HCf.out _ hx).below).mono ?_; rintro e x1 ⟨rfl, hb⟩; exact ⟨rfl, HCc.out _ _ hx hb⟩)
                | (go_at_call 20; refine (HSN.out _ (HCf.out _ hx).below).mono ?_; rintro e x1 ⟨rfl, hb⟩; exact ⟨rfl, HCc.out _ _ hx hb⟩)
                | (have HX := HCf.out _ hx
                   have hk := (HX.knows.at 0 rfl).five
                   obtain ⟨⟨b0, b1, b2, b3, b4⟩, -⟩ := hk
                   clear HX
                   go_simp
                   rfl)
            clear hK K))
    refine WQ.nil ?_
    intro w1 hw
    have H1 := Lib.hid (HCf.out _ hw)
    clear hw hC HCc HCf C HDN HAC HSM HSN
    obtain ⟨⟨b0, b1, b2, b3, b4⟩, f0, f1, f2, f3, f4⟩ := (H1.out.knows.at 0 rfl).five
    go_wp2_with fail
    clear b0 b1 b2 b3 b4 f0 f1 f2 f3 f4
    go_loopw [5] (fun i wr => ∃ j : Nat, j ≤ r.logs.length ∧ i = .int .i64 (j : Int) ∧ St w wr [(w.heap.size, 30, #[.slice AL r.logs.length cL, .int .i64 ac, .bool true, .int .i64 ar, .slice AK r.keep.length cK])]) (fun i _ => r.logs.length - (intOf i).toNat)
    case atStart => exact ⟨0, by omega, rfl, H1.out⟩
    case round =>
      obtain ⟨j, hj, rfl, hst⟩ := hrel
      replace H1 := Lib.hid hst
      obtain ⟨⟨b0, b1, b2, b3, b4⟩, f0, f1, f2, f3, f4⟩ := (hst.knows.at 0 rfl).five
      clear hst
      by_cases hlt : j < r.logs.length
      · obtain ⟨l, hl⟩ : ∃ l, r.logs[j]? = some l := ⟨_, List.getElem?_eq_getElem hlt⟩
        have hjl : (j : Int) < (r.logs.length : Int) := by omega
        obtain ⟨b, off, rfl, hq⟩ := HIT.out j l hl
        have HQ := Lib.hid hq
        have HCS := Lib.hid (HSI.out j l hl)
        have HCR := Lib.hid (HRT.out (by simp) j hlt)
        have HCB := Lib.hid (HBY.out j hlt)
        have hbl := HBS.out j
        have ht : (txt l.sure).size = l.sure.length := txt_size _
        have hdl : decide (0 ≤ (j : Int) ∧ (j : Int) < (r.logs.length : Int)) = true := decide_eq_true ⟨by omega, by omega⟩
        rw [hdl] at HCB
        clear hq hl hdl HSI HRF HRT HBY HIT HBS
        go_upto_region 6 with fail
        clear b0 b1 b2 b3 b4 f0 f1 f2 f3 f4
        obtain ⟨C, hC, HCc, HCf⟩ := H1.out.class
        clear H1
        go_wp2_with fail
        refine region_in C hC (by kernel_rfl) (by kernel_rfl) ?_
        iterate 11
          (refine WQ.step (fun K hK => ?_)
           go_simp
           first
             | (refine hK _ ?_; clear hK K)
             | (apply Exists.intro
                refine ⟨fun x hx => ?_, hK _ ?_⟩
                · first
                    | rfl
                    | (go_at_call 20; refine (HCS.out _ (HCf.out _ hx).below).mono ?_; rintro e x1 ⟨rfl, hb⟩; exact ⟨rfl, HCc.out _ _ hx hb⟩)
                    | (have HX := HCf.out _ hx
                       have hk := (HX.knows.at 0 rfl).five
                       obtain ⟨⟨b0, b1, b2, b3, b4⟩, -⟩ := hk
                       have hq := HQ.out _ HX.below
                       clear HX
                       go_simp
                       rfl)
                clear hK K))
        refine WQ.nil ?_
        intro w2 hw
        have H2 := Lib.hid (HCf.out _ hw)
        clear hw hC HCc HCf C HCS
        go_wp2_with fail
        refine (HCR.out _ H2.out.below).mono ?_
        rintro e w3 ⟨v, rfl, ho, hb⟩
        have H3 := Lib.hid (H2.out.call hb)
        obtain ⟨A, cap, rfl, h1, h2, h3⟩ := own_bytes ho
        have HO := Lib.hid ho
        obtain ⟨⟨b0, b1, b2, b3, b4⟩, f0, f1, f2, f3, f4⟩ := (H3.out.knows.at 0 rfl).five
        clear ho hb H2
        go_wp2_with fail
        refine (HCB.out _ H3.out.below).mono ?_
        rintro e w4 ⟨rfl, hb⟩
        have H4 := Lib.hid (H3.out.call hb)
        have HO4 := Lib.hid (HO.out.keep hb (Nat.le_refl _))
        clear b0 b1 b2 b3 b4 f0 f1 f2 f3 f4 hb H3 HO
        obtain ⟨⟨b0, b1, b2, b3, b4⟩, f0, f1, f2, f3, f4⟩ := (H4.out.knows.at 0 rfl).five
        clear HCR HCB HO4
        go_wp2_with fail
        go_roundw
        case rel => exact ⟨j + 1, by omega, by go_num, H4.out⟩
        case measure => simp [intOf]; omega
      · obtain rfl : j = r.logs.length := by omega
        go_wp2_with fail
        go_ret
        exact ⟨rfl, H1.out.below⟩
end Go.Proofs.Ytllbfoohhonmeaa
