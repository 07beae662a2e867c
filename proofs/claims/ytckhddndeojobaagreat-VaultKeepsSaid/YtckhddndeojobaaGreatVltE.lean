/- Vaults: contracts: changed. (Written by gvlte.py.) -/
import Derived.Test.YtckhddndeojobaaGreatVltC
namespace Go.Proofs.YtckhddndeojobaaGreat
open Go.RowKit Go.Cn Go.So Go.Vt
open Go.Lk (upd supp Fin1 upd_same upd_other)
set_option linter.unusedVariables false
set_option linter.unusedSimpArgs false
set_option maxRecDepth 100000
theorem sees_fresh1 (w : World) (k1 v1 : Int) : Sees (w.alloc (.cells #[.int .i64 k1, .int .i64 v1] 62)) (w.heap.size + 1) 2 (some ⟨w.heap.size, 0, none⟩) 1 (flat encE [(k1, v1)]) :=
  ⟨rfl, fun _ => ⟨w.heap.size, 0, rfl, by omega, fun j u hu => by
    rw [Nat.zero_add, (Whole.fresh w _ _).cell j, ← Array.getElem?_toList]
    exact hu⟩⟩
theorem sees_fresh2 (w : World) (k1 v1 k2 v2 : Int) : Sees (w.alloc (.cells #[.int .i64 k1, .int .i64 v1, .int .i64 k2, .int .i64 v2] 62)) (w.heap.size + 1) 2 (some ⟨w.heap.size, 0, none⟩) 2 (flat encE [(k1, v1), (k2, v2)]) :=
  ⟨rfl, fun _ => ⟨w.heap.size, 0, rfl, by omega, fun j u hu => by
    rw [Nat.zero_add, (Whole.fresh w _ _).cell j, ← Array.getElem?_toList]
    exact hu⟩⟩
-- What a part's account has, and has paid, once that happens: a list of its own.
set_option maxHeartbeats 4000000 in
theorem vchanged_any {w : World} {g sg hb fb : Nat} {v : Vt} {Fs F : Nat → Prop} (h : Hv) (x : Vx w g sg hb fb v Fs F) (ha : 0 ≤ h.p.acc ∧ h.p.acc < 4096) (hn : 1 ≤ h.p.n ∧ h.p.n ≤ 1000000000000000) (hf : 0 ≤ h.fee ∧ h.fee ≤ h.p.n)
    (h1 : 0 ≤ nowV v h.p.acc ∧ nowV v h.p.acc ≤ 4000000000000000000) (h2 : 0 ≤ nowV v (4096 + h.p.acc) ∧ nowV v (4096 + h.p.acc) ≤ 4000000000000000000) :
    Calls Tryz.prog 28 #[ptr g, hvE h] w fun e w' => ∃ b, e = .returned (.slice (some ⟨b, 0, none⟩) (changedV v h).length (changedV v h).length) ∧ Below w.heap.size w w' ∧ w.heap.size ≤ b ∧ Sees w' w'.heap.size 2 (some ⟨b, 0, none⟩) (changedV v h).length (flat encE (changedV v h)) := by
  have HX := Lib.hid x
  have HC : Hid (changedV v h = if h.p.pays = false then [(h.p.acc, nowV v h.p.acc + h.p.n)] else if h.fee = 0 then [(h.p.acc, nowV v h.p.acc - h.p.n)] else [(h.p.acc, nowV v h.p.acc - h.p.n - h.fee), (4096 + h.p.acc, nowV v (4096 + h.p.acc) + h.fee)]) := Lib.hid rfl
  obtain ⟨⟨g1, g2, g3, g4⟩, g5, g6⟩ := h
  dsimp only at *
  have HN1 := Lib.hid (fun z (hz : Vx z g sg hb fb v Fs F) => vnow_any g2 (by unfold W64; omega) hz)
  have HN2 := Lib.hid (fun z (hz : Vx z g sg hb fb v Fs F) => vnow_any (4096 + g2) (by unfold W64; omega) hz)
  have HB0 := Lib.hid ((Below.refl w.heap.size w).alloc (Nat.le_refl _) (.cells #[.int .i64 g1, .int .i64 g2, .int .i64 g3, .bool g4, .int .i64 g5, .int .i64 g6] 54))
  have HW0 := Lib.hid (Whole.fresh w 54 #[.int .i64 g1, .int .i64 g2, .int .i64 g3, .bool g4, .int .i64 g5, .int .i64 g6])
  have HX0 := Lib.hid (HX.out.call ((Below.refl w.heap.size w).alloc (Nat.le_refl _) (.cells #[.int .i64 g1, .int .i64 g2, .int .i64 g3, .bool g4, .int .i64 g5, .int .i64 g6] 54)))
  generalize nowV v g2 = n1 at *
  generalize nowV v (4096 + g2) = n2 at *
  generalize changedV v ⟨⟨g1, g2, g3, g4⟩, g5, g6⟩ = R at *
  clear x
  cases g4 with
  | false =>
    rw [if_pos rfl] at HC
    obtain rfl := HC.out
    go_enter Tryz.func28, Tryz.ntmps28
    go_upto_region 1 with fail
    generalize hw0 : w.alloc (.cells #[.int .i64 g1, .int .i64 g2, .int .i64 g3, .bool false, .int .i64 g5, .int .i64 g6] 54) = w0 at *
    clear hw0
    obtain ⟨C, hC, HCc, HCf⟩ := vbelow_class w0
    refine region_in C hC (by kernel_rfl) (by kernel_rfl) ?_
    iterate 9
      (refine WQ.step (fun K hK => ?_)
       go_simp
       first
         | (refine hK _ ?_; clear hK K)
         | (apply Exists.intro
            refine ⟨fun z hz => ?_, hK _ ?_⟩
            · first
                | rfl
                | (have ky := HW0.out.below (HCf.out _ hz) HW0.out.lt
                   have k0 := ky.cell 0
                   have k1 := ky.cell 1
                   have k2 := ky.cell 2
                   have k3 := ky.cell 3
                   have k4 := ky.cell 4
                   have k5 := ky.cell 5
                   have kz := ky.lt
                   simp only [List.getElem?_toArray, List.getElem?_cons_zero, List.getElem?_cons_succ] at k0 k1 k2 k3 k4 k5
                   clear ky
                   go_simp
                   rfl)
            clear hK K))
    refine WQ.nil ?_
    intro w1 hw
    have HB1 := Lib.hid (HB0.out.trans ((HCf.out _ hw).mono HB0.out.size))
    have HX1 := Lib.hid (HX0.out.call (HCf.out _ hw))
    have HW1 := Lib.hid (HW0.out.below (HCf.out _ hw) HW0.out.lt)
    clear hw hC HCc HCf C
    have ky := HW1.out
    have k0 := ky.cell 0
    have k1 := ky.cell 1
    have k2 := ky.cell 2
    have k3 := ky.cell 3
    have k4 := ky.cell 4
    have k5 := ky.cell 5
    have kz := ky.lt
    simp only [List.getElem?_toArray, List.getElem?_cons_zero, List.getElem?_cons_succ] at k0 k1 k2 k3 k4 k5
    clear ky
    go_upto_region 3 with fail
    clear k0 k1 k2 k3 k4 k5 kz
    obtain ⟨C, hC, HCc, HCf⟩ := vbelow_class w1
    refine region_inT 9 C hC (by kernel_rfl) (by kernel_rfl) ?_
    simp only [List.take_succ_cons, List.take_zero, List.drop_succ_cons, List.drop_zero]
    iterate 9
      (refine WQ.step (fun K hK => ?_)
       go_simp
       first
         | (refine hK _ ?_; clear hK K)
         | (apply Exists.intro
            refine ⟨fun z hz => ?_, hK _ ?_⟩
            · first
                | rfl
                | (go_at_call 49; refine (HN1.out z (HX1.out.call (HCf.out _ hz))).mono ?_; rintro e z2 ⟨rfl, hb⟩; exact ⟨rfl, HCc.out _ _ hz hb⟩)
                | (have ky := HW1.out.below (HCf.out _ hz) HW1.out.lt
                   have k0 := ky.cell 0
                   have k1 := ky.cell 1
                   have k2 := ky.cell 2
                   have k3 := ky.cell 3
                   have k4 := ky.cell 4
                   have k5 := ky.cell 5
                   have kz := ky.lt
                   simp only [List.getElem?_toArray, List.getElem?_cons_zero, List.getElem?_cons_succ] at k0 k1 k2 k3 k4 k5
                   clear ky
                   go_simp
                   rfl)
            clear hK K))
    refine WQ.nil ?_
    intro w3 hw
    have HB3 := Lib.hid (HB1.out.trans ((HCf.out _ hw).mono HB1.out.size))
    have HX3 := Lib.hid (HX1.out.call (HCf.out _ hw))
    have HW3 := Lib.hid (HW1.out.below (HCf.out _ hw) HW1.out.lt)
    clear hw hC HCc HCf C
    go_wp2_with fail
    go_ret
    exact ⟨w3.heap.size, rfl, HB3.out.alloc HB3.out.size _, HB3.out.size, by simpa using sees_fresh1 w3 g2 (n1 + g3)⟩
  | true =>
    by_cases h6 : g6 = 0
    · subst h6
      rw [if_neg (by simp), if_pos rfl] at HC
      obtain rfl := HC.out
      go_enter Tryz.func28, Tryz.ntmps28
      go_upto_region 1 with fail
      generalize hw0 : w.alloc (.cells #[.int .i64 g1, .int .i64 g2, .int .i64 g3, .bool true, .int .i64 g5, .int .i64 0] 54) = w0 at *
      clear hw0
      obtain ⟨C, hC, HCc, HCf⟩ := vbelow_class w0
      refine region_in C hC (by kernel_rfl) (by kernel_rfl) ?_
      iterate 9
        (refine WQ.step (fun K hK => ?_)
         go_simp
         first
           | (refine hK _ ?_; clear hK K)
           | (apply Exists.intro
              refine ⟨fun z hz => ?_, hK _ ?_⟩
              · first
                  | rfl
                  | (have ky := HW0.out.below (HCf.out _ hz) HW0.out.lt
                     have k0 := ky.cell 0
                     have k1 := ky.cell 1
                     have k2 := ky.cell 2
                     have k3 := ky.cell 3
                     have k4 := ky.cell 4
                     have k5 := ky.cell 5
                     have kz := ky.lt
                     simp only [List.getElem?_toArray, List.getElem?_cons_zero, List.getElem?_cons_succ] at k0 k1 k2 k3 k4 k5
                     clear ky
                     go_simp
                     rfl)
              clear hK K))
      refine WQ.nil ?_
      intro w1 hw
      have HB1 := Lib.hid (HB0.out.trans ((HCf.out _ hw).mono HB0.out.size))
      have HX1 := Lib.hid (HX0.out.call (HCf.out _ hw))
      have HW1 := Lib.hid (HW0.out.below (HCf.out _ hw) HW0.out.lt)
      clear hw hC HCc HCf C
      have ky := HW1.out
      have k0 := ky.cell 0
      have k1 := ky.cell 1
      have k2 := ky.cell 2
      have k3 := ky.cell 3
      have k4 := ky.cell 4
      have k5 := ky.cell 5
      have kz := ky.lt
      simp only [List.getElem?_toArray, List.getElem?_cons_zero, List.getElem?_cons_succ] at k0 k1 k2 k3 k4 k5
      clear ky
      go_upto_region 5 with fail
      clear k0 k1 k2 k3 k4 k5 kz
      obtain ⟨C, hC, HCc, HCf⟩ := vbelow_class w1
      refine region_inT 9 C hC (by kernel_rfl) (by kernel_rfl) ?_
      simp only [List.take_succ_cons, List.take_zero, List.drop_succ_cons, List.drop_zero]
      iterate 9
        (refine WQ.step (fun K hK => ?_)
         go_simp
         first
           | (refine hK _ ?_; clear hK K)
           | (apply Exists.intro
              refine ⟨fun z hz => ?_, hK _ ?_⟩
              · first
                  | rfl
                  | (go_at_call 49; refine (HN1.out z (HX1.out.call (HCf.out _ hz))).mono ?_; rintro e z2 ⟨rfl, hb⟩; exact ⟨rfl, HCc.out _ _ hz hb⟩)
                  | (have ky := HW1.out.below (HCf.out _ hz) HW1.out.lt
                     have k0 := ky.cell 0
                     have k1 := ky.cell 1
                     have k2 := ky.cell 2
                     have k3 := ky.cell 3
                     have k4 := ky.cell 4
                     have k5 := ky.cell 5
                     have kz := ky.lt
                     simp only [List.getElem?_toArray, List.getElem?_cons_zero, List.getElem?_cons_succ] at k0 k1 k2 k3 k4 k5
                     clear ky
                     go_simp
                     rfl)
              clear hK K))
      refine WQ.nil ?_
      intro w3 hw
      have HB3 := Lib.hid (HB1.out.trans ((HCf.out _ hw).mono HB1.out.size))
      have HX3 := Lib.hid (HX1.out.call (HCf.out _ hw))
      have HW3 := Lib.hid (HW1.out.below (HCf.out _ hw) HW1.out.lt)
      clear hw hC HCc HCf C
      go_wp2_with fail
      go_ret
      exact ⟨w3.heap.size, rfl, HB3.out.alloc HB3.out.size _, HB3.out.size, by simpa using sees_fresh1 w3 g2 (n1 - g3)⟩
    · skip
      rw [if_neg (by simp), if_neg h6] at HC
      obtain rfl := HC.out
      have i6 : (g6 == 0) = false := by simpa using h6
      go_enter Tryz.func28, Tryz.ntmps28
      go_upto_region 1 with fail
      generalize hw0 : w.alloc (.cells #[.int .i64 g1, .int .i64 g2, .int .i64 g3, .bool true, .int .i64 g5, .int .i64 g6] 54) = w0 at *
      clear hw0
      obtain ⟨C, hC, HCc, HCf⟩ := vbelow_class w0
      refine region_in C hC (by kernel_rfl) (by kernel_rfl) ?_
      iterate 9
        (refine WQ.step (fun K hK => ?_)
         go_simp
         first
           | (refine hK _ ?_; clear hK K)
           | (apply Exists.intro
              refine ⟨fun z hz => ?_, hK _ ?_⟩
              · first
                  | rfl
                  | (have ky := HW0.out.below (HCf.out _ hz) HW0.out.lt
                     have k0 := ky.cell 0
                     have k1 := ky.cell 1
                     have k2 := ky.cell 2
                     have k3 := ky.cell 3
                     have k4 := ky.cell 4
                     have k5 := ky.cell 5
                     have kz := ky.lt
                     simp only [List.getElem?_toArray, List.getElem?_cons_zero, List.getElem?_cons_succ] at k0 k1 k2 k3 k4 k5
                     clear ky
                     go_simp
                     rfl)
              clear hK K))
      refine WQ.nil ?_
      intro w1 hw
      have HB1 := Lib.hid (HB0.out.trans ((HCf.out _ hw).mono HB0.out.size))
      have HX1 := Lib.hid (HX0.out.call (HCf.out _ hw))
      have HW1 := Lib.hid (HW0.out.below (HCf.out _ hw) HW0.out.lt)
      clear hw hC HCc HCf C
      have ky := HW1.out
      have k0 := ky.cell 0
      have k1 := ky.cell 1
      have k2 := ky.cell 2
      have k3 := ky.cell 3
      have k4 := ky.cell 4
      have k5 := ky.cell 5
      have kz := ky.lt
      simp only [List.getElem?_toArray, List.getElem?_cons_zero, List.getElem?_cons_succ] at k0 k1 k2 k3 k4 k5
      clear ky
      go_upto_region 6 with fail
      have hk : IntKind.i64.wrap (4096 + g2) = 4096 + g2 := by rw [IntKind.wrap_i64]; omega
      rw [hk]
      clear k0 k1 k2 k3 k4 k5 kz
      obtain ⟨C, hC, HCc, HCf⟩ := vbelow_class w1
      refine region_inT 20 C hC (by kernel_rfl) (by kernel_rfl) ?_
      simp only [List.take_succ_cons, List.take_zero, List.drop_succ_cons, List.drop_zero]
      iterate 14
        (refine WQ.step (fun K hK => ?_)
         go_simp
         first
           | (refine hK _ ?_; clear hK K)
           | (apply Exists.intro
              refine ⟨fun z hz => ?_, hK _ ?_⟩
              · first
                  | rfl
                  | (go_at_call 49; refine (HN1.out z (HX1.out.call (HCf.out _ hz))).mono ?_; rintro e z2 ⟨rfl, hb⟩; exact ⟨rfl, HCc.out _ _ hz hb⟩)
                  | (have ky := HW1.out.below (HCf.out _ hz) HW1.out.lt
                     have k0 := ky.cell 0
                     have k1 := ky.cell 1
                     have k2 := ky.cell 2
                     have k3 := ky.cell 3
                     have k4 := ky.cell 4
                     have k5 := ky.cell 5
                     have kz := ky.lt
                     simp only [List.getElem?_toArray, List.getElem?_cons_zero, List.getElem?_cons_succ] at k0 k1 k2 k3 k4 k5
                     clear ky
                     go_simp
                     rfl)
              clear hK K))
      iterate 6
        (refine WQ.step (fun K hK => ?_)
         go_simp
         first
           | (refine hK _ ?_; clear hK K)
           | (apply Exists.intro
              refine ⟨fun z hz => ?_, hK _ ?_⟩
              · first
                  | rfl
                  | (go_at_call 49; refine (HN2.out z (HX1.out.call (HCf.out _ hz))).mono ?_; rintro e z2 ⟨rfl, hb⟩; exact ⟨rfl, HCc.out _ _ hz hb⟩)
                  | (have ky := HW1.out.below (HCf.out _ hz) HW1.out.lt
                     have k0 := ky.cell 0
                     have k1 := ky.cell 1
                     have k2 := ky.cell 2
                     have k3 := ky.cell 3
                     have k4 := ky.cell 4
                     have k5 := ky.cell 5
                     have kz := ky.lt
                     simp only [List.getElem?_toArray, List.getElem?_cons_zero, List.getElem?_cons_succ] at k0 k1 k2 k3 k4 k5
                     clear ky
                     go_simp
                     rfl)
              clear hK K))
      refine WQ.nil ?_
      intro w3 hw
      have HB3 := Lib.hid (HB1.out.trans ((HCf.out _ hw).mono HB1.out.size))
      have HX3 := Lib.hid (HX1.out.call (HCf.out _ hw))
      have HW3 := Lib.hid (HW1.out.below (HCf.out _ hw) HW1.out.lt)
      clear hw hC HCc HCf C
      go_wp2_with fail
      go_ret
      exact ⟨w3.heap.size, rfl, HB3.out.alloc HB3.out.size _, HB3.out.size, by simpa using sees_fresh2 w3 g2 (n1 - g3 - g6) (4096 + g2) (n2 + g6)⟩
end Go.Proofs.YtckhddndeojobaaGreat
