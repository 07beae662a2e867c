/- Locks: the document's Give, in memory. (Written by ggive.py.) -/
import Derived.Test.YtcjefigcaifmeaaLokGw
namespace Go.Proofs.Ytcjefigcaifmeaa
open Go.ChangeShapes Go.WideShapes Go.ChangeAt Go.RowKit Go.Lk
set_option linter.unusedVariables false
set_option linter.unusedSimpArgs false
set_option maxRecDepth 100000
set_option maxHeartbeats 8000000 in
theorem docGive_any (B : Nat) (vH vW : Value) (A3 : Option Addr) (n3 c3 : Nat) (H W : List Rw) (w : World) (hB : B ≤ w.heap.size) (hH : w.ownsRow B 74 3 vH H.length (flat encR H)) (hW : w.ownsRow B 74 3 vW W.length (flat encR W)) (hl : H.length ≤ 40000) (hl2 : W.length ≤ 40000) :
    Calls Try.prog 26 #[.agg #[vH, vW, .slice A3 n3 c3]] w fun e w' => ∃ vh vw vo, e = .returned (.tuple #[.agg #[vh, vw, .slice A3 n3 c3], vo]) ∧ w'.ownsRow B 74 3 vh (giveR H W).1.length (flat encR (giveR H W).1) ∧
      w'.ownsRow B 74 3 vw (giveR H W).2.1.length (flat encR (giveR H W).2.1) ∧ w'.ownsRow w.heap.size 57 2 vo (giveR H W).2.2.length (flat encG (giveR H W).2.2) ∧ Below w.heap.size w w' := by
  have HAT := Lib.hid (atR_all H W)
  have HA0 : Hid (atR H W 0 = (H, W, [])) := Lib.hid rfl
  have HLN := Lib.hid (fun k => atR_len H W k)
  have HNX := Lib.hid (fun (k : Nat) (x : Rw) (h : W[k]? = some x) => atR_next (H := H) h)
  obtain ⟨AH, cH, rfl, -⟩ := own_slice0 hH
  obtain ⟨AW, cW, rfl, hWc, hWm, -⟩ := own_slice0 hW
  have HBB := Lib.hid hB
  have hal := (((Below.refl w.heap.size w).alloc (Nat.le_refl _) (.cells #[.slice AH H.length cH, .slice AW W.length cW, .slice A3 n3 c3] 28)).alloc (by simp) (.cells #[.slice none 0 0, .slice none 0 0, .slice none 0 0] 28)).alloc (by simp; omega) (.cells #[] 57)
  have HSZ : Hid ((((w.alloc (.cells #[.slice AH H.length cH, .slice AW W.length cW, .slice A3 n3 c3] 28)).alloc (.cells #[.slice none 0 0, .slice none 0 0, .slice none 0 0] 28)).alloc (.cells #[] 57)).heap.size = w.heap.size + 3) := Lib.hid (by simp)
  have HG0 : Hid (Gs w (((w.alloc (.cells #[.slice AH H.length cH, .slice AW W.length cW, .slice A3 n3 c3] 28)).alloc (.cells #[.slice none 0 0, .slice none 0 0, .slice none 0 0] 28)).alloc (.cells #[] 57)) B (.slice A3 n3 c3) (.slice AW W.length cW) W (H, W, []) (.slice AH H.length cH) (.slice AW W.length cW) (.slice (some ⟨w.heap.size + 1 + 1, 0, none⟩) 0 0)) := Lib.hid (by
    have k1 := ((Whole.fresh w 28 #[.slice AH H.length cH, .slice AW W.length cW, .slice A3 n3 c3]).alloc (.cells #[.slice none 0 0, .slice none 0 0, .slice none 0 0] 28)).alloc (.cells #[] 57)
    have k2 := (Whole.fresh (w.alloc (.cells #[.slice AH H.length cH, .slice AW W.length cW, .slice A3 n3 c3] 28)) 28 #[.slice none 0 0, .slice none 0 0, .slice none 0 0]).alloc (.cells #[] 57)
    have e1 : (w.alloc (.cells #[.slice AH H.length cH, .slice AW W.length cW, .slice A3 n3 c3] 28)).heap.size = w.heap.size + 1 := by simp
    rw [e1] at k2
    exact ⟨hal, k1, k2, own_keep hH hal (Nat.le_refl _), own_keep hW hal (Nat.le_refl _), own_lessB (own_at0 _ 57 2 _ (by simp)) (by omega), own_keep hW hal (Nat.le_refl _)⟩)
  clear hH hW hal hB
  go_enter Try.func26, Try.ntmps26
  go_wp2_with fail
  generalize hw0 : ((w.alloc (.cells #[.slice AH H.length cH, .slice AW W.length cW, .slice A3 n3 c3] 28)).alloc (.cells #[.slice none 0 0, .slice none 0 0, .slice none 0 0] 28)).alloc (.cells #[] 57) = w0 at *
  clear hw0 HSZ
  go_loopw [4, 6, 7, 8, 9] (fun o i x7 x8 x9 wr => ∃ (k : Nat) (vh vw : Value), k ≤ W.length ∧ i = .int .i64 (k : Int) ∧ Gs w wr B (.slice A3 n3 c3) (.slice AW W.length cW) W (atR H W k) vh vw o) (fun _ i _ _ _ _ => W.length - (intOf i).toNat)
  case atStart => exact ⟨0, _, _, by omega, rfl, by rw [HA0.out]; exact HG0.out⟩
  case round =>
    obtain ⟨k, vh, vw, hk, rfl, hg⟩ := hrel
    clear HG0
    obtain ⟨ls1, ls2, ls3⟩ := HLN.out k
    have HNK0 : Hid (∀ x, W[k]? = some x → atR H W (k + 1) = stepR (atR H W k) x) := Lib.hid (HNX.out k)
    have HEN : Hid (k = W.length → giveR H W = atR H W k) := Lib.hid fun e => by rw [e]; exact HAT.out.symm
    generalize atR H W k = S at *
    obtain ⟨H1, W1, O1⟩ := S
    have HG := Lib.hid hg
    dsimp only at *
    obtain ⟨Ah, ch, rfl, hch, hchm, -⟩ := own_slice0 hg.hh
    obtain ⟨Aw, cw, rfl, -⟩ := own_slice0 hg.hw
    obtain ⟨Ao, co, rfl, -⟩ := own_slice0 hg.ho
    clear hg
    by_cases hlt : k < W.length
    · obtain ⟨x, hx⟩ : ∃ x, W[k]? = some x := ⟨_, List.getElem?_eq_getElem hlt⟩
      obtain ⟨b0, off, rfl, hbb, hcc⟩ := (Sees.own HG.out.old).item encR_len (by omega) k x hx
      have HNK := Lib.hid ((HNK0.out x hx).trans (step_eq _ _))
      have i1 : (k : Int) < (W.length : Int) := by omega
      have hn0 : (0 : Int) ≤ (k : Int) := by omega
      have HCL : Hid (∀ z, Below wr.heap.size wr z → (z.cell? ⟨w.heap.size, 0, none⟩ = some (.slice Ah H1.length ch) ∧ z.cell? ⟨w.heap.size, 1, none⟩ = some (.slice Aw W1.length cw) ∧ z.cell? ⟨w.heap.size, 2, none⟩ = some (.slice A3 n3 c3) ∧ w.heap.size < z.heap.size) ∧
          z.cell? ⟨b0, off + k * 3, none⟩ = some (.int .i64 x.tx) ∧ z.cell? ⟨b0, off + k * 3 + 1, none⟩ = some (.int .i64 x.key) ∧ z.cell? ⟨b0, off + k * 3 + 2, none⟩ = some (.bool x.b)) := Lib.hid fun z hz => by
        have k1 := HG.out.box.below hz HG.out.box.lt
        exact ⟨⟨k1.cell 0, k1.cell 1, k1.cell 2, k1.lt⟩, (hz.cell hbb).trans (by have := hcc 0 _ rfl; rwa [Nat.add_zero] at this), (hz.cell hbb).trans (hcc 1 _ rfl), (hz.cell hbb).trans (hcc 2 _ rfl)⟩
      have HMY : Hid (∀ z, Below wr.heap.size wr z → Calls Try.prog 34 #[.agg #[.slice Ah H1.length ch, .slice Aw W1.length cw, .slice A3 n3 c3], aggR x] z fun e z' => e = .returned (.bool (mayR H1 W1 x)) ∧ Below z.heap.size z z') := Lib.hid fun z hz => by
        exact rmay_any Ah ch H1 Aw cw W1 A3 n3 c3 x z ((Sees.own (HG.out.call hz).hh).more (Nat.le_refl _)) ((Sees.own (HG.out.call hz).hw).more (Nat.le_refl _)) (by omega) (by omega)
      obtain ⟨x1, x2, x3⟩ := x
      dsimp only at *
      clear hcc hx hbb HNK0
      cases hm : mayR H1 W1 ⟨x1, x2, x3⟩ with
      | false =>
        have HNK2 : Hid (atR H W (k + 1) = (H1, W1, O1)) := Lib.hid (by have := HNK.out; rwa [if_neg (by rw [hm]; simp)] at this)
        rw [hm] at HMY
        clear hm HNK
        obtain ⟨C, hC, HCc, HCf⟩ := below_class wr
        go_wp2_with fail
        refine region_in C hC (by kernel_rfl) (by kernel_rfl) ?_
        iterate 7
          (refine WQ.step (fun K hK => ?_)
           go_simp
           first
             | (refine hK _ ?_; clear hK K)
             | (apply Exists.intro
                refine ⟨fun z hz => ?_, hK _ ?_⟩
                · first
                    | rfl
                    | (go_at_call 34; refine (HMY.out z (HCf.out _ hz)).mono ?_; rintro e z2 ⟨rfl, hb⟩; exact ⟨rfl, HCc.out _ _ hz hb⟩)
                    | (obtain ⟨⟨t0, t1, t2, tz⟩, p0, p1, p2⟩ := HCL.out z (HCf.out _ hz); go_simp; rfl)
                clear hK K))
        refine WQ.nil ?_
        intro wn hw
        have HBN := Lib.hid (HCf.out _ hw)
        clear hw hC HCc HCf C HCL HMY
        go_wp2_with fail
        go_roundw
        case rel => exact ⟨k + 1, _, _, by omega, by go_num, by rw [HNK2.out]; exact HG.out.call HBN.out⟩
        case measure => simp [intOf]; omega
      | true =>
        have HNK2 : Hid (atR H W (k + 1) = (putR ⟨x1, x2, x3 || anyR H1 ⟨x1, x2, x3⟩⟩ (notR H1 ⟨x1, x2, x3⟩), withoutR W1 x1, O1 ++ [(x1, x2)])) := Lib.hid (by have := HNK.out; rwa [if_pos hm] at this)
        rw [hm] at HMY
        clear hm HNK
        obtain ⟨C, hC, HCc, HCf⟩ := below_class wr
        go_wp2_with fail
        refine region_in C hC (by kernel_rfl) (by kernel_rfl) ?_
        iterate 7
          (refine WQ.step (fun K hK => ?_)
           go_simp
           first
             | (refine hK _ ?_; clear hK K)
             | (apply Exists.intro
                refine ⟨fun z hz => ?_, hK _ ?_⟩
                · first
                    | rfl
                    | (go_at_call 34; refine (HMY.out z (HCf.out _ hz)).mono ?_; rintro e z2 ⟨rfl, hb⟩; exact ⟨rfl, HCc.out _ _ hz hb⟩)
                    | (obtain ⟨⟨t0, t1, t2, tz⟩, p0, p1, p2⟩ := HCL.out z (HCf.out _ hz); go_simp; rfl)
                clear hK K))
        refine WQ.nil ?_
        intro wn hw
        have HBN := Lib.hid (HCf.out _ hw)
        have HG2 := Lib.hid (HG.out.call HBN.out)
        clear hw hC HCc HCf C HMY
        go_upto_region 8 with fail
        have HB1 : Hid (Below wn.heap.size wn (wn.alloc (.cells #[] 74))) := Lib.hid ((Below.refl _ _).alloc (Nat.le_refl _) _)
        have HO1 : Hid ((wn.alloc (.cells #[] 74)).ownsRow wn.heap.size 74 3 (.slice (some ⟨wn.heap.size, 0, none⟩) 0 0) 0 []) := Lib.hid (own_at0 _ 74 3 _ rfl)
        have HZ1 : Hid ((wn.alloc (.cells #[] 74)).heap.size = wn.heap.size + 1) := Lib.hid (by simp)
        generalize hw1 : wn.alloc (.cells #[] 74) = w1 at *
        clear hw1
        obtain ⟨⟨t0, t1, t2, tz⟩, x0', x1', x2'⟩ := HCL.out w1 (HBN.out.trans (HB1.out.mono HBN.out.size))
        go_wp2_with fail
        have HX3 : Hid (Whole (w1.alloc (.cells #[.int .i64 x1, .int .i64 x2, .bool x3] 74)) w1.heap.size 74 #[.int .i64 x1, .int .i64 x2, .bool x3]) := Lib.hid (Whole.fresh w1 _ _)
        have HB3 : Hid (Below w1.heap.size w1 (w1.alloc (.cells #[.int .i64 x1, .int .i64 x2, .bool x3] 74))) := Lib.hid ((Below.refl _ _).alloc (Nat.le_refl _) _)
        generalize hw2 : w1.alloc (.cells #[.int .i64 x1, .int .i64 x2, .bool x3] 74) = w2 at *
        clear hw2 t0 t1 t2 tz x0' x1' x2'
        have HBI0 : Hid (Below wn.heap.size wn w2) := Lib.hid (HB1.out.trans (HB3.out.mono HB1.out.size))
        have HO2 := Lib.hid (own_call HO1.out HB3.out)
        have HQN : Hid (w1.heap.size = wn.heap.size + 1) := HZ1
        generalize hq : w1.heap.size = q at *
        clear HO1 HB1 HB3 HZ1 hq HCL
        go_loopw [7, 9] (fun vf j wi => ∃ k2 : Nat, k2 ≤ H1.length ∧ j = .int .i64 (k2 : Int) ∧ Below wn.heap.size wn wi ∧ Whole wi q 74 #[.int .i64 x1, .int .i64 x2, .bool (x3 || anyR (H1.take k2) ⟨x1, x2, x3⟩)] ∧ wi.ownsRow wn.heap.size 74 3 vf (notR (H1.take k2) ⟨x1, x2, x3⟩).length (flat encR (notR (H1.take k2) ⟨x1, x2, x3⟩)) ∧ vf.ownBlock ≠ some q) (fun _ j _ => H1.length - (intOf j).toNat)
        case atStart => exact ⟨0, by omega, rfl, HBI0.out, by simpa [anyR] using HX3.out, by simpa [notR, flat] using HO2.out, by simp [Value.ownBlock]; have := HQN.out; omega⟩
        case round =>
          obtain ⟨k2, hk2, rfl, hbi, hxb, hof, hqf⟩ := hrel
          have HBI := Lib.hid hbi
          have HXB := Lib.hid hxb
          have HOF := Lib.hid hof
          have HQF := Lib.hid hqf
          have HG3 := Lib.hid (HG2.out.call hbi)
          have hxz := hxb.lt
          have HQW : Hid (q < wr.heap.size) := Lib.hid hxz
          clear hbi hxb hof hqf
          by_cases hlt2 : k2 < H1.length
          · obtain ⟨y, hy⟩ : ∃ y, H1[k2]? = some y := ⟨_, List.getElem?_eq_getElem hlt2⟩
            obtain ⟨b2, off2, rfl, hbb2, hcc2⟩ := (Sees.own HG3.out.hh).item encR_len (by omega) k2 y hy
            have HAN := Lib.hid (any_next hy ⟨x1, x2, x3⟩)
            have HNN := Lib.hid (not_next hy ⟨x1, x2, x3⟩)
            have i2 : (k2 : Int) < (H1.length : Int) := by omega
            have hn2 : (0 : Int) ≤ (k2 : Int) := by omega
            have HCL : Hid (∀ z, Below wr.heap.size wr z → (z.cell? ⟨w.heap.size, 0, none⟩ = some (.slice (some ⟨b2, off2, none⟩) H1.length ch) ∧ w.heap.size < z.heap.size) ∧ (z.cell? ⟨b2, off2 + k2 * 3, none⟩ = some (.int .i64 y.tx) ∧ z.cell? ⟨b2, off2 + k2 * 3 + 1, none⟩ = some (.int .i64 y.key) ∧ z.cell? ⟨b2, off2 + k2 * 3 + 2, none⟩ = some (.bool y.b)) ∧
                z.cell? ⟨q, 0, none⟩ = some (.int .i64 x1) ∧ z.cell? ⟨q, 1, none⟩ = some (.int .i64 x2) ∧ z.cell? ⟨q, 2, none⟩ = some (.bool (x3 || anyR (H1.take k2) ⟨x1, x2, x3⟩)) ∧ z.frozen? ⟨q, 2, none⟩ = false ∧ q < z.heap.size) := Lib.hid fun z hz => by
              have k1 := HG3.out.box.below hz HG3.out.box.lt
              have k3 := HXB.out.below hz HXB.out.lt
              exact ⟨⟨k1.cell 0, k1.lt⟩, ⟨(hz.cell hbb2).trans (by have := hcc2 0 _ rfl; rwa [Nat.add_zero] at this), (hz.cell hbb2).trans (hcc2 1 _ rfl), (hz.cell hbb2).trans (hcc2 2 _ rfl)⟩, k3.cell 0, k3.cell 1, k3.cell 2, k3.free 2, k3.lt⟩
            obtain ⟨y1, y2, y3⟩ := y
            dsimp only at *
            clear hcc2 hy hbb2 hxz
            obtain ⟨⟨t0, tz⟩, -, -⟩ := HCL.out wr (Below.refl _ _)
            by_cases e1 : y1 = x1
            · have f1 : (y1 == x1) = true := by simpa using e1
              by_cases e2 : y2 = x2
              · have f2 : (y2 == x2) = true := by simpa using e2
                have HAN2 : Hid (anyR (H1.take (k2 + 1)) ⟨x1, x2, x3⟩ = (anyR (H1.take k2) ⟨x1, x2, x3⟩ || y3)) := Lib.hid (by have := HAN.out; simpa [f1, f2] using this)
                have HNN2 : Hid (notR (H1.take (k2 + 1)) ⟨x1, x2, x3⟩ = notR (H1.take k2) ⟨x1, x2, x3⟩) := Lib.hid (by have := HNN.out; simpa [f1, f2] using this)
                clear HAN HNN e1 e2
                obtain ⟨C, hC, HCc, HCf⟩ := below_class wr
                go_wp2_with fail
                refine region_in C hC (by kernel_rfl) (by kernel_rfl) ?_
                iterate 20
                  (refine WQ.step (fun K hK => ?_)
                   go_simp
                   first
                     | (refine hK _ ?_; clear hK K)
                     | (apply Exists.intro
                        refine ⟨fun z hz => ?_, hK _ ?_⟩
                        · first
                            | rfl
                            | (obtain ⟨⟨t0, tz⟩, ⟨p0, p1, p2⟩, q0, q1, q2, qf, qz⟩ := HCL.out z (HCf.out _ hz); go_simp; rfl)
                        clear hK K))
                refine WQ.nil ?_
                intro wz hw
                have HBZ := Lib.hid (HCf.out _ hw)
                clear hw hC HCc HCf C t0 tz
                obtain ⟨⟨t0, tz⟩, ⟨y0', y1', y2'⟩, x0', x1', x2', xf', xz'⟩ := HCL.out wz HBZ.out
                clear HCL
                have HXZ := Lib.hid (HXB.out.below HBZ.out HQW.out)
                have HOZ := Lib.hid (own_call HOF.out HBZ.out)
                have HBIZ := Lib.hid (HBI.out.trans (HBZ.out.mono HBI.out.size))
                have HQQ : Hid (wn.heap.size ≤ q) := Lib.hid (by have := HQN.out; omega)
                cases hcur : (x3 || anyR (H1.take k2) ⟨x1, x2, x3⟩) with
                | true =>
                  have HV : Hid ((x3 || anyR (H1.take (k2 + 1)) ⟨x1, x2, x3⟩) = true) := Lib.hid (by rw [HAN2.out, ← Bool.or_assoc, hcur]; rfl)
                  rw [hcur] at x2'
                  clear hcur
                  go_wp2_with fail
                  have HXS := Lib.hid (HXZ.out.set 2 (.bool true))
                  go_roundw
                  case rel => exact ⟨k2 + 1, by omega, by go_num, HBIZ.out.setCell (p := ⟨q, 2, none⟩) HQQ.out _, by rw [HV.out]; exact HXS.out, by rw [HNN2.out]; exact own_set HOZ.out HQF.out, HQF.out⟩
                  case measure => simp [intOf]; omega
                | false =>
                  have HV : Hid ((x3 || anyR (H1.take (k2 + 1)) ⟨x1, x2, x3⟩) = y3) := Lib.hid (by rw [HAN2.out, ← Bool.or_assoc, hcur]; rfl)
                  rw [hcur] at x2'
                  clear hcur
                  go_wp2_with fail
                  have HXS := Lib.hid (HXZ.out.set 2 (.bool y3))
                  go_roundw
                  case rel => exact ⟨k2 + 1, by omega, by go_num, HBIZ.out.setCell (p := ⟨q, 2, none⟩) HQQ.out _, by rw [HV.out]; exact HXS.out, by rw [HNN2.out]; exact own_set HOZ.out HQF.out, HQF.out⟩
                  case measure => simp [intOf]; omega
              · have f2 : (y2 == x2) = false := by simpa using e2
                have HAN2 : Hid (anyR (H1.take (k2 + 1)) ⟨x1, x2, x3⟩ = anyR (H1.take k2) ⟨x1, x2, x3⟩) := Lib.hid (by have := HAN.out; simpa [f1, f2] using this)
                have HNN2 : Hid (notR (H1.take (k2 + 1)) ⟨x1, x2, x3⟩ = notR (H1.take k2) ⟨x1, x2, x3⟩ ++ [⟨y1, y2, y3⟩]) := Lib.hid (by have := HNN.out; simpa [f1, f2] using this)
                clear HAN HNN e1 e2
                obtain ⟨C, hC, HCc, HCf⟩ := below_class wr
                go_wp2_with fail
                refine region_in C hC (by kernel_rfl) (by kernel_rfl) ?_
                iterate 20
                  (refine WQ.step (fun K hK => ?_)
                   go_simp
                   first
                     | (refine hK _ ?_; clear hK K)
                     | (apply Exists.intro
                        refine ⟨fun z hz => ?_, hK _ ?_⟩
                        · first
                            | rfl
                            | (obtain ⟨⟨t0, tz⟩, ⟨p0, p1, p2⟩, q0, q1, q2, qf, qz⟩ := HCL.out z (HCf.out _ hz); go_simp; rfl)
                        clear hK K))
                refine WQ.nil ?_
                intro wz hw
                have HBZ := Lib.hid (HCf.out _ hw)
                clear hw hC HCc HCf C t0 tz
                obtain ⟨⟨t0, tz⟩, ⟨y0', y1', y2'⟩, -⟩ := HCL.out wz HBZ.out
                clear HCL
                have HXZ := Lib.hid (HXB.out.below HBZ.out HQW.out)
                have HOZ := Lib.hid (own_call HOF.out HBZ.out)
                have HBIZ := Lib.hid (HBI.out.trans (HBZ.out.mono HBI.out.size))
                obtain ⟨Af, cf, hvf, -⟩ := own_slice0 HOZ.out
                subst hvf
                have HNL := Lib.hid (notR_len (H1.take k2) ⟨x1, x2, x3⟩)
                have HNT : Hid ((notR (H1.take k2) ⟨x1, x2, x3⟩).length ≤ 100000) := Lib.hid (by have := HNL.out; rw [List.length_take] at this; omega)
                generalize notR (H1.take k2) ⟨x1, x2, x3⟩ = us at *
                have hal := (Below.refl wz.heap.size wz).alloc (Nat.le_refl _) (.cells #[.int .i64 y1, .int .i64 y2, .bool y3] 74)
                have HAL := Lib.hid hal
                clear hal
                have HZB : Hid (wn.heap.size ≤ wz.heap.size) := Lib.hid HBIZ.out.size
                have HQZ : Hid (q < wz.heap.size) := Lib.hid (Nat.lt_of_lt_of_le HQW.out HBZ.out.size)
                go_wp2_with (at_builtin; refine wpList_appAt rfl (.tmp 69) (.tmp 75) _ 74 _ 3 24 rfl info_row Try.underlying25 rfl (by decide) wn.heap.size _ us.length (flat encR us) rfl (own_keep HOZ.out HAL.out (Nat.le_refl _)) (wz.heap.size + 1) _ 1 1 (flat encR [⟨y1, y2, y3⟩]) rfl (sees_row wz _ rfl ⟨y1, y2, y3⟩) (fun h => by cases h) (flat_encR_one _) (by have := HNT.out; omega) (by have := HNT.out; omega) (by have := HZB.out; (try simp); omega) ?_)
                intro v7 w7 ho7 hg7 hw7
                have HO7 := Lib.hid ho7
                have HQ7 : Hid (v7.ownBlock ≠ some q) := Lib.hid fun e => by
                  rcases hw7 with h | h
                  · exact HQF.out (h.symm.trans e)
                  · rw [h] at e
                    injection e with e
                    have := HQZ.out
                    try simp at e
                    omega
                have HX7 := Lib.hid ((HXZ.out.alloc (.cells #[.int .i64 y1, .int .i64 y2, .bool y3] 74)).grown hg7 fun e => HQF.out e.symm)
                have HB7 : Hid (Below wn.heap.size wn w7) := Lib.hid ((HBIZ.out.alloc HZB.out _).grown hg7 (by have := HZB.out; (try simp); omega) fun k hk => (HOZ.out.lt k hk).1)
                clear ho7 hg7 hw7
                go_wp2_with fail
                go_roundw
                case rel => exact ⟨k2 + 1, by omega, by go_num, HB7.out, by rw [HAN2.out]; exact HX7.out, by rw [HNN2.out, List.length_append, flat_append]; exact HO7.out, HQ7.out⟩
                case measure => simp [intOf]; omega
            · have f1 : (y1 == x1) = false := by simpa using e1
              have HAN2 : Hid (anyR (H1.take (k2 + 1)) ⟨x1, x2, x3⟩ = anyR (H1.take k2) ⟨x1, x2, x3⟩) := Lib.hid (by have := HAN.out; simpa [f1] using this)
              have HNN2 : Hid (notR (H1.take (k2 + 1)) ⟨x1, x2, x3⟩ = notR (H1.take k2) ⟨x1, x2, x3⟩ ++ [⟨y1, y2, y3⟩]) := Lib.hid (by have := HNN.out; simpa [f1] using this)
              clear HAN HNN e1
              obtain ⟨C, hC, HCc, HCf⟩ := below_class wr
              go_wp2_with fail
              refine region_in C hC (by kernel_rfl) (by kernel_rfl) ?_
              iterate 20
                (refine WQ.step (fun K hK => ?_)
                 go_simp
                 first
                   | (refine hK _ ?_; clear hK K)
                   | (apply Exists.intro
                      refine ⟨fun z hz => ?_, hK _ ?_⟩
                      · first
                          | rfl
                          | (obtain ⟨⟨t0, tz⟩, ⟨p0, p1, p2⟩, q0, q1, q2, qf, qz⟩ := HCL.out z (HCf.out _ hz); go_simp; rfl)
                      clear hK K))
              refine WQ.nil ?_
              intro wz hw
              have HBZ := Lib.hid (HCf.out _ hw)
              clear hw hC HCc HCf C t0 tz
              obtain ⟨⟨t0, tz⟩, ⟨y0', y1', y2'⟩, -⟩ := HCL.out wz HBZ.out
              clear HCL
              have HXZ := Lib.hid (HXB.out.below HBZ.out HQW.out)
              have HOZ := Lib.hid (own_call HOF.out HBZ.out)
              have HBIZ := Lib.hid (HBI.out.trans (HBZ.out.mono HBI.out.size))
              obtain ⟨Af, cf, hvf, -⟩ := own_slice0 HOZ.out
              subst hvf
              have HNL := Lib.hid (notR_len (H1.take k2) ⟨x1, x2, x3⟩)
              have HNT : Hid ((notR (H1.take k2) ⟨x1, x2, x3⟩).length ≤ 100000) := Lib.hid (by have := HNL.out; rw [List.length_take] at this; omega)
              generalize notR (H1.take k2) ⟨x1, x2, x3⟩ = us at *
              have hal := (Below.refl wz.heap.size wz).alloc (Nat.le_refl _) (.cells #[.int .i64 y1, .int .i64 y2, .bool y3] 74)
              have HAL := Lib.hid hal
              clear hal
              have HZB : Hid (wn.heap.size ≤ wz.heap.size) := Lib.hid HBIZ.out.size
              have HQZ : Hid (q < wz.heap.size) := Lib.hid (Nat.lt_of_lt_of_le HQW.out HBZ.out.size)
              go_wp2_with (at_builtin; refine wpList_appAt rfl (.tmp 69) (.tmp 75) _ 74 _ 3 24 rfl info_row Try.underlying25 rfl (by decide) wn.heap.size _ us.length (flat encR us) rfl (own_keep HOZ.out HAL.out (Nat.le_refl _)) (wz.heap.size + 1) _ 1 1 (flat encR [⟨y1, y2, y3⟩]) rfl (sees_row wz _ rfl ⟨y1, y2, y3⟩) (fun h => by cases h) (flat_encR_one _) (by have := HNT.out; omega) (by have := HNT.out; omega) (by have := HZB.out; (try simp); omega) ?_)
              intro v7 w7 ho7 hg7 hw7
              have HO7 := Lib.hid ho7
              have HQ7 : Hid (v7.ownBlock ≠ some q) := Lib.hid fun e => by
                rcases hw7 with h | h
                · exact HQF.out (h.symm.trans e)
                · rw [h] at e
                  injection e with e
                  have := HQZ.out
                  try simp at e
                  omega
              have HX7 := Lib.hid ((HXZ.out.alloc (.cells #[.int .i64 y1, .int .i64 y2, .bool y3] 74)).grown hg7 fun e => HQF.out e.symm)
              have HB7 : Hid (Below wn.heap.size wn w7) := Lib.hid ((HBIZ.out.alloc HZB.out _).grown hg7 (by have := HZB.out; (try simp); omega) fun k hk => (HOZ.out.lt k hk).1)
              clear ho7 hg7 hw7
              go_wp2_with fail
              go_roundw
              case rel => exact ⟨k2 + 1, by omega, by go_num, HB7.out, by rw [HAN2.out]; exact HX7.out, by rw [HNN2.out, List.length_append, flat_append]; exact HO7.out, HQ7.out⟩
              case measure => simp [intOf]; omega
          · obtain rfl : k2 = H1.length := by omega
            have i2 : ¬ (H1.length : Int) < (H1.length : Int) := by omega
            have HXA : Hid (Whole wr q 74 #[.int .i64 x1, .int .i64 x2, .bool (x3 || anyR H1 ⟨x1, x2, x3⟩)]) := Lib.hid (by have := HXB.out; rwa [List.take_length] at this)
            have hof := HOF.out
            rw [List.take_length] at hof
            have HGR := Lib.hid (fun wz (hz : Below wr.heap.size wr wz) => Gr.start (wi := wr) (HG3.out.call hz) (x := ⟨x1, x2, x3 || anyR H1 ⟨x1, x2, x3⟩⟩) (HXA.out.below hz HXA.out.lt) (own_lessB (own_call hof hz) HG2.out.bel.size))
            clear HXB HXA HOF
            have tb := HG3.out.box.cell 0
            have tz := HG3.out.box.lt
            have HNL := Lib.hid (notR_len H1 ⟨x1, x2, x3⟩)
            generalize (x3 || anyR H1 ⟨x1, x2, x3⟩) = bx at *
            generalize notR H1 ⟨x1, x2, x3⟩ = F at *
            obtain ⟨Af, cf, rfl, -⟩ := own_slice0 hof
            clear hof
            go_wp2_with fail
            refine Iv.region (fun f aa y => ∃ v1 v2, aa = ⟨#[.agg #[.slice AH H.length cH, .slice (some ⟨b0, off, none⟩) W.length cW, .slice A3 n3 c3], .pointer (some ⟨w.heap.size, 0, none⟩), .pointer (some ⟨w.heap.size + 1, 0, none⟩), .slice none 0 0, .slice Ao O1.length co, .slice (some ⟨b0, off, none⟩) W.length cW, .int .i64 (k : Int), .slice Af F.length cf, .pointer (some ⟨q, 0, none⟩), .int .i64 (H1.length : Int), .slice (some ⟨w.heap.size + 1 + 1, 0, none⟩) 0 0, .pointer (some ⟨w.heap.size, 1, none⟩), .slice (some ⟨b0, off, none⟩) W.length cW, .int .i64 (k : Int), .slice (some ⟨b0, off, none⟩) W.length cW, .int .i64 (W.length : Int), .bool true, u17, u18, .agg #[.slice Ah H1.length ch, .slice Aw W1.length cw, .slice A3 n3 c3], .slice (some ⟨b0, off, none⟩) W.length cW, .int .i64 (k : Int), .pointer (some ⟨b0, off + k * 3, none⟩), .agg #[.int .i64 x1, .int .i64 x2, .bool x3], .bool true, .bool false, .slice (some ⟨wn.heap.size, 0, none⟩) 0 0, .slice (some ⟨b0, off, none⟩) W.length cW, .int .i64 (k : Int), .pointer (some ⟨b0, off + k * 3, none⟩), .agg #[.int .i64 x1, .int .i64 x2, .bool x3], .int .i64 (H1.length : Int), .pointer (some ⟨w.heap.size, 0, none⟩), .slice Ah H1.length ch, .int .i64 (H1.length : Int), .bool false, u36, u37, u38, u39, u40, u41, u42, u43, u44, u45, u46, u47, u48, u49, u50, u51, u52, u53, u54, u55, u56, u57, u58, u59, u60, u61, u62, u63, u64, u65, u66, u67, u68, u69, u70, u71, u72, u73, u74, u75, u76, so (f 0) (.slice Af F.length cf) (u77), so (f 1) (.agg #[.int .i64 x1, .int .i64 x2, .bool bx]) (u78), so (f 2) (v1) (u79), so (f 3) (.pointer (some ⟨w.heap.size, 1, none⟩)) (u80), so (f 4) (.slice Aw W1.length cw) (u81), so (f 5) (.pointer (some ⟨q, 0, none⟩)) (u82), so (f 6) (.int .i64 x1) (u83), so (f 7) (v2) (u84), so (f 8) (.pointer (some ⟨w.heap.size, 0, none⟩)) (u85), so (f 10) (.pointer (some ⟨w.heap.size, 1, none⟩)) (u86), u87, u88, u89, u90, u91, u92, u93, u94, undef, undef], []⟩ ∧ Gr w wr y B (.slice A3 n3 c3) (.slice (some ⟨b0, off, none⟩) W.length cW) W (H1, W1, O1) (.slice Ah H1.length ch) (.slice Aw W1.length cw) (.slice Ao O1.length co) q (⟨x1, x2, bx⟩ : Rw) (.slice Af F.length cf) v1 v2 F (f 2) (f 7) (f 9) (f 11) ∧ (f 7 = true → f 4 = true)) (by kernel_rfl) (by kernel_rfl) ?_ ?_ ?_
            · exact ⟨undef, undef, rfl, ⟨HGR.out _ (drew_below wr 1) undef undef, fun h => by cases h⟩⟩
            · refine ⟨?_, ?_, ?_, ?_, ?_, ?_, ?_, ?_, ?_, ?_, ?_, ?_, trivial⟩
              · rintro f a0 y Q' ⟨v1, v2, rfl, hw⟩ hi hd hQ
                replace hQ := Lib.hid hQ
                simp [Iv.depsB, Region.binds] at hd
                try simp only [hi, hd, sl_true, sl_false, so_true, so_false]
                try simp only [hi, sl_true, sl_false, so_true, so_false]
                go_wp2_with fail
                refine hQ.out _ _ ⟨v1, v2, ?_, ?_⟩
                · simp [Iv.upd, hi, hd, sl_true, sl_false, so_true, so_false]
                · simpa [Iv.upd, hi, hd] using hw
              · rintro f a0 y Q' ⟨v1, v2, rfl, hw⟩ hi hd hQ
                replace hQ := Lib.hid hQ
                simp [Iv.depsB, Region.binds] at hd
                try simp only [hi, hd, sl_true, sl_false, so_true, so_false]
                try simp only [hi, sl_true, sl_false, so_true, so_false]
                have kx := hw.1.xbox
                have t0 := kx.cell 0
                have t1 := kx.cell 1
                have t2 := kx.cell 2
                have tz := kx.lt
                simp only [List.getElem?_toArray, List.getElem?_cons_zero, List.getElem?_cons_succ] at t0 t1 t2
                clear kx
                go_wp2_with fail
                refine hQ.out _ _ ⟨v1, v2, ?_, ?_⟩
                · simp [Iv.upd, hi, hd, sl_true, sl_false, so_true, so_false]
                · simpa [Iv.upd, hi, hd] using hw
              · rintro f a0 y Q' ⟨v1, v2, rfl, hw⟩ hi hd hQ
                replace hQ := Lib.hid hQ
                simp [Iv.depsB, Region.binds] at hd
                try simp only [hi, hd, sl_true, sl_false, so_true, so_false]
                try simp only [hi, sl_true, sl_false, so_true, so_false]
                have hw2 := hw
                rw [hi] at hw2
                have HW2 := Lib.hid hw2
                clear hw2
                go_wp2_with fail
                refine (rput_any (.slice Af F.length cf) F (⟨x1, x2, bx⟩ : Rw) y w.heap.size HW2.out.1.hf (by have := HNL.out; omega)).mono ?_
                rintro e y1 ⟨vn, rfl, ho, hb⟩
                have HN := Lib.hid (show _ ∧ _ from ⟨HW2.out.1.putd hb ho, HW2.out.2⟩)
                clear ho hb
                go_wp2_with fail
                refine hQ.out _ _ ⟨vn, v2, ?_, ?_⟩
                · simp [Iv.upd, hi, hd, sl_true, sl_false, so_true, so_false]
                · simpa [Iv.upd, hi, hd] using HN.out
              · rintro f a0 y Q' ⟨v1, v2, rfl, hw⟩ hi hd hQ
                replace hQ := Lib.hid hQ
                simp [Iv.depsB, Region.binds] at hd
                try simp only [hi, hd, sl_true, sl_false, so_true, so_false]
                try simp only [hi, sl_true, sl_false, so_true, so_false]
                go_wp2_with fail
                refine hQ.out _ _ ⟨v1, v2, ?_, ?_⟩
                · simp [Iv.upd, hi, hd, sl_true, sl_false, so_true, so_false]
                · simpa [Iv.upd, hi, hd] using hw
              · rintro f a0 y Q' ⟨v1, v2, rfl, hw⟩ hi hd hQ
                replace hQ := Lib.hid hQ
                simp [Iv.depsB, Region.binds] at hd
                try simp only [hi, hd, sl_true, sl_false, so_true, so_false]
                try simp only [hi, sl_true, sl_false, so_true, so_false]
                have e11 : f 11 = false := by
                  cases e : f 11 with
                  | false => rfl
                  | true => have h1 := hw.2 (hw.1.ord.2 e); rw [hi] at h1; cases h1
                have kx := hw.1.box
                rw [e11] at kx
                have t1 := kx.cell 1
                have tz := kx.lt
                simp only [Bool.false_eq_true, ↓reduceIte, List.getElem?_toArray, List.getElem?_cons_zero, List.getElem?_cons_succ] at t1
                clear kx
                go_wp2_with fail
                refine hQ.out _ _ ⟨v1, v2, ?_, ?_⟩
                · simp [Iv.upd, hi, hd, sl_true, sl_false, so_true, so_false]
                · simpa [Iv.upd, hi, hd] using hw.1
              · rintro f a0 y Q' ⟨v1, v2, rfl, hw⟩ hi hd hQ
                replace hQ := Lib.hid hQ
                simp [Iv.depsB, Region.binds] at hd
                try simp only [hi, hd, sl_true, sl_false, so_true, so_false]
                try simp only [hi, sl_true, sl_false, so_true, so_false]
                go_wp2_with fail
                refine hQ.out _ _ ⟨v1, v2, ?_, ?_⟩
                · simp [Iv.upd, hi, hd, sl_true, sl_false, so_true, so_false]
                · simpa [Iv.upd, hi, hd] using hw
              · rintro f a0 y Q' ⟨v1, v2, rfl, hw⟩ hi hd hQ
                replace hQ := Lib.hid hQ
                simp [Iv.depsB, Region.binds] at hd
                try simp only [hi, hd, sl_true, sl_false, so_true, so_false]
                try simp only [hi, sl_true, sl_false, so_true, so_false]
                have kx := hw.1.xbox
                have t0 := kx.cell 0
                have t1 := kx.cell 1
                have t2 := kx.cell 2
                have tz := kx.lt
                simp only [List.getElem?_toArray, List.getElem?_cons_zero, List.getElem?_cons_succ] at t0 t1 t2
                clear kx
                go_wp2_with fail
                refine hQ.out _ _ ⟨v1, v2, ?_, ?_⟩
                · simp [Iv.upd, hi, hd, sl_true, sl_false, so_true, so_false]
                · simpa [Iv.upd, hi, hd] using hw
              · rintro f a0 y Q' ⟨v1, v2, rfl, hw⟩ hi hd hQ
                replace hQ := Lib.hid hQ
                simp [Iv.depsB, Region.binds] at hd
                try simp only [hi, hd, sl_true, sl_false, so_true, so_false]
                try simp only [hi, sl_true, sl_false, so_true, so_false]
                have hw2 := hw
                rw [hi] at hw2
                have HW2 := Lib.hid hw2
                clear hw2
                have e4 : f 4 = true := by simp [hd]
                have e6 : f 6 = true := by simp [hd]
                try simp only [e4, e6, so_true, so_false]
                go_wp2_with fail
                refine (rwithout_any Aw cw W1 x1 y (Sees.own HW2.out.1.hw) (by omega)).mono ?_
                rintro e y1 ⟨vn, rfl, ho, hb⟩
                have HN := Lib.hid (HW2.out.1.wod hb ho)
                clear ho hb
                go_wp2_with fail
                refine hQ.out _ _ ⟨v1, vn, ?_, ?_⟩
                · simp [Iv.upd, hi, hd, sl_true, sl_false, so_true, so_false, e4, e6]
                · simpa [Iv.upd, hi, hd, e4, e6] using HN.out
              · rintro f a0 y Q' ⟨v1, v2, rfl, hw⟩ hi hd hQ
                replace hQ := Lib.hid hQ
                simp [Iv.depsB, Region.binds] at hd
                try simp only [hi, hd, sl_true, sl_false, so_true, so_false]
                try simp only [hi, sl_true, sl_false, so_true, so_false]
                go_wp2_with fail
                refine hQ.out _ _ ⟨v1, v2, ?_, ?_⟩
                · simp [Iv.upd, hi, hd, sl_true, sl_false, so_true, so_false]
                · simpa [Iv.upd, hi, hd] using hw
              · rintro f a0 y Q' ⟨v1, v2, rfl, hw⟩ hi hd hQ
                replace hQ := Lib.hid hQ
                simp [Iv.depsB, Region.binds] at hd
                try simp only [hi, hd, sl_true, sl_false, so_true, so_false]
                try simp only [hi, sl_true, sl_false, so_true, so_false]
                have ez : f 2 = true := by simp [hd]
                obtain ⟨Av, cv, hv, -⟩ := own_slice0 (hw.1.put ez)
                subst hv
                have ea : f 2 = true := by simp [hd]
                have eb : f 8 = true := by simp [hd]
                have hw2 := hw
                rw [hi, ea] at hw2
                have kx := hw2.1.box
                have t0 := kx.cell 0
                have d0 := kx.free 0
                have tz := kx.lt
                simp only [Bool.false_eq_true, ↓reduceIte, List.getElem?_toArray, List.getElem?_cons_zero, List.getElem?_cons_succ] at t0
                have HN := Lib.hid (show _ ∧ _ from ⟨hw2.1.setH, hw2.2⟩)
                clear kx hw2
                try simp only [ea, eb, so_true, so_false]
                go_wp2_with fail
                refine hQ.out _ _ ⟨.slice Av (putR ⟨x1, x2, bx⟩ F).length cv, v2, ?_, ?_⟩
                · simp [Iv.upd, hi, hd, sl_true, sl_false, so_true, so_false, ea, eb]
                · simpa [Iv.upd, hi, hd, ea, eb] using HN.out
              · rintro f a0 y Q' ⟨v1, v2, rfl, hw⟩ hi hd hQ
                replace hQ := Lib.hid hQ
                simp [Iv.depsB, Region.binds] at hd
                try simp only [hi, hd, sl_true, sl_false, so_true, so_false]
                try simp only [hi, sl_true, sl_false, so_true, so_false]
                go_wp2_with fail
                refine hQ.out _ _ ⟨v1, v2, ?_, ?_⟩
                · simp [Iv.upd, hi, hd, sl_true, sl_false, so_true, so_false]
                · simpa [Iv.upd, hi, hd] using hw
              · rintro f a0 y Q' ⟨v1, v2, rfl, hw⟩ hi hd hQ
                replace hQ := Lib.hid hQ
                simp [Iv.depsB, Region.binds] at hd
                try simp only [hi, hd, sl_true, sl_false, so_true, so_false]
                try simp only [hi, sl_true, sl_false, so_true, so_false]
                have ez : f 7 = true := by simp [hd]
                obtain ⟨Av, cv, hv, -⟩ := own_slice0 (hw.1.wo ez)
                subst hv
                have ea : f 7 = true := by simp [hd]
                have eb : f 10 = true := by simp [hd]
                have hw2 := hw
                rw [hi, ea] at hw2
                have kx := hw2.1.box
                have t0 := kx.cell 1
                have d0 := kx.free 1
                have tz := kx.lt
                simp only [Bool.false_eq_true, ↓reduceIte, List.getElem?_toArray, List.getElem?_cons_zero, List.getElem?_cons_succ] at t0
                have HN := Lib.hid (show _ ∧ _ from ⟨hw2.1.setW, hw2.2⟩)
                clear kx hw2
                try simp only [ea, eb, so_true, so_false]
                go_wp2_with fail
                refine hQ.out _ _ ⟨v1, .slice Av (withoutR W1 x1).length cv, ?_, ?_⟩
                · simp [Iv.upd, hi, hd, sl_true, sl_false, so_true, so_false, ea, eb]
                · simpa [Iv.upd, hi, hd, ea, eb] using HN.out
            · rintro f a0 yz ⟨v1, v2, rfl, hw⟩ hall
              simp only [hall 0 (by decide), hall 1 (by decide), hall 2 (by decide), hall 3 (by decide), hall 4 (by decide), hall 5 (by decide), hall 6 (by decide), hall 7 (by decide), hall 8 (by decide), hall 9 (by decide), hall 10 (by decide), hall 11 (by decide), sl_true, ↓reduceIte, so_true, so_false] at hw ⊢
              clear hall
              have HW3 := Lib.hid hw.1
              clear hw
              have kx := HW3.out.xbox
              have t0 := kx.cell 0
              have t1 := kx.cell 1
              have tz := kx.lt
              simp only [List.getElem?_toArray, List.getElem?_cons_zero, List.getElem?_cons_succ] at t0 t1
              clear kx
              have HZZ : Hid (w.heap.size ≤ yz.heap.size) := Lib.hid HW3.out.bel.size
              have hal := (Below.refl yz.heap.size yz).alloc (Nat.le_refl _) (.cells #[.int .i64 x1, .int .i64 x2] 57)
              have HOA := Lib.hid (own_call HW3.out.ho hal)
              have HSA := Lib.hid (sees_grant yz _ rfl x1 x2)
              clear hal
              go_wp2_with (at_builtin; refine wpList_appG rfl (.tmp 87) (.tmp 93) _ 57 _ 2 16 rfl info_grant Try.underlying32 rfl (by decide) w.heap.size _ O1.length (flat encG O1) rfl HOA.out (yz.heap.size + 1) _ 1 1 (flat encG [(x1, x2)]) rfl HSA.out (fun h => by cases h) (encG_one _) (by omega) (by omega) (by have := HZZ.out; (try simp); omega) ?_)
              intro v7 w7 ho7 hg7
              rw [← flat_append] at ho7
              have HF7 := Lib.hid (HW3.out.fin HBB.out _ _ hg7 ho7)
              clear ho7 hg7
              go_wp2_with fail
              go_roundw
              case rel => exact ⟨k + 1, _, _, by omega, by go_num, by rw [HNK2.out]; exact HF7.out⟩
              case measure => simp [intOf]; omega
    · obtain rfl : k = W.length := by omega
      have i1 : ¬ (W.length : Int) < (W.length : Int) := by omega
      have r0 := HG.out.res.cell 0
      have r1 := HG.out.res.cell 1
      have r2 := HG.out.res.cell 2
      have g0 := HG.out.res.free 0
      have g1 := HG.out.res.free 1
      have g2 := HG.out.res.free 2
      have rz := HG.out.res.lt
      have c0 := HG.out.box.cell 0
      have c1 := HG.out.box.cell 1
      have c2 := HG.out.box.cell 2
      have cz := HG.out.box.lt
      have HEE := Lib.hid (HEN.out rfl)
      go_wp2_with fail
      have HOUT := Lib.hid (HG.out.out (.slice Ah H1.length ch) (.slice Aw W1.length cw) (.slice A3 n3 c3))
      have hpt := HG.out.box
      refine bodyPost_ret (by simp [results, Try.results26, go_sem, r0, r1, r2, g0, g1, g2, rz]; try rfl) rfl ?_
      rw [HEE.out]
      exact ⟨_, _, _, rfl, HOUT.out.1, HOUT.out.2.1, HOUT.out.2.2.1, HOUT.out.2.2.2⟩
end Go.Proofs.Ytcjefigcaifmeaa
