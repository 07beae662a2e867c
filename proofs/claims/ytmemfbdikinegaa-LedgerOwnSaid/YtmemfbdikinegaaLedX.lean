/- The contract of a book's Move at layer 14. (Written by gledm.py.) -/
import Derived.Test.YtmemfbdikinegaaLedW
namespace Go.Proofs.Ytmemfbdikinegaa
open Go.RowKit Go.Lk Go.Am Go.Ld
set_option linter.unusedVariables false
set_option linter.unusedSimpArgs false
set_option maxRecDepth 100000

/-- Where Move stands behind its look-ups: the payer's purse lies in the block pb, the payee's in the next one. -/
structure Mw (w z : World) (g mb x : Nat) (f : Acc) (pb : Nat) (p q : Pu) : Prop where
  off : Off (fun b => b = mb) w z
  bk : Bk z g mb x f
  pp : Whole z pb 58 #[.int .i64 p.has, .int .i64 p.paid]
  qq : Whole z (pb + 1) 58 #[.int .i64 q.has, .int .i64 q.paid]
  new : g < pb ∧ mb < pb
section
variable {w z z' : World} {g mb x : Nat} {f f' : Acc} {pb : Nat} {p q : Pu}
theorem Mw.call (h : Mw w z g mb x f pb p q) (hb : Below z.heap.size z z') : Mw w z' g mb x f pb p q := ⟨h.off.call hb, h.bk.call hb, h.pp.below hb h.pp.lt, h.qq.below hb h.qq.lt, h.new⟩
theorem Mw.put (h : Mw w z g mb x f pb p q) (ho : Off (fun b => b = mb) z z') (hm : Mv pu z' mb f') : Mw w z' g mb x f' pb p q := ⟨h.off.trans ho, h.bk.put ho hm, ho.whole h.pp fun e => by have := h.new; omega, ho.whole h.qq fun e => by have := h.new; omega, h.new⟩
theorem Mw.cells (h : Mw w z g mb x f pb p q) : z.cell? ⟨g, 1, none⟩ = some (.map (some mb)) ∧ g < z.heap.size ∧ z.cell? ⟨pb, 0, none⟩ = some (.int .i64 p.has) ∧ z.cell? ⟨pb, 1, none⟩ = some (.int .i64 p.paid) ∧ pb < z.heap.size ∧
    z.cell? ⟨pb + 1, 0, none⟩ = some (.int .i64 q.has) ∧ z.cell? ⟨pb + 1, 1, none⟩ = some (.int .i64 q.paid) ∧ pb + 1 < z.heap.size :=
  ⟨h.bk.face.cell 1, h.bk.face.lt, h.pp.cell 0, h.pp.cell 1, h.pp.lt, h.qq.cell 0, h.qq.cell 1, h.qq.lt⟩
theorem Mw.start (h : Bk w g mb x f) {w1 : World} (hb : Below w.heap.size w w1) (p q : Pu) : Mw w ((w1.alloc (.cells #[.int .i64 p.has, .int .i64 p.paid] 58)).alloc (.cells #[.int .i64 q.has, .int .i64 q.paid] 58)) g mb x f w1.heap.size p q := by
  have h1 := h.call hb
  have hb2 := ((Below.refl w1.heap.size w1).alloc (Nat.le_refl _) (.cells #[.int .i64 p.has, .int .i64 p.paid] 58)).alloc (by simp) (.cells #[.int .i64 q.has, .int .i64 q.paid] 58)
  refine ⟨((Off.of hb _).alloc _).alloc _, h1.call hb2, (Whole.fresh w1 _ _).alloc _, ?_, h1.face.lt, h1.mv.lt⟩
  have := Whole.fresh (w1.alloc (.cells #[.int .i64 p.has, .int .i64 p.paid] 58)) 58 #[.int .i64 q.has, .int .i64 q.paid]
  simpa using this
end
theorem fee_e {n : Int} {x : Nat} (hx : rated x = true) : (isA n = true → feeE n x = 0) ∧ (isA n = false → feeE n x = 40) := by
  unfold feeE
  exact ⟨fun h => by rw [h, hx]; rfl, fun h => by rw [h]; rfl⟩
set_option maxHeartbeats 4000000 in
theorem move_any {w : World} {g mb x : Nat} {f : Acc} (a b n : Int) (ha : W64 a) (hb : W64 b) (hn : W64 n) (h : Bk w g mb x f) (hF : Fine f) (hx : x < 18446744073709551616) (hr : rated x = true) (htot : tot f ≤ 8000000000000000000) :
    Calls Try.prog 13 #[ptr g, .int .i64 a, .int .i64 b, .int .i64 n] w fun e w' => e = .returned (.tuple #[.int .i64 (moveV x f a b n), .int .i64 (moveE x f a b n)]) ∧ Off (fun b => b = mb) w w' ∧ Bk w' g mb x (moveF x f a b n) := by
  have HA := Lib.hid (fun w0 => isacc_any a w0)
  have HB := Lib.hid (fun w0 => isacc_any b w0)
  have HFe := Lib.hid (fun w0 => fee_any n x (by unfold W64 at hn; omega) hx w0)
  have HK := Lib.hid h
  have HN := Lib.hid (acc_len hF)
  have HFI := Lib.hid hF
  have HW := Lib.hid (show W64 a ∧ W64 b from ⟨ha, hb⟩)
  have HX := Lib.hid hr
  have HFE := Lib.hid (fee_e (n := n) hr)
  have HFV := Lib.hid (fun hi => fee_in (n := n) hr hi)
  obtain ⟨c0, c1, cz⟩ := h.cells
  have HLK1 := Lib.hid (fun (y : World) (hy : Below w.heap.size w y) => ((h.call hy).look ha).1)
  have HLK2 := Lib.hid (fun (y : World) (hy : Below w.heap.size w y) => ((h.call hy).look hb).1)
  have bad : ∀ e : Int, moveE x f a b n = e → e ≠ 0 → Hid (moveE x f a b n = e ∧ moveV x f a b n = 0 ∧ moveF x f a b n = f) := fun e h1 h2 => Lib.hid (move_bad h1 h2)
  have HM : Hid (moveE x f a b n = if acc a = false ∨ acc b = false then 141 else if isA n = false ∨ n = 0 then 143 else if a = b then 144 else
    match f a with
    | none => 145
    | some p => if p.has < n + feeV n x then 146 else match f b with
      | none => 147
      | some q => if q.has + n > 1000000000000000 then 148 else 0) := Lib.hid rfl
  have HPA : Hid ((f a).isSome = true → f a = some ((f a).getD ⟨0, 0⟩)) := Lib.hid fun h => by cases e : f a with
    | none => rw [e] at h; cases h
    | some p => rfl
  have HPB : Hid ((f b).isSome = true → f b = some ((f b).getD ⟨0, 0⟩)) := Lib.hid fun h => by cases e : f b with
    | none => rw [e] at h; cases h
    | some p => rfl
  have HNA : Hid ((f a).isSome = false → f a = none) := Lib.hid fun h => by simpa using h
  have HNB : Hid ((f b).isSome = false → f b = none) := Lib.hid fun h => by simpa using h
  have HMF : Hid (moveE x f a b n = 0 → moveV x f a b n = feeV n x ∧ moveF x f a b n = upd (upd f a (some ⟨((f a).getD ⟨0, 0⟩).has - n - feeV n x, ((f a).getD ⟨0, 0⟩).paid + feeV n x⟩)) b (some ⟨((f b).getD ⟨0, 0⟩).has + n, ((f b).getD ⟨0, 0⟩).paid⟩)) := Lib.hid fun h => ⟨by unfold moveV; rw [if_pos h], by unfold moveF; rw [if_pos h]⟩
  have HHA : Hid ((f a).isSome = true → 0 ≤ ((f a).getD ⟨0, 0⟩).has ∧ ((f a).getD ⟨0, 0⟩).has ≤ 1000000000000000 ∧ 0 ≤ ((f a).getD ⟨0, 0⟩).paid ∧ ((f a).getD ⟨0, 0⟩).has + ((f a).getD ⟨0, 0⟩).paid ≤ 8000000000000000000) := Lib.hid fun h => by
    have e := HPA.out h
    have h1 := hF.has a _ e
    have h2 := hF.paid a _ e
    have h3 := hF.le e
    have h4 := htot
    exact ⟨h1.1, h1.2, h2, by omega⟩
  have HHB : Hid (0 ≤ ((f b).getD ⟨0, 0⟩).has ∧ ((f b).getD ⟨0, 0⟩).has ≤ 1000000000000000) := Lib.hid (by
    cases e : f b with
    | none => decide
    | some q => exact hF.has b q e)
  generalize (f a).getD ⟨0, 0⟩ = p at *
  generalize (f b).getD ⟨0, 0⟩ = q at *
  generalize (f a).isSome = sa at *
  generalize (f b).isSome = sb at *
  generalize feeV n x = V at *
  generalize feeE n x = E at *
  obtain ⟨ph, pp⟩ := p
  obtain ⟨qh, qp⟩ := q
  dsimp only at *
  clear h ha hb hn hF hx hr
  go_enter Try.func13, Try.ntmps13
  go_wp2_with fail
  refine (HFe.out _).mono ?_
  rintro e w1 ⟨rfl, hb1⟩
  have hl1 := HLK1.out _ hb1
  have hl2 := HLK2.out _ ((hb1).alloc hb1.size (.cells #[.int .i64 ph, .int .i64 pp] 58))
  obtain ⟨c0', c1', cz'⟩ := (HK.out.call hb1).cells
  have HS := Lib.hid (Mw.start HK.out hb1 ⟨ph, pp⟩ ⟨qh, qp⟩)
  clear hb1
  go_wp2_with fail
  clear hl1 hl2 HLK1 HLK2 HK c0 c1 cz c0' c1' cz'
  generalize (w1.alloc (.cells #[.int .i64 ph, .int .i64 pp] 58)).alloc (.cells #[.int .i64 qh, .int .i64 qp] 58) = w4 at *
  generalize w1.heap.size = pb at *
  obtain ⟨k1, kz, p0, p1, pz, q0, q1, qz⟩ := HS.out.cells
  dsimp only at p0 p1 q0 q1
  cases ea : acc a with
  | false =>
    rw [ea] at HA
    have HE := bad 141 (by rw [HM.out]; rw [if_pos (.inl ea)]) (by decide)
    clear bad HM HFE HFV HPA HPB HNA HNB HMF HHA HHB HN HFI
    go_wp2_with fail
    refine (HA.out _).mono ?_
    rintro e y ⟨rfl, e2⟩
    subst y
    go_wp2_with fail
    go_ret2
    rw [HE.out.1, HE.out.2.1, HE.out.2.2]
    exact ⟨rfl, HS.out.off, HS.out.bk⟩
  | true =>
    rw [ea] at HA
    cases eb : acc b with
    | false =>
      rw [eb] at HB
      have HE := bad 141 (by rw [HM.out]; rw [if_pos (.inr eb)]) (by decide)
      clear bad HM HFE HFV HPA HPB HNA HNB HMF HHA HHB HN HFI
      go_wp2_with fail
      refine (HA.out _).mono ?_
      rintro e y ⟨rfl, e2⟩
      subst y
      go_wp2_with fail
      refine (HB.out _).mono ?_
      rintro e y ⟨rfl, e2⟩
      subst y
      go_wp2_with fail
      go_ret2
      rw [HE.out.1, HE.out.2.1, HE.out.2.2]
      exact ⟨rfl, HS.out.off, HS.out.bk⟩
    | true =>
      rw [eb] at HB
      have n1 : ¬ (acc a = false ∨ acc b = false) := by rw [ea, eb]; simp
      cases ei : isA n with
      | false =>
        have HE := bad 143 (by rw [HM.out]; rw [if_neg n1, if_pos (.inl ei)]) (by decide)
        have e7 : E = 40 := HFE.out.2 ei
        subst e7
        clear n1
        clear bad HM HFE HFV HPA HPB HNA HNB HMF HHA HHB HN HFI
        go_wp2_with fail
        refine (HA.out _).mono ?_
        rintro e y ⟨rfl, e2⟩
        subst y
        go_wp2_with fail
        refine (HB.out _).mono ?_
        rintro e y ⟨rfl, e2⟩
        subst y
        go_wp2_with fail
        go_ret2
        rw [HE.out.1, HE.out.2.1, HE.out.2.2]
        exact ⟨rfl, HS.out.off, HS.out.bk⟩
      | true =>
        obtain ⟨v0, v1, e7⟩ := HFV.out ei
        subst e7
        obtain ⟨i0, i1⟩ := (isA_iff n).1 ei
        by_cases n0 : n = 0
        · have HE := bad 143 (by rw [HM.out]; rw [if_neg n1, if_pos (.inr n0)]) (by decide)
          have e6 : (n == 0) = true := by simpa using n0
          clear n1
          clear bad HM HFE HFV HPA HPB HNA HNB HMF HHA HHB HN HFI
          go_wp2_with fail
          refine (HA.out _).mono ?_
          rintro e y ⟨rfl, e2⟩
          subst y
          go_wp2_with fail
          refine (HB.out _).mono ?_
          rintro e y ⟨rfl, e2⟩
          subst y
          go_wp2_with fail
          go_ret2
          rw [HE.out.1, HE.out.2.1, HE.out.2.2]
          exact ⟨rfl, HS.out.off, HS.out.bk⟩
        · have n2 : ¬ (isA n = false ∨ n = 0) := by rw [ei]; simp [n0]
          have e6 : (n == 0) = false := by simpa using n0
          by_cases n3 : a = b
          · have HE := bad 144 (by rw [HM.out]; rw [if_neg n1, if_neg n2, if_pos n3]) (by decide)
            clear n1 n2
            have e5 : (a == b) = true := by simpa using n3
            clear bad HM HFE HFV HPA HPB HNA HNB HMF HHA HHB HN HFI
            go_wp2_with fail
            refine (HA.out _).mono ?_
            rintro e y ⟨rfl, e2⟩
            subst y
            go_wp2_with fail
            refine (HB.out _).mono ?_
            rintro e y ⟨rfl, e2⟩
            subst y
            go_wp2_with fail
            go_ret2
            rw [HE.out.1, HE.out.2.1, HE.out.2.2]
            exact ⟨rfl, HS.out.off, HS.out.bk⟩
          · have e5 : (a == b) = false := by simpa using n3
            cases esa : sa with
            | false =>
              subst esa
              have fa := HNA.out rfl
              have HE := bad 145 (by rw [HM.out]; rw [if_neg n1, if_neg n2, if_neg n3, fa]) (by decide)
              clear fa n1 n2 n3
              clear bad HM HFE HFV HPA HPB HNA HNB HMF HHA HHB HN HFI
              go_wp2_with fail
              refine (HA.out _).mono ?_
              rintro e y ⟨rfl, e2⟩
              subst y
              go_wp2_with fail
              refine (HB.out _).mono ?_
              rintro e y ⟨rfl, e2⟩
              subst y
              go_wp2_with fail
              go_ret2
              rw [HE.out.1, HE.out.2.1, HE.out.2.2]
              exact ⟨rfl, HS.out.off, HS.out.bk⟩
            | true =>
              subst esa
              have fa := HPA.out rfl
              obtain ⟨ph0, ph1, pp0, pp1⟩ := HHA.out rfl
              by_cases hs : ph < n + V
              · have HE := bad 146 (by rw [HM.out]; rw [if_neg n1, if_neg n2, if_neg n3, fa]; dsimp only; rw [if_pos hs]) (by decide)
                clear fa n1 n2 n3
                clear bad HM HFE HFV HPA HPB HNA HNB HMF HHA HHB HN HFI
                go_wp2_with fail
                refine (HA.out _).mono ?_
                rintro e y ⟨rfl, e2⟩
                subst y
                go_wp2_with fail
                refine (HB.out _).mono ?_
                rintro e y ⟨rfl, e2⟩
                subst y
                go_wp2_with fail
                go_ret2
                rw [HE.out.1, HE.out.2.1, HE.out.2.2]
                exact ⟨rfl, HS.out.off, HS.out.bk⟩
              · have hs2 : n + V ≤ ph := by omega
                cases esb : sb with
                | false =>
                  subst esb
                  have fb := HNB.out rfl
                  have HE := bad 147 (by rw [HM.out]; rw [if_neg n1, if_neg n2, if_neg n3, fa]; dsimp only; rw [if_neg hs, fb]) (by decide)
                  clear fa fb n1 n2 n3
                  clear bad HM HFE HFV HPA HPB HNA HNB HMF HHA HHB HN HFI
                  go_wp2_with fail
                  refine (HA.out _).mono ?_
                  rintro e y ⟨rfl, e2⟩
                  subst y
                  go_wp2_with fail
                  refine (HB.out _).mono ?_
                  rintro e y ⟨rfl, e2⟩
                  subst y
                  go_wp2_with fail
                  go_ret2
                  rw [HE.out.1, HE.out.2.1, HE.out.2.2]
                  exact ⟨rfl, HS.out.off, HS.out.bk⟩
                | true =>
                  subst esb
                  have fb := HPB.out rfl
                  obtain ⟨qh0, qh1⟩ := HHB.out
                  by_cases hq : qh + n > 1000000000000000
                  · have HE := bad 148 (by rw [HM.out]; rw [if_neg n1, if_neg n2, if_neg n3, fa]; dsimp only; rw [if_neg hs, fb]; dsimp only; rw [if_pos hq]) (by decide)
                    clear fa fb n1 n2 n3
                    clear bad HM HFE HFV HPA HPB HNA HNB HMF HHA HHB HN HFI
                    go_wp2_with fail
                    refine (HA.out _).mono ?_
                    rintro e y ⟨rfl, e2⟩
                    subst y
                    go_wp2_with fail
                    refine (HB.out _).mono ?_
                    rintro e y ⟨rfl, e2⟩
                    subst y
                    go_wp2_with fail
                    go_ret2
                    rw [HE.out.1, HE.out.2.1, HE.out.2.2]
                    exact ⟨rfl, HS.out.off, HS.out.bk⟩
                  · have hq2 : qh + n ≤ 1000000000000000 := by omega
                    have h0 : moveE x f a b n = 0 := by rw [HM.out, if_neg n1, if_neg n2, if_neg n3, fa]; dsimp only; rw [if_neg hs, fb]; dsimp only; rw [if_neg hq]
                    have HE := Lib.hid (show _ ∧ _ from ⟨h0, HMF.out h0⟩)
                    obtain ⟨hi1, hi2, hi3⟩ := HHA.out rfl
                    have hw1 : IntKind.i64.wrap (ph - n) = ph - n := by rw [IntKind.wrap_i64]; omega
                    have hw2 : IntKind.i64.wrap (ph - n - V) = ph - n - V := by rw [IntKind.wrap_i64]; omega
                    have hw3 : IntKind.i64.wrap (pp + V) = pp + V := by rw [IntKind.wrap_i64]; omega
                    have hw4 : IntKind.i64.wrap (qh + n) = qh + n := by rw [IntKind.wrap_i64]; omega
                    have hn9 : (supp f).length ≤ 1000000000 := by have := HN.out; omega
                    have hn8 : (supp (upd f a (some (⟨ph - n - V, pp + V⟩ : Pu)))).length ≤ 1000000000 := by
                      have := acc_len (HFI.out.upd (a := a) (p := ⟨ph - n - V, pp + V⟩) ea ⟨by simp only; omega, by simp only; omega⟩ (by simp only; omega))
                      omega
                    have HN9 := Lib.hid hn9
                    have HN8 := Lib.hid hn8
                    clear hn9 hn8 h0 fa fb n1 n2 n3 HM bad HFE HFV HPA HPB HNA HNB HMF HHA HHB HN HFI ea eb ei
                    go_wp2_with fail
                    refine (HA.out _).mono ?_
                    rintro e y ⟨rfl, e2⟩
                    subst y
                    go_wp2_with fail
                    refine (HB.out _).mono ?_
                    rintro e y ⟨rfl, e2⟩
                    subst y
                    go_wp2_with fail
                    clear k1 kz p0 p1 pz q0 q1 qz
                    obtain ⟨C, hC, HCc, HCf⟩ := below_class w4
                    refine region_inT 16 C hC (by kernel_rfl) (by kernel_rfl) ?_
                    simp only [List.take_succ_cons, List.take_zero, List.drop_succ_cons, List.drop_zero]
                    iterate 16
                      (refine WQ.step (fun K hK => ?_)
                       go_simp
                       first
                         | (refine hK _ ?_; clear hK K)
                         | (apply Exists.intro
                            refine ⟨fun z hz => ?_, hK _ ?_⟩
                            · first
                                | rfl
                                | (have TZ := HCf.out _ hz; obtain ⟨k1, kz, p0, p1, pz, q0, q1, qz⟩ := (HS.out.call TZ).cells; dsimp only at p0 p1 q0 q1; go_simp; rfl)
                            clear hK K))
                    refine WQ.nil ?_
                    intro w5 hw
                    have HS5 := Lib.hid (HS.out.call (HCf.out _ hw))
                    clear hw hC HCc HCf C
                    try simp only [hw1, hw2, hw3, hw4]
                    go_wp2_with (at_mapUpdate; refine wpList_put_mv _ pu_inj rfl _ _ _ 54 rfl 58 Try.underlying54 mb (f) rfl HS5.out.bk.mv a rfl HW.out.1 ⟨ph - n - V, pp + V⟩ rfl HN9.out ?_)
                    intro w6 hm6 ho6 hs6
                    have HS6 := Lib.hid (HS5.out.put ho6 hm6)
                    clear hm6 ho6 hs6
                    go_wp2_with fail
                    obtain ⟨C, hC, HCc, HCf⟩ := below_class w6
                    refine region_inT 12 C hC (by kernel_rfl) (by kernel_rfl) ?_
                    simp only [List.take_succ_cons, List.take_zero, List.drop_succ_cons, List.drop_zero]
                    iterate 12
                      (refine WQ.step (fun K hK => ?_)
                       go_simp
                       first
                         | (refine hK _ ?_; clear hK K)
                         | (apply Exists.intro
                            refine ⟨fun z hz => ?_, hK _ ?_⟩
                            · first
                                | rfl
                                | (have TZ := HCf.out _ hz; obtain ⟨k1, kz, p0, p1, pz, q0, q1, qz⟩ := (HS6.out.call TZ).cells; dsimp only at p0 p1 q0 q1; go_simp; rfl)
                            clear hK K))
                    refine WQ.nil ?_
                    intro w7 hw
                    have HS7 := Lib.hid (HS6.out.call (HCf.out _ hw))
                    clear hw hC HCc HCf C
                    try simp only [hw1, hw2, hw3, hw4]
                    go_wp2_with (at_mapUpdate; refine wpList_put_mv _ pu_inj rfl _ _ _ 54 rfl 58 Try.underlying54 mb (upd f a (some (⟨ph - n - V, pp + V⟩ : Pu))) rfl HS7.out.bk.mv b rfl HW.out.2 ⟨qh + n, qp⟩ rfl HN8.out ?_)
                    intro w8 hm8 ho8 hs8
                    have HS8 := Lib.hid (HS7.out.put ho8 hm8)
                    clear hm8 ho8 hs8
                    go_wp2_with fail
                    go_ret2
                    rw [HE.out.1, HE.out.2.1, HE.out.2.2]
                    exact ⟨rfl, HS8.out.off, HS8.out.bk⟩
end Go.Proofs.Ytmemfbdikinegaa
