/- Contracts of the program's calls at layer 9, of a net that says a int: put, remove, New, Send, Take, Copy, Lose, Cut, Letters. -/
import Derived.Test.YtmbednikbdfnmaaPostI
namespace Go.Proofs.Ytmbednikbdfnmaa
open Go.RowKit Go.Po Go.Maps
set_option linter.unusedVariables false
set_option linter.unusedSimpArgs false
set_option maxRecDepth 100000

set_option maxHeartbeats 2000000 in
theorem iput_any (g : Nat) (n : Nt Int) (F : Nat → Prop) (l : Lt Int) (hl : l.fine n.nodes n.sent) (w : World) (x0 : iNet w g n F) :
    Calls Try.prog 59 #[ptr g, .agg (encL iP l).toArray] w fun e w' => e = .returned (.int .i64 (n.put l).2) ∧ iWent F w w' g (n.put l).1 := by
  obtain ⟨mb, v, x⟩ := x0
  show Calls Try.prog 59 #[ptr g, .agg #[.int .i64 l.id, .int .i64 l.frm, .int .i64 l.to, iP l.m]] w _
  have HX := Lib.hid x
  obtain ⟨A, cap, hv, h1, h2, h3⟩ := x.slice
  have HV := Lib.hid hv
  have hfew := x.fine.few
  have hx1 := x.alloc (.cells #[.int .i64 l.id, .int .i64 l.frm, .int .i64 l.to, iP l.m] 67)
  obtain ⟨c0, c1, c2, c3⟩ := hx1.cells
  obtain ⟨f1, f2⟩ := hx1.free
  rw [hv] at c2
  have HGL := Lib.hid (x.low g x.mine.1)
  by_cases hfull : n.under.length = 1000
  · have HP : Hid (n.put l = (n, 91)) := Lib.hid (by unfold Nt.put; rw [if_pos hfull])
    have HB : Hid (Below w.heap.size w (w.alloc (.cells #[.int .i64 l.id, .int .i64 l.frm, .int .i64 l.to, iP l.m] 67))) := Lib.hid ((Below.refl _ _).alloc (Nat.le_refl _) _)
    rw [HP.out]
    clear x hx1 hv HV
    rw [hfull] at c2
    go_enter Try.func59, Try.ntmps59
    go_wp2_with fail
    go_ret
    exact ⟨rfl, Went.same HX.out HB.out⟩
  · have HP : Hid (n.put l = ({ n with under := n.under ++ [l] }, 0)) := Lib.hid (by unfold Nt.put; rw [if_neg hfull])
    have HFN : Hid (Fine { n with under := n.under ++ [l] }) := Lib.hid (by have := x.fine.put hl; rwa [HP.out] at this)
    rw [HP.out]
    have HO := Lib.hid (show (w.alloc (.cells #[.int .i64 l.id, .int .i64 l.frm, .int .i64 l.to, iP l.m] 67)).ownsRow 0 67 4 (.slice A n.under.length cap) n.under.length (flat (encL iP) n.under) by have := hx1.own; rwa [hv] at this)
    have HWB : Hid (Whole (w.alloc (.cells #[.int .i64 l.id, .int .i64 l.frm, .int .i64 l.to, iP l.m] 67)) w.heap.size 67 #[.int .i64 l.id, .int .i64 l.frm, .int .i64 l.to, iP l.m]) := Lib.hid (Whole.fresh w _ _)
    have HX1 := Lib.hid hx1
    have HB : Hid (Below w.heap.size w (w.alloc (.cells #[.int .i64 l.id, .int .i64 l.frm, .int .i64 l.to, iP l.m] 67))) := Lib.hid ((Below.refl _ _).alloc (Nat.le_refl _) _)
    have hsz : (w.alloc (.cells #[.int .i64 l.id, .int .i64 l.frm, .int .i64 l.to, iP l.m] 67)).heap.size = w.heap.size + 1 := by simp
    clear x hx1 hv
    go_enter Try.func59, Try.ntmps59
    go_wp2_with fail
    generalize w.alloc (.cells #[.int .i64 l.id, .int .i64 l.frm, .int .i64 l.to, iP l.m] 67) = w1 at *
    have HNE : Hid (some g ≠ (Value.slice A n.under.length cap).ownBlock) := Lib.hid (fun e => by
      rw [← HV.out] at e
      exact HX.out.gv iunlike e.symm rfl)
    have HSZ := Lib.hid hsz
    clear hsz
    generalize hbx : w.heap.size = bx at *
    have HBX := Lib.hid hbx
    clear hbx
    -- PUT
    have q10 : ((n.under.length : Int) == 1000) = false := by simp; omega
    rw [q10]
    clear q10
    refine Iv.region (fun f aa y => ∃ v1, aa = ⟨#[ptr g, .agg #[.int .i64 l.id, .int .i64 l.frm, .int .i64 l.to, iP l.m], undef, .pointer (some ⟨bx, 0, none⟩), .int .i64 0, ptr g, .pointer (some ⟨g, 0, none⟩), .pointer (some ⟨g, 2, none⟩), .slice A n.under.length cap, .int .i64 (n.under.length : Int), .bool false, sl (f 0) (ptr g), sl (f 1) (ptr g), sl (f 2) (.pointer (some ⟨g, 0, none⟩)), sl (f 3) (.pointer (some ⟨g, 2, none⟩)), sl (f 4) (.slice A n.under.length cap), sl (f 5) (.agg #[.int .i64 l.id, .int .i64 l.frm, .int .i64 l.to, iP l.m]), sl (f 6) (.slice (some ⟨w1.heap.size, 0, none⟩) 1 1), sl (f 7) (v1), sl (f 8) (.pointer (some ⟨g, 0, none⟩)), sl (f 9) (.pointer (some ⟨g, 2, none⟩))], []⟩ ∧ Aq w1.drew y (.cells #[.int .i64 l.id, .int .i64 l.frm, .int .i64 l.to, iP l.m] 67) (fun y v => y.ownsRow 0 67 4 v (n.under.length + 1) (flat (encL iP) n.under ++ encL iP l) ∧ (w1.drew.alloc (.cells #[.int .i64 l.id, .int .i64 l.frm, .int .i64 l.to, iP l.m] 67)).grownBy y (Value.slice A n.under.length cap).ownBlock ∧ (v.ownBlock = (Value.slice A n.under.length cap).ownBlock ∨ v.ownBlock = some (w1.drew.alloc (.cells #[.int .i64 l.id, .int .i64 l.frm, .int .i64 l.to, iP l.m] 67)).heap.size)) (fun y v => y.setCell ⟨g, 2, none⟩ v) v1 (f 6) (f 7) (f 10) ∧ (f 6 = true → f 5 = true) ∧ (f 7 = true → f 4 = true ∧ f 6 = true) ∧ (f 10 = true → f 7 = true)) (by kernel_rfl) (by kernel_rfl) ?_ ?_ ?_
    · exact ⟨undef, rfl, Aq.start _ _ _ _ _, (fun h => by cases h), (fun h => by cases h), fun h => by cases h⟩
    · refine ⟨?_, ?_, ?_, ?_, ?_, ?_, ?_, ?_, ?_, ?_, ?_, trivial⟩
      · rintro f a0 y Q' ⟨v1, rfl, hw⟩ hi hd hQ
        replace hQ := Lib.hid hQ
        simp [Iv.depsB, Region.binds] at hd
        try simp only [hi, hd, sl_true, sl_false]
        try simp only [hi, sl_true, sl_false]
        go_wp2_with fail
        refine hQ.out _ _ ⟨v1, ?_, ?_⟩
        · simp [Iv.upd, hi, hd, sl_true, sl_false]
        · simpa [Iv.upd, hi, hd] using hw
      · rintro f a0 y Q' ⟨v1, rfl, hw⟩ hi hd hQ
        replace hQ := Lib.hid hQ
        simp [Iv.depsB, Region.binds] at hd
        try simp only [hi, hd, sl_true, sl_false]
        try simp only [hi, sl_true, sl_false]
        go_wp2_with fail
        refine hQ.out _ _ ⟨v1, ?_, ?_⟩
        · simp [Iv.upd, hi, hd, sl_true, sl_false]
        · simpa [Iv.upd, hi, hd] using hw
      · rintro f a0 y Q' ⟨v1, rfl, hw⟩ hi hd hQ
        replace hQ := Lib.hid hQ
        simp [Iv.depsB, Region.binds] at hd
        try simp only [hi, hd, sl_true, sl_false]
        try simp only [hi, sl_true, sl_false]
        go_wp2_with fail
        refine hQ.out _ _ ⟨v1, ?_, ?_⟩
        · simp [Iv.upd, hi, hd, sl_true, sl_false]
        · simpa [Iv.upd, hi, hd] using hw
      · rintro f a0 y Q' ⟨v1, rfl, hw⟩ hi hd hQ
        replace hQ := Lib.hid hQ
        simp [Iv.depsB, Region.binds] at hd
        try simp only [hi, hd, sl_true, sl_false]
        try simp only [hi, sl_true, sl_false]
        go_wp2_with fail
        refine hQ.out _ _ ⟨v1, ?_, ?_⟩
        · simp [Iv.upd, hi, hd, sl_true, sl_false]
        · simpa [Iv.upd, hi, hd] using hw
      · rintro f a0 y Q' ⟨v1, rfl, hw⟩ hi hd hQ
        replace hQ := Lib.hid hQ
        simp [Iv.depsB, Region.binds] at hd
        try simp only [hi, hd, sl_true, sl_false]
        try simp only [hi, sl_true, sl_false]
        have e7 : f 7 = false := by
          cases e : f 7 with
          | false => rfl
          | true => have := hw.2.2.1 e; simp [hi] at this
        have e10 : f 10 = false := by
          cases e : f 10 with
          | false => rfl
          | true => rw [hw.2.2.2 e] at e7; cases e7
        have hbl := hw.1.low e7
        obtain ⟨t0, t1, t2, t3⟩ := (HX1.out.call ((below_drewN (Below.refl _ _) 1).trans hbl)).cells
        rw [HV.out] at t2
        clear t0 t1 t3 hbl
        go_wp2_with fail
        refine hQ.out _ _ ⟨v1, ?_, ?_⟩
        · simp [Iv.upd, hi, hd, e7, e10, sl_true, sl_false]
        · simpa [Iv.upd, hi, hd, e7, e10] using (show _ ∧ _ from ⟨hw.1, hw.2.1⟩)
      · rintro f a0 y Q' ⟨v1, rfl, hw⟩ hi hd hQ
        replace hQ := Lib.hid hQ
        simp [Iv.depsB, Region.binds] at hd
        try simp only [hi, hd, sl_true, sl_false]
        try simp only [hi, sl_true, sl_false]
        have e6 : f 6 = false := by
          cases e : f 6 with
          | false => rfl
          | true => have := hw.2.1 e; simp [hi] at this
        have e7 : f 7 = false := by
          cases e : f 7 with
          | false => rfl
          | true => have := (hw.2.2.1 e).2; rw [e6] at this; cases this
        have e10 : f 10 = false := by
          cases e : f 10 with
          | false => rfl
          | true => rw [hw.2.2.2 e] at e7; cases e7
        have hbl := hw.1.low e7
        have hwb := (HWB.out.drewN 1).below hbl (HWB.out.drewN 1).lt
        obtain ⟨t0, t1, t2, t3⟩ := (show _ ∧ _ ∧ _ ∧ _ from ⟨hwb.cell 0, hwb.cell 1, hwb.cell 2, hwb.cell 3⟩)
        clear hwb hbl
        go_wp2_with fail
        refine hQ.out _ _ ⟨v1, ?_, ?_⟩
        · simp [Iv.upd, hi, hd, e6, e7, e10, sl_true, sl_false]
        · simpa [Iv.upd, hi, hd, e6, e7, e10] using hw.1
      · rintro f a0 y Q' ⟨v1, rfl, hw⟩ hi hd hQ
        replace hQ := Lib.hid hQ
        simp [Iv.depsB, Region.binds] at hd
        try simp only [hi, hd, sl_true, sl_false]
        try simp only [hi, sl_true, sl_false]
        have e7 : f 7 = false := by
          cases e : f 7 with
          | false => rfl
          | true => have := (hw.2.2.1 e).2; rw [hi] at this; cases this
        have e10 : f 10 = false := by
          cases e : f 10 with
          | false => rfl
          | true => rw [hw.2.2.2 e] at e7; cases e7
        have d5 : f 5 = true := by simp [hd]
        try simp only [d5, sl_true]
        obtain ⟨ey, -, -⟩ := hw.1.none hi
        subst ey
        go_wp2_with fail
        refine hQ.out _ _ ⟨v1, ?_, ?_⟩
        · simp [Iv.upd, hi, hd, e7, e10, d5, sl_true, sl_false]
        · simpa [Iv.upd, hi, hd, e7, e10, d5] using Aq.allocD hw.1 hi e7 e10
      · rintro f a0 y Q' ⟨v1, rfl, hw⟩ hi hd hQ
        replace hQ := Lib.hid hQ
        simp [Iv.depsB, Region.binds] at hd
        try simp only [hi, hd, sl_true, sl_false]
        try simp only [hi, sl_true, sl_false]
        have d4 : f 4 = true := by simp [hd]
        have d6 : f 6 = true := by simp [hd]
        have e7 := hi
        have e10 : f 10 = false := by
          cases e : f 10 with
          | false => rfl
          | true => rw [hw.2.2.2 e] at e7; cases e7
        obtain ⟨ey, -⟩ := hw.1.made d6 hi
        subst ey
        have d5 := hw.2.1 d6
        try simp only [d4, d6, sl_true]
        refine wpList_appAt rfl (.tmp 15) (.tmp 17) _ 67 _ 4 32 rfl iinfo Try.underlying64 rfl (by decide) 0 _ n.under.length (flat (encL iP) n.under) (by rfl) (own_at HO.out fun b hb => (((Below.refl _ _).alloc (Nat.le_refl _) _).block b (own_lt HO.out hb).2)) (w1.heap.size + 1) (some ⟨w1.heap.size, 0, none⟩) 1 1 (encL iP l) (by rfl) (sees_new w1.drew w1.heap.size rfl 4 67 (encL iP l) rfl) (by intro h; cases h) (by intro u hu; exact encL_one ione [l] u (by rw [flat_one]; exact hu)) (by omega) (by omega) (Nat.zero_le _) ?_
        intro v2 y2 ho hg hat
        go_wp2_with fail
        refine hQ.out _ _ ⟨v2, ?_, ?_⟩
        · simp [Iv.upd, hi, hd, d4, d5, d6, sl_true, sl_false]
        · simpa [Iv.upd, hi, hd, e10, d4, d5, d6] using Aq.app (z := w1.drew) (o := (.cells #[.int .i64 l.id, .int .i64 l.frm, .int .i64 l.to, iP l.m] 67)) (st := (fun y v => y.setCell ⟨g, 2, none⟩ v)) (O := (fun y v => y.ownsRow 0 67 4 v (n.under.length + 1) (flat (encL iP) n.under ++ encL iP l) ∧ (w1.drew.alloc (.cells #[.int .i64 l.id, .int .i64 l.frm, .int .i64 l.to, iP l.m] 67)).grownBy y (Value.slice A n.under.length cap).ownBlock ∧ (v.ownBlock = (Value.slice A n.under.length cap).ownBlock ∨ v.ownBlock = some (w1.drew.alloc (.cells #[.int .i64 l.id, .int .i64 l.frm, .int .i64 l.to, iP l.m] 67)).heap.size))) (v := v2) ⟨ho, ⟨hg.os, hg.tape, hg.output, hg.size, hg.block⟩, hat⟩
      · rintro f a0 y Q' ⟨v1, rfl, hw⟩ hi hd hQ
        replace hQ := Lib.hid hQ
        simp [Iv.depsB, Region.binds] at hd
        try simp only [hi, hd, sl_true, sl_false]
        try simp only [hi, sl_true, sl_false]
        go_wp2_with fail
        refine hQ.out _ _ ⟨v1, ?_, ?_⟩
        · simp [Iv.upd, hi, hd, sl_true, sl_false]
        · simpa [Iv.upd, hi, hd] using hw
      · rintro f a0 y Q' ⟨v1, rfl, hw⟩ hi hd hQ
        replace hQ := Lib.hid hQ
        simp [Iv.depsB, Region.binds] at hd
        try simp only [hi, hd, sl_true, sl_false]
        try simp only [hi, sl_true, sl_false]
        go_wp2_with fail
        refine hQ.out _ _ ⟨v1, ?_, ?_⟩
        · simp [Iv.upd, hi, hd, sl_true, sl_false]
        · simpa [Iv.upd, hi, hd] using hw
      · rintro f a0 y Q' ⟨v1, rfl, hw⟩ hi hd hQ
        replace hQ := Lib.hid hQ
        simp [Iv.depsB, Region.binds] at hd
        try simp only [hi, hd, sl_true, sl_false]
        try simp only [hi, sl_true, sl_false]
        have d7 : f 7 = true := by simp [hd]
        have d9 : f 9 = true := by simp [hd]
        have d4 := (hw.2.2.1 d7).1
        have d6 := (hw.2.2.1 d7).2
        have d5 := hw.2.1 d6
        have hm := hw.1.mid d7 hi
        try simp only [d7, d9, sl_true]
        have hk2 := (hm.2.1.block g (by simp; have := HGL.out; have := HSZ.out; omega) HNE.out).trans (((Below.refl w1.drew.heap.size w1.drew).alloc (Nat.le_refl _) (.cells #[.int .i64 l.id, .int .i64 l.frm, .int .i64 l.to, iP l.m] 67)).block g (by have := HGL.out; have := HSZ.out; show g < w1.heap.size; omega))
        have t0 : y.cell? ⟨g, 2, none⟩ = some (.slice A n.under.length cap) := (World.cell?_of_block (a := ⟨g, 2, none⟩) hk2).trans c2
        have t1 : y.frozen? ⟨g, 2, none⟩ = false := (World.frozen?_of_block (a := ⟨g, 2, none⟩) hk2).trans f2
        obtain ⟨A2, cap2, e2, -, -, -⟩ := own_slice0 hm.1
        subst e2
        clear hk2
        have HM := Lib.hid hm
        clear hm
        go_wp2_with fail
        refine hQ.out _ _ ⟨.slice A2 (n.under.length + 1) cap2, ?_, ?_⟩
        · simp [Iv.upd, hi, hd, d7, d9, sl_true, sl_false]
        · simpa [Iv.upd, hi, hd, d4, d5, d6, d7, d9] using Aq.stored (z := w1.drew) (o := (.cells #[.int .i64 l.id, .int .i64 l.frm, .int .i64 l.to, iP l.m] 67)) (O := (fun y v => y.ownsRow 0 67 4 v (n.under.length + 1) (flat (encL iP) n.under ++ encL iP l) ∧ (w1.drew.alloc (.cells #[.int .i64 l.id, .int .i64 l.frm, .int .i64 l.to, iP l.m] 67)).grownBy y (Value.slice A n.under.length cap).ownBlock ∧ (v.ownBlock = (Value.slice A n.under.length cap).ownBlock ∨ v.ownBlock = some (w1.drew.alloc (.cells #[.int .i64 l.id, .int .i64 l.frm, .int .i64 l.to, iP l.m] 67)).heap.size))) (st := (fun y v => y.setCell ⟨g, 2, none⟩ v)) HM.out
    · rintro f a0 y ⟨v1, rfl, hw⟩ hall
      simp only [hall 0 (by decide), hall 1 (by decide), hall 2 (by decide), hall 3 (by decide), hall 4 (by decide), hall 5 (by decide), hall 6 (by decide), hall 7 (by decide), hall 8 (by decide), hall 9 (by decide), hall 10 (by decide), sl_true, ↓reduceIte] at hw ⊢
      clear hall
      obtain ⟨y0, ⟨ho, hg, hat⟩, rfl⟩ := hw.1.fin rfl rfl
      have HOO := Lib.hid ho
      have HG := Lib.hid hg
      have HAT := Lib.hid hat
      clear hw ho hg hat
      go_wp2_with fail
      go_ret
      refine ⟨rfl, ?_⟩
      have hb2 : Below w1.heap.size w1 (w1.drew.alloc (.cells #[.int .i64 l.id, .int .i64 l.frm, .int .i64 l.to, iP l.m] 67)) := (below_drewN (Below.refl w1.heap.size w1) 1).trans ((Below.refl w1.heap.size (w1.drewN 1)).alloc (Nat.le_refl _) _)
      have x2 := HX1.out.call hb2
      have hq := x2.wentUnder iunlike (y := y0) (v2 := v1) (l := n.under ++ [l]) HFN.out (by rw [List.length_append, flat_append, flat_one]; exact HOO.out) (by rw [HV.out]; exact HG.out) (by rw [HV.out]; exact HAT.out)
      exact (hq.before hb2).before (by rw [HBX.out]; exact HB.out)
    -- TUP
set_option maxHeartbeats 1000000 in
theorem iremove_any (g : Nat) (n : Nt Int) (F : Nat → Prop) (i : Nat) (hi : i < n.under.length) (w : World) (x0 : iNet w g n F) :
    Calls Try.prog 61 #[ptr g, .int .i64 i] w fun e w' => e = .returned (.tuple #[]) ∧ iWent F w w' g (n.drop i) := by
  obtain ⟨mb, v, x⟩ := x0
  have HX := Lib.hid x
  obtain ⟨A, cap, hv, h1, h2, h3⟩ := x.slice
  obtain ⟨l, hl⟩ : ∃ l, n.under[i]? = some l := ⟨_, List.getElem?_eq_getElem hi⟩
  obtain ⟨b, rfl, -⟩ := x.letter hl hv
  have HV := Lib.hid hv
  have hfew := x.fine.few
  obtain ⟨c0, c1, c2, c3⟩ := x.cells
  obtain ⟨f1, f2⟩ := x.free
  rw [hv] at c2
  have hgl := x.low g x.mine.1
  have hgb : g ≠ b := x.gv iunlike (by rw [hv]; rfl)
  have HD := Lib.hid (idelete_any b cap n.under i hi (by omega) w (by have := x.own; rwa [hv] at this))
  have HF : Hid (Fine (n.drop i)) := Lib.hid (x.fine.drop i)
  have HL : Hid ((n.under.take i ++ n.under.drop (i + 1)).length = n.under.length - 1) := Lib.hid (by simp; omega)
  have HH : Hid (∀ w1 : World, w.grownBy w1 (some b) → w1.cell? ⟨g, 2, none⟩ = some (.slice (some ⟨b, 0, none⟩) n.under.length cap) ∧ w1.frozen? ⟨g, 2, none⟩ = false) := Lib.hid fun w1 hg => by
    have hk := hg.block g hgl (fun e => hgb (by injection e))
    exact ⟨(World.cell?_of_block (a := ⟨g, 2, none⟩) hk).trans c2, (World.frozen?_of_block (a := ⟨g, 2, none⟩) hk).trans f2⟩
  clear x hv hl hgl hgb
  go_enter Try.func61, Try.ntmps61
  go_wp2_with fail
  refine HD.out.mono ?_
  rintro e w1 ⟨rfl, ho, hg⟩
  obtain ⟨t0, t1⟩ := HH.out w1 hg
  have HO := Lib.hid ho
  have HG := Lib.hid hg
  clear ho hg HD HH
  go_wp2_with fail
  go_end0
  refine ⟨rfl, ?_⟩
  refine HX.out.wentUnder iunlike (l := n.under.take i ++ n.under.drop (i + 1)) HF.out (by rw [HL.out]; exact HO.out) (by rw [HV.out]; exact HG.out) (by rw [HV.out]; exact .inl rfl)
theorem inew_any (m : Int) (h : 1 ≤ m ∧ m ≤ 64) (w : World) :
    Calls Try.prog 29 #[.int .i64 m] w fun e w' => ∃ g F, e = .returned (.tuple #[ptr g, .int .i64 0]) ∧ Below w.heap.size w w' ∧ (∀ b, F b → w.heap.size ≤ b) ∧ iNet w' g (Nt.new m) F := by
  have hmm := @run_makeMap Try.prog
  go_enter Try.func29, Try.ntmps29
  go_wp2_with fail
  go_ret2
  refine ⟨w.heap.size + 1, fun b => w.heap.size ≤ b ∧ b < w.heap.size + 2, rfl, ?_, fun b hb => hb.1, w.heap.size, .slice none 0 0, Fine.new h, ?_, ?_, ?_, ?_, ?_⟩
  · exact ((Below.refl _ _).alloc (Nat.le_refl _) _).alloc (by simp) _
  · have := Whole.fresh (w.alloc (.map #[] 0)) 97 #[.int .i64 m, .int .i64 0, .slice none 0 0, .map (some w.heap.size)]
    simpa [Nt.new] using this
  · exact (Offs.made w).at (Below.heap_alloc _ _ _ (by simp))
  · exact World.ownsRow_nil _ _ _ _
  · exact ⟨⟨by omega, by omega⟩, ⟨by omega, by omega⟩, fun b hb => by simp [Value.ownBlock] at hb⟩
  · intro b hb
    have := hb.2
    simp; omega
theorem inew_no (m : Int) (h : ¬ (1 ≤ m ∧ m ≤ 64)) (hm : W64 m) (w : World) :
    Calls Try.prog 29 #[.int .i64 m] w fun e w' => e = .returned (.tuple #[.pointer none, .int .i64 90]) ∧ w' = w := by
  unfold W64 at hm
  rcases (show m < 1 ∨ 64 < m by omega) with h1 | h1
  all_goals
    clear h
    go_enter Try.func29, Try.ntmps29
    go_wp2_with fail
    go_ret2
    exact ⟨rfl, rfl⟩
theorem iletters_any (g : Nat) (n : Nt Int) (F : Nat → Prop) (w : World) (x0 : iNet w g n F) :
    Calls Try.prog 33 #[ptr g] w fun e w' => ∃ v, e = .returned v ∧ w'.ownsRow w.heap.size 67 4 v n.under.length (flat (encL iP) n.under) ∧ Below w.heap.size w w' := by
  obtain ⟨mb, v, x⟩ := x0
  obtain ⟨A, cap, hv, h1, h2, h3⟩ := x.slice
  obtain ⟨c0, c1, c2, c3⟩ := x.cells
  rw [hv] at c2
  have hfew := x.fine.few
  have HC := Lib.hid (iclone_any w.heap.size A cap n.under w (Sees.own (by have := x.own; rwa [hv] at this)) (Nat.le_refl _) (by omega) h3)
  clear x hv
  go_enter Try.func33, Try.ntmps33
  go_wp2_with fail
  refine HC.out.mono ?_
  rintro e w1 ⟨v1, rfl, ho, hb⟩
  have HO := Lib.hid ho
  have HB := Lib.hid hb
  clear ho hb HC
  go_wp2_with fail
  go_ret
  exact ⟨_, rfl, HO.out, HB.out⟩
theorem ilose_any (g : Nat) (n : Nt Int) (F : Nat → Prop) (i : Int) (hi : W64 i) (w : World) (x0 : iNet w g n F) :
    Calls Try.prog 32 #[ptr g, .int .i64 i] w fun e w' => e = .returned (.int .i64 (n.lose i).2) ∧ iWent F w w' g (n.lose i).1 := by
  obtain ⟨mb, v, x⟩ := x0
  have HX := Lib.hid x
  have HH := Lib.hid (iholds_any g mb v n F i hi w x)
  rcases n.number i with ⟨hn, -⟩ | ⟨k, l, rfl, hk, hl, hn⟩
  · have HE : Hid (n.lose i = (n, 92)) := Lib.hid (by unfold Nt.lose; rw [if_neg hn])
    rw [HE.out]
    rw [decide_eq_false hn] at HH
    clear x hn
    go_enter Try.func32, Try.ntmps32
    go_wp2_with fail
    refine HH.out.mono ?_
    rintro e w1 ⟨rfl, rfl⟩
    go_wp2_with fail
    go_ret
    exact ⟨rfl, Went.same HX.out (Below.refl _ _)⟩
  · have HE : Hid (n.lose k = (n.drop k, 0)) := Lib.hid (by unfold Nt.lose; rw [if_pos hn]; rfl)
    rw [HE.out]
    rw [decide_eq_true hn] at HH
    have HR := Lib.hid (iremove_any g n F k hk w ⟨mb, v, x⟩)
    clear x hn hl
    go_enter Try.func32, Try.ntmps32
    go_wp2_with fail
    refine HH.out.mono ?_
    rintro e w1 ⟨rfl, rfl⟩
    go_wp2_with fail
    refine HR.out.mono ?_
    rintro e w2 ⟨rfl, hm⟩
    have HM := Lib.hid hm
    clear hm
    go_wp2_with fail
    go_ret
    exact ⟨rfl, HM.out⟩
theorem icopy_any (g : Nat) (n : Nt Int) (F : Nat → Prop) (i : Int) (hi : W64 i) (w : World) (x0 : iNet w g n F) :
    Calls Try.prog 31 #[ptr g, .int .i64 i] w fun e w' => e = .returned (.int .i64 (n.copy i).2) ∧ iWent F w w' g (n.copy i).1 := by
  obtain ⟨mb, v, x⟩ := x0
  have HX := Lib.hid x
  have HH := Lib.hid (iholds_any g mb v n F i hi w x)
  rcases n.number i with ⟨hn, hor⟩ | ⟨k, l, rfl, hk, hl, hn⟩
  · have HE : Hid (n.copy i = (n, 92)) := Lib.hid (by
      unfold Nt.copy
      rcases hor with h | h
      · split
        · rw [if_pos h]
        · rfl
      · rw [h])
    rw [HE.out]
    rw [decide_eq_false hn] at HH
    clear x hn hor
    go_enter Try.func31, Try.ntmps31
    go_wp2_with fail
    refine HH.out.mono ?_
    rintro e w1 ⟨rfl, rfl⟩
    go_wp2_with fail
    go_ret
    exact ⟨rfl, Went.same HX.out (Below.refl _ _)⟩
  · have HE : Hid (n.copy k = n.put l) := Lib.hid (by unfold Nt.copy; rw [show ((k : Int)).toNat = k by omega, hl]; simp only []; rw [if_neg (by omega)])
    rw [HE.out]
    rw [decide_eq_true hn] at HH
    obtain ⟨A, cap, hv, h1, h2, h3⟩ := x.slice
    obtain ⟨b, rfl, d0, d1, d2, d3⟩ := x.letter hl hv
    obtain ⟨c0, c1, c2, c3⟩ := x.cells
    rw [hv] at c2
    have hfew := x.fine.few
    have HP := Lib.hid (iput_any g n F l (x.fine.good l (List.mem_of_getElem? hl)) w ⟨mb, v, x⟩)
    clear x hn hl hv
    go_enter Try.func31, Try.ntmps31
    go_wp2_with fail
    refine HH.out.mono ?_
    rintro e w1 ⟨rfl, rfl⟩
    go_wp2_with fail
    refine HP.out.mono ?_
    rintro e w2 ⟨rfl, hm⟩
    have HM := Lib.hid hm
    clear hm
    go_wp2_with fail
    go_ret
    exact ⟨rfl, HM.out⟩
end Go.Proofs.Ytmbednikbdfnmaa
