/- Contracts at layer 13: wait. (Written by glokx.py.) -/
import Derived.Test.YtcjefigcaifmeaaLokV
namespace Go.Proofs.Ytcjefigcaifmeaa
open Go.RowKit Go.Lk
set_option linter.unusedVariables false
set_option linter.unusedSimpArgs false
set_option maxRecDepth 100000
/-- Where wait stands: the table's blocks are old ones of it, or new. -/
structure Wt (s0 : Tb) (loc0 : Nm → Nat) (w0 w : World) (s : Tb) (loc : Nm → Nat) (aa : Nat) (x : Int) (b : Bool) : Prop where
  t : Tm w s loc
  face : loc .face = loc0 .face
  ask : Whole w aa 60 #[.int .i64 x, .bool b]
  off : Off (Foot s0 loc0) w0 w
  new : ∀ n, live s n = true → Foot s0 loc0 (loc n) ∨ (w0.heap.size ≤ loc n ∧ loc n ≠ aa)
  low : ∀ i, Foot s0 loc0 i → i < w0.heap.size
  ahead : w0.heap.size ≤ aa
section
variable {s0 s : Tb} {loc0 loc : Nm → Nat} {w0 w w' : World} {aa : Nat} {x : Int} {b : Bool}
theorem Wt.call (h : Wt s0 loc0 w0 w s loc aa x b) (hb : Below w.heap.size w w') : Wt s0 loc0 w0 w' s loc aa x b := ⟨h.t.call hb, h.face, h.ask.below hb h.ask.lt, h.off.call hb, h.new, h.low, h.ahead⟩
theorem Wt.cells (h : Wt s0 loc0 w0 w s loc aa x b) : w.cell? ⟨loc0 .face, 0, none⟩ = some (.map (some (loc .rows))) ∧ w.cell? ⟨loc0 .face, 1, none⟩ = some (.map (some (loc .pars))) ∧ loc0 .face < w.heap.size ∧ w.cell? ⟨aa, 0, none⟩ = some (.int .i64 x) ∧ w.cell? ⟨aa, 1, none⟩ = some (.bool b) ∧ aa < w.heap.size := by
  obtain ⟨c0, c1, cz⟩ := h.t.face
  rw [h.face] at c0 c1 cz
  exact ⟨c0, c1, cz, h.ask.cell 0, h.ask.cell 1, h.ask.lt⟩
theorem Wt.ne (h : Wt s0 loc0 w0 w s loc aa x b) {n : Nm} (hn : live s n = true) : aa ≠ loc n := fun e => by
  rcases h.new n hn with h1 | h1
  · have := h.low _ h1
    have := h.ahead
    omega
  · exact h1.2 e.symm
theorem Wt.offs (h : Wt s0 loc0 w0 w s loc aa x b) {n : Nm} (hn : live s n = true) (ho : Off (fun i => i = loc n) w w') : Whole w' aa 60 #[.int .i64 x, .bool b] ∧ Off (Foot s0 loc0) w0 w' := by
  refine ⟨ho.whole h.ask (h.ne hn), ?_⟩
  rcases h.new n hn with h1 | h1
  · exact h.off.trans (off_more ho fun i hi => by subst hi; exact h1)
  · refine ⟨ho.os.trans h.off.os, ho.tape.trans h.off.tape, ho.output.trans h.off.output, Nat.le_trans h.off.size ho.size, fun i hi hg => ?_⟩
    exact (ho.block i (Nat.lt_of_lt_of_le hi h.off.size) fun e => by have := h1.1; omega).trans (h.off.block i hi hg)
/-- One block of the table has changed. -/
theorem Wt.step {s' : Tb} (h : Wt s0 loc0 w0 w s loc aa x b) {n : Nm} (hn : live s n = true) (ho : Off (fun i => i = loc n) w w') (t : Tm w' s' loc) (hl : ∀ n, live s' n = true → live s n = true) : Wt s0 loc0 w0 w' s' loc aa x b :=
  ⟨t, h.face, (h.offs hn ho).1, (h.offs hn ho).2, fun k hk => h.new k (hl k hk), h.low, h.ahead⟩
theorem Wt.went (h : Wt s0 loc0 w0 w s loc aa x b) : WentT (Foot s0 loc0) w0 w (loc0 .face) s :=
  ⟨h.off, Foot s loc, fun i ⟨n, hn, e⟩ => by
    rcases h.new n hn with h1 | h1
    · exact .inl (e ▸ h1)
    · exact .inr (e ▸ h1.1), loc, h.face, h.t, fun i => Iff.rfl⟩
end
set_option maxHeartbeats 16000000 in
theorem lwait_any {s : Tb} {loc : Nm → Nat} {K : Int → Prop} (x : Int) (b : Bool) (k : Int) (hx : 1 ≤ x ∧ x ≤ 9223372036854775807) (hk : isK k = true) (w : World) (T : Tm w s loc) (m : Mid s K) (hn : cntT s ≤ 1000000) :
    Calls Try.prog 21 #[ptr (loc .face), hE ⟨x, b⟩, .int .i64 k] w fun e w' => e = .returned (.tuple #[]) ∧ WentT (Foot s loc) w w' (loc .face) (waitS s x b k) := by
  have hmm := @run_makeMap Try.prog
  have hx64 : W64 x := by unfold W64; omega
  have hk64 : W64 k := by have := (isK_iff k).1 hk; unfold W64; omega
  have HMI := Lib.hid m
  have HN := Lib.hid hn
  have HLOW : Hid (∀ b, Foot s loc b → b < w.heap.size) := Lib.hid fun b hb => T.low hb
  have hb0 := (Below.refl w.heap.size w).alloc (Nat.le_refl _) (.cells #[.int .i64 x, .bool b] 60)
  have H0 : Hid (Wt s loc w (w.alloc (.cells #[.int .i64 x, .bool b] 60)) s loc w.heap.size x b) := Lib.hid ⟨T.call hb0, rfl, Whole.fresh w _ _, .of hb0 _, fun n hn => .inl ⟨n, hn, rfl⟩, HLOW.out, Nat.le_refl _⟩
  have hrw : (supp (rowF s loc)).length ≤ 8192 := keys_few (Mv.fin (T.has .rows rfl)) fun j hj => (m.rowk j (by unfold rowF at hj; split at hj; assumption; cases hj)).1
  have hpw : (supp (parF s loc)).length ≤ 1000000 := by
    have e1 : ∀ y, (parF s loc y).isSome = (innF s y).isSome := fun y => by unfold parF innF; split <;> rfl
    have e2 : supp (parF s loc) = supp (innF s) := supp_eq (supp_rises m.fin) fun y => by rw [supp_mem m.fin, e1]
    rw [e2]; exact hn
  clear T m hb0 hn
  have hl := (H0.out.t.rows hk64).1
  go_enter Try.func21, Try.ntmps21
  obtain ⟨c0, c1, cz, a0, a1, az⟩ := H0.out.cells
  have cz2 : loc .face < w.heap.size + 1 := by simpa using cz
  cases hr : s.row k with
  | false =>
    rw [rowV_out hr, hr] at hl
    have hnn : ∀ y, s.h k y = none ∧ s.w k y = none := fun y => ⟨none_of (fun h => by obtain ⟨c, hc⟩ := some_of h; have := (HMI.out.hin k y c hc).2; rw [hr] at this; cases this), none_of (fun h => by obtain ⟨c, hc⟩ := some_of h; have := (HMI.out.win k y c hc).2; rw [hr] at this; cases this)⟩
    have HNN := Lib.hid hnn
    have HR := Lib.hid hr
    have hb1 := ((((Below.refl (w.alloc (.cells #[.int .i64 x, .bool b] 60)).heap.size (w.alloc (.cells #[.int .i64 x, .bool b] 60))).alloc (Nat.le_refl _) (.cells #[.map none, .map none] 63)).alloc (by simp) (.map #[] 0)).alloc (by simp <;> omega) (.map #[] 0))
    have HX := Lib.hid (H0.out.call hb1)
    have HMA : Hid (Mh ((((w.alloc (.cells #[.int .i64 x, .bool b] 60)).alloc (.cells #[.map none, .map none] 63)).alloc (.map #[] 0)).alloc (.map #[] 0)) (w.heap.size + 1 + 1) fun _ => none) := Lib.hid (by
      have := (Mv.made (enc := hE) ((w.alloc (.cells #[.int .i64 x, .bool b] 60)).alloc (.cells #[.map none, .map none] 63))).call ((Below.refl _ _).alloc (Nat.le_refl _) (.map #[] 0))
      simp only [World.size_alloc] at this
      exact this.congr fun _ => rfl)
    have HMB : Hid (Mh ((((w.alloc (.cells #[.int .i64 x, .bool b] 60)).alloc (.cells #[.map none, .map none] 63)).alloc (.map #[] 0)).alloc (.map #[] 0)) (w.heap.size + 1 + 1 + 1) fun _ => none) := Lib.hid (by
      have := Mv.made (enc := hE) (((w.alloc (.cells #[.int .i64 x, .bool b] 60)).alloc (.cells #[.map none, .map none] 63)).alloc (.map #[] 0))
      simp only [World.size_alloc] at this
      exact this.congr fun _ => rfl)
    have hmr : Mv rE _ (loc .rows) (rowF s loc) := HX.out.t.has .rows rfl
    clear hb1 hnn hr
    go_wp2_with (at_mapUpdate; refine wpList_put_mv _ rE_inj rfl _ _ _ 50 rfl 63 Try.underlying50 (loc .rows) (rowF s loc) rfl hmr k rfl hk64 (some (w.heap.size + 1 + 1), some (w.heap.size + 1 + 1 + 1)) rfl (by omega) ?_)
    intro w1 hm1 ho1 hs1
    clear hs1
    have HSZ : Hid (((((w.alloc (.cells #[.int .i64 x, .bool b] 60)).alloc (.cells #[.map none, .map none] 63)).alloc (.map #[] 0)).alloc (.map #[] 0)).heap.size = w.heap.size + 1 + 1 + 1 + 1) := Lib.hid (by simp)
    have hlr : loc .rows < w.heap.size := HLOW.out _ ⟨.rows, rfl, rfl⟩
    have HT1 : Hid (Tm w1 ({ s with row := upd s.row k true }) (locR loc k (w.heap.size + 1 + 1) (w.heap.size + 1 + 1 + 1))) := Lib.hid (by
      have hoff : Off (fun i => i = loc .rows) (w.alloc (.cells #[.int .i64 x, .bool b] 60)) w1 := (Off.of ((((Below.refl _ _).alloc (Nat.le_refl _) (.cells #[.map none, .map none] 63)).alloc (by simp) (.map #[] 0)).alloc (by simp <;> omega) (.map #[] 0)) _).trans ho1
      exact H0.out.t.addRow HR.out HNN.out (by simp <;> omega) (by simp <;> omega) (by omega) hoff hm1 (HMA.out.offG ho1 (by omega)) (HMB.out.offG ho1 (by omega)))
    obtain ⟨loc1, HLC⟩ : ∃ l, Hid (l = locR loc k (w.heap.size + 1 + 1) (w.heap.size + 1 + 1 + 1)) := ⟨_, Lib.hid rfl⟩
    have HQ : Hid (Wt s loc w w1 ({ s with row := upd s.row k true }) loc1 w.heap.size x b) := Lib.hid (by
      rw [HLC.out]
      refine ⟨HT1.out, rfl, ho1.whole HX.out.ask (by omega), HX.out.off.trans (off_more ho1 fun i hi => by subst hi; exact ⟨.rows, rfl, rfl⟩), fun n hn => ?_, HLOW.out, Nat.le_refl _⟩
      cases n with
      | h j =>
        by_cases e : j = k
        · refine .inr ⟨?_, ?_⟩ <;> (simp only [locR, if_pos e]; omega)
        · refine .inl ⟨.h j, ?_, (if_neg e).symm⟩
          have : upd s.row k true j = true := hn
          rwa [upd_other _ e] at this
      | w j =>
        by_cases e : j = k
        · refine .inr ⟨?_, ?_⟩ <;> (simp only [locR, if_pos e]; omega)
        · refine .inl ⟨.w j, ?_, (if_neg e).symm⟩
          have : upd s.row k true j = true := hn
          rwa [upd_other _ e] at this
      | face => exact .inl ⟨.face, rfl, rfl⟩
      | rows => exact .inl ⟨.rows, rfl, rfl⟩
      | pars => exact .inl ⟨.pars, rfl, rfl⟩
      | p j => exact .inl ⟨.p j, hn, rfl⟩
      | ks j => exact .inl ⟨.ks j, hn, rfl⟩)
    have hpw1 : (supp (parF ({ s with row := upd s.row k true }) loc1)).length ≤ 1000000 := by rw [HLC.out]; exact hpw
    have hlp := (HQ.out.t.pars hx64).1
    clear HX HMA HMB hmr hm1 ho1 HT1 H0 hpw hrw HLC HNN HR HSZ c0 c1 cz cz2 a0 a1 az hl
    cases hi : s.inn x with
    | false =>
      have hi9 : ({ s with row := upd s.row k true } : Tb).inn x = false := hi
      rw [parF_out (s := { s with row := upd s.row k true }) hi9, hi9] at hlp
      clear hi9
      obtain ⟨C, hC, HCc, HCf⟩ := below_class w1
      go_wp2_with fail
      refine region_in C hC (by kernel_rfl) (by kernel_rfl) ?_
      iterate 12
        (refine WQ.step (fun K hK => ?_)
         go_simp
         first
           | (refine hK _ ?_; clear hK K)
           | (apply Exists.intro
              refine ⟨fun z hz => ?_, hK _ ?_⟩
              · first
                  | rfl
                  | (have TZ := HQ.out.call (HCf.out _ hz); obtain ⟨k0, k1, kz, q0, q1, qz⟩ := TZ.cells; have hlp := (TZ.t.pars hx64).1; (first | rw [parF_in (s := { s with row := upd s.row k true }) hi, show ({ s with row := upd s.row k true } : Tb).inn x = true from hi] at hlp | rw [parF_out (s := { s with row := upd s.row k true }) hi, show ({ s with row := upd s.row k true } : Tb).inn x = false from hi] at hlp); go_simp; rfl)
              clear hK K))
      refine WQ.nil ?_
      intro w2 hw
      have HBW := Lib.hid (HCf.out _ hw)
      clear hw hC HCc HCf C
      have HQ2 := Lib.hid (HQ.out.call HBW.out)
      clear HBW HQ hlp
      have HI := Lib.hid hi
      have HDF := Lib.hid (mid_deadF HMI.out hi)
      have HKS : Hid (∀ j, s.ks x j = false) := Lib.hid fun j => by
        cases e : s.ks x j with
        | false => rfl
        | true => have := (HMI.out.ksx x j e).1; rw [HI.out] at this; cases this
      have hb3 := ((Below.refl w2.heap.size w2).alloc (Nat.le_refl _) (.map #[] 0)).alloc (by simp) (.cells #[.map (some w2.heap.size), .bool false, .bool false] 69)
      have HQ : Hid (Wt s loc w ((w2.alloc (.map #[] 0)).alloc (.cells #[.map (some w2.heap.size), .bool false, .bool false] 69)) ({ s with row := upd s.row k true }) loc1 w.heap.size x b) := Lib.hid (HQ2.out.call hb3)
      have HMU : Hid (Mv uE ((w2.alloc (.map #[] 0)).alloc (.cells #[.map (some w2.heap.size), .bool false, .bool false] 69)) w2.heap.size fun _ => none) := Lib.hid ((Mv.made (enc := uE) w2).call ((Below.refl _ _).alloc (Nat.le_refl _) _))
      have HWP : Hid (Whole ((w2.alloc (.map #[] 0)).alloc (.cells #[.map (some w2.heap.size), .bool false, .bool false] 69)) (w2.heap.size + 1) 69 #[.map (some w2.heap.size), .bool false, .bool false]) := Lib.hid (by
        have := Whole.fresh (w2.alloc (.map #[] 0)) 69 #[.map (some w2.heap.size), .bool false, .bool false]
        simpa using this)
      clear hi
      obtain ⟨C, hC, HCc, HCf⟩ := below_class ((w2.alloc (.map #[] 0)).alloc (.cells #[.map (some w2.heap.size), .bool false, .bool false] 69))
      go_wp2_with fail
      refine region_inT 7 C hC (by kernel_rfl) (by kernel_rfl) ?_
      simp only [List.take_succ_cons, List.take_zero, List.drop_succ_cons, List.drop_zero]
      iterate 7
        (refine WQ.step (fun K hK => ?_)
         go_simp
         first
           | (refine hK _ ?_; clear hK K)
           | (apply Exists.intro
              refine ⟨fun z hz => ?_, hK _ ?_⟩
              · first
                  | rfl
                  | (have TZ := HQ.out.call (HCf.out _ hz); obtain ⟨k0, k1, kz, q0, q1, qz⟩ := TZ.cells;  go_simp; rfl)
              clear hK K))
      refine WQ.nil ?_
      intro w3 hw
      have HBW := Lib.hid (HCf.out _ hw)
      clear hw hC HCc HCf C
      have HQ3 := Lib.hid (HQ.out.call HBW.out)
      have hmp : Mv pE w3 (loc1 .pars) (parF ({ s with row := upd s.row k true }) loc1) := HQ3.out.t.has .pars rfl
      have HMU3 := Lib.hid (HMU.out.call HBW.out)
      have HWP3 := Lib.hid (HWP.out.below HBW.out HWP.out.lt)
      have HB23 := Lib.hid (hb3.trans (HBW.out.mono hb3.size))
      go_wp2_with (at_mapUpdate; refine wpList_put_mv _ pE_inj rfl _ _ _ 51 rfl 70 Try.underlying51 (loc1 .pars) (parF ({ s with row := upd s.row k true }) loc1) rfl hmp x rfl hx64 (some (w2.heap.size + 1)) rfl (by omega) ?_)
      intro w4 hm4 ho4 hs4
      clear hs4
      have hlp2 : loc1 .pars < w2.heap.size := (HQ2.out.t.has .pars rfl).lt
      have HT4 : Hid (Tm w4 ({ s with row := upd s.row k true, inn := upd s.inn x true }) (locP loc1 x (w2.heap.size + 1) w2.heap.size)) := Lib.hid (by
        have hoff : Off (fun i => i = loc1 .pars) w2 w4 := (Off.of HB23.out _).trans ho4
        exact HQ2.out.t.addPar HI.out HKS.out HDF.out.2 HDF.out.1 (by omega) (Nat.le_refl _) (by omega) hoff hm4 (ho4.whole HWP3.out (by omega)) (HMU3.out.offG ho4 (by omega)))
      obtain ⟨loc2, HLC⟩ : ∃ l, Hid (l = locP loc1 x (w2.heap.size + 1) w2.heap.size) := ⟨_, Lib.hid rfl⟩
      have haa := HQ2.out.ask.lt
      have hw02 := HQ2.out.off.size
      have HQ4 : Hid (Wt s loc w w4 ({ s with row := upd s.row k true, inn := upd s.inn x true }) loc2 w.heap.size x b) := Lib.hid (by
        rw [HLC.out]
        have h5 := HQ3.out.offs (n := .pars) rfl ho4
        refine ⟨HT4.out, HQ3.out.face, h5.1, h5.2, fun n hn => ?_, HLOW.out, Nat.le_refl _⟩
        cases n with
        | p j =>
          by_cases e : j = x
          · refine .inr ⟨?_, ?_⟩ <;> (simp only [locP, if_pos e]; omega)
          · have h6 : upd s.inn x true j = true := hn
            rw [upd_other _ e] at h6
            simp only [locP, if_neg e]
            exact HQ3.out.new (.p j) h6
        | ks j =>
          by_cases e : j = x
          · refine .inr ⟨?_, ?_⟩ <;> (simp only [locP, if_pos e]; omega)
          · have h6 : upd s.inn x true j = true := hn
            rw [upd_other _ e] at h6
            simp only [locP, if_neg e]
            exact HQ3.out.new (.ks j) h6
        | face => exact HQ3.out.new .face rfl
        | rows => exact HQ3.out.new .rows rfl
        | pars => exact HQ3.out.new .pars rfl
        | h j => exact HQ3.out.new (.h j) hn
        | w j => exact HQ3.out.new (.w j) hn)
      have HPP : Hid (loc2 (.p x) = w2.heap.size + 1) := Lib.hid (by rw [HLC.out]; exact if_pos rfl)
      clear HQ HMU HWP HQ3 hmp HMU3 HWP3 HB23 hm4 ho4 HT4 HLC HQ2 hb3 HBW HI HDF HKS
      have HQ := HQ4
      have hrow : ({ s with row := upd s.row k true, inn := upd s.inn x true } : Tb).row k = true := upd_same _ _ _
      have hinn : ({ s with row := upd s.row k true, inn := upd s.inn x true } : Tb).inn x = true := upd_same _ _ _
      have HROW := Lib.hid hrow
      have HINN := Lib.hid hinn
      clear hrow hinn
      obtain ⟨C, hC, HCc, HCf⟩ := below_class w4
      go_wp2_with fail
      refine region_inT 10 C hC (by kernel_rfl) (by kernel_rfl) ?_
      simp only [List.take_succ_cons, List.take_zero, List.drop_succ_cons, List.drop_zero]
      iterate 10
        (refine WQ.step (fun K hK => ?_)
         go_simp
         first
           | (refine hK _ ?_; clear hK K)
           | (apply Exists.intro
              refine ⟨fun z hz => ?_, hK _ ?_⟩
              · first
                  | rfl
                  | (have TZ := HQ.out.call (HCf.out _ hz); obtain ⟨k0, k1, kz, q0, q1, qz⟩ := TZ.cells; have hlq := (TZ.t.rows hk64).2; rw [rowV_in HROW.out] at hlq; go_simp; rfl)
                  | (rw [(run_field_row (some (loc2 (.h k))) (some (loc2 (.w k))) _).2]; exact ⟨rfl, rfl⟩)
              clear hK K))
      refine WQ.nil ?_
      intro w5 hw
      have HBW := Lib.hid (HCf.out _ hw)
      clear hw hC HCc HCf C
      have HQ5 := Lib.hid (HQ.out.call HBW.out)
      have hmw : Mh w5 (loc2 (.w k)) (s.w k) := HQ5.out.t.has (.w k) HROW.out
      have hwl : (supp (hF (s.w k))).length ≤ 1000000000 := by
        rw [supp_hF _ (HMI.out.finw k)]
        have := mid_feww HMI.out k
        have := HN.out
        omega
      clear HBW HQ HQ4
      go_wp2_with (at_mapUpdate; refine wpList_put_mv _ hE_inj rfl _ _ _ 61 rfl 60 Try.underlying61 (loc2 (.w k)) (hF (s.w k)) rfl hmw x rfl hx64 ⟨x, b⟩ rfl hwl ?_)
      intro w6 hm6 ho6 hs6
      clear hs6
      rw [hF_upd] at hm6
      have HQ6 := Lib.hid (HQ5.out.step (n := .w k) HROW.out ho6 (HQ5.out.t.setw HROW.out hm6 ho6) fun n hn => by cases n <;> exact hn)
      obtain ⟨p0, p1, p2, pf1, pf2, pz⟩ := HQ6.out.t.pcells (x := x) HINN.out
      rw [HPP.out] at p0 p1 p2 pf1 pf2 pz
      have hmk : Mv uE w6 (loc2 (.ks x)) (uF (s.ks x)) := HQ6.out.t.has (.ks x) HINN.out
      have hkl : (supp (uF (s.ks x))).length ≤ 1000000000 := by
        have := keys_few hmk.fin fun j hj => (HMI.out.ksx x j (by unfold uF at hj; split at hj; assumption; cases hj)).2.1
        omega
      clear HQ5 hmw hwl hm6 ho6
      go_wp2_with (at_mapUpdate; refine wpList_put_mv _ uE_inj rfl _ _ _ 67 rfl 88 Try.underlying67 (loc2 (.ks x)) (uF (s.ks x)) rfl hmk k rfl hk64 () rfl hkl ?_)
      intro w7 hm7 ho7 hs7
      clear hs7
      rw [uF_upd] at hm7
      have HQ7 := Lib.hid (HQ6.out.step (n := .ks x) HINN.out ho7 (HQ6.out.t.setks HINN.out hm7 ho7) fun n hn => by cases n <;> exact hn)
      clear p0 p1 p2 pf1 pf2 pz HQ6 hmk hkl hm7 ho7
      obtain ⟨p0, p1, p2, pf1, pf2, pz⟩ := HQ7.out.t.pcells (x := x) HINN.out
      rw [HPP.out] at p0 p1 p2 pf1 pf2 pz
      have HQ8 := Lib.hid (HQ7.out.step (n := .p x) HINN.out ((Off.refl (fun i => i = loc2 (.p x)) w7).set (p := ⟨loc2 (.p x), 1, none⟩) (.inl rfl) (.bool true)) (HQ7.out.t.setwt HINN.out true) fun n hn => by cases n <;> exact hn)
      rw [HPP.out] at HQ8
      go_wp2_with fail
      go_end0
      exact ⟨rfl, HQ8.out.went⟩
    | true =>
      have hi9 : ({ s with row := upd s.row k true } : Tb).inn x = true := hi
      rw [parF_in (s := { s with row := upd s.row k true }) hi9, hi9] at hlp
      clear hi9
      obtain ⟨C, hC, HCc, HCf⟩ := below_class w1
      go_wp2_with fail
      refine region_in C hC (by kernel_rfl) (by kernel_rfl) ?_
      iterate 12
        (refine WQ.step (fun K hK => ?_)
         go_simp
         first
           | (refine hK _ ?_; clear hK K)
           | (apply Exists.intro
              refine ⟨fun z hz => ?_, hK _ ?_⟩
              · first
                  | rfl
                  | (have TZ := HQ.out.call (HCf.out _ hz); obtain ⟨k0, k1, kz, q0, q1, qz⟩ := TZ.cells; have hlp := (TZ.t.pars hx64).1; (first | rw [parF_in (s := { s with row := upd s.row k true }) hi, show ({ s with row := upd s.row k true } : Tb).inn x = true from hi] at hlp | rw [parF_out (s := { s with row := upd s.row k true }) hi, show ({ s with row := upd s.row k true } : Tb).inn x = false from hi] at hlp); go_simp; rfl)
              clear hK K))
      refine WQ.nil ?_
      intro w2 hw
      have HBW := Lib.hid (HCf.out _ hw)
      clear hw hC HCc HCf C
      have HQ2 := Lib.hid (HQ.out.call HBW.out)
      clear HBW HQ hlp
      have e2 : { s with row := upd s.row k true, inn := upd s.inn x true } = { s with row := upd s.row k true } := by
        have : upd s.inn x true = s.inn := by rw [← hi]; exact upd_id _ _
        show ({ s with row := upd s.row k true, inn := upd s.inn x true } : Tb) = _
        rw [this]
      have HQ3 : Hid (Wt s loc w w2 ({ s with row := upd s.row k true, inn := upd s.inn x true }) loc1 w.heap.size x b) := Lib.hid (by rw [e2]; exact HQ2.out)
      obtain ⟨loc2, HLC⟩ : ∃ l, Hid (l = loc1) := ⟨loc1, Lib.hid rfl⟩
      have HQ4 : Hid (Wt s loc w w2 ({ s with row := upd s.row k true, inn := upd s.inn x true }) loc2 w.heap.size x b) := Lib.hid (by rw [HLC.out]; exact HQ3.out)
      have HPP : Hid (loc2 (.p x) = loc1 (.p x)) := Lib.hid (by rw [HLC.out])
      clear HQ2 HQ3 HLC e2
      have HQ := HQ4
      have hrow : ({ s with row := upd s.row k true, inn := upd s.inn x true } : Tb).row k = true := upd_same _ _ _
      have hinn : ({ s with row := upd s.row k true, inn := upd s.inn x true } : Tb).inn x = true := upd_same _ _ _
      have HROW := Lib.hid hrow
      have HINN := Lib.hid hinn
      clear hrow hinn
      obtain ⟨C, hC, HCc, HCf⟩ := below_class w2
      go_wp2_with fail
      refine region_inT 10 C hC (by kernel_rfl) (by kernel_rfl) ?_
      simp only [List.take_succ_cons, List.take_zero, List.drop_succ_cons, List.drop_zero]
      iterate 10
        (refine WQ.step (fun K hK => ?_)
         go_simp
         first
           | (refine hK _ ?_; clear hK K)
           | (apply Exists.intro
              refine ⟨fun z hz => ?_, hK _ ?_⟩
              · first
                  | rfl
                  | (have TZ := HQ.out.call (HCf.out _ hz); obtain ⟨k0, k1, kz, q0, q1, qz⟩ := TZ.cells; have hlq := (TZ.t.rows hk64).2; rw [rowV_in HROW.out] at hlq; go_simp; rfl)
                  | (rw [(run_field_row (some (loc2 (.h k))) (some (loc2 (.w k))) _).2]; exact ⟨rfl, rfl⟩)
              clear hK K))
      refine WQ.nil ?_
      intro w5 hw
      have HBW := Lib.hid (HCf.out _ hw)
      clear hw hC HCc HCf C
      have HQ5 := Lib.hid (HQ.out.call HBW.out)
      have hmw : Mh w5 (loc2 (.w k)) (s.w k) := HQ5.out.t.has (.w k) HROW.out
      have hwl : (supp (hF (s.w k))).length ≤ 1000000000 := by
        rw [supp_hF _ (HMI.out.finw k)]
        have := mid_feww HMI.out k
        have := HN.out
        omega
      clear HBW HQ HQ4
      go_wp2_with (at_mapUpdate; refine wpList_put_mv _ hE_inj rfl _ _ _ 61 rfl 60 Try.underlying61 (loc2 (.w k)) (hF (s.w k)) rfl hmw x rfl hx64 ⟨x, b⟩ rfl hwl ?_)
      intro w6 hm6 ho6 hs6
      clear hs6
      rw [hF_upd] at hm6
      have HQ6 := Lib.hid (HQ5.out.step (n := .w k) HROW.out ho6 (HQ5.out.t.setw HROW.out hm6 ho6) fun n hn => by cases n <;> exact hn)
      obtain ⟨p0, p1, p2, pf1, pf2, pz⟩ := HQ6.out.t.pcells (x := x) HINN.out
      rw [HPP.out] at p0 p1 p2 pf1 pf2 pz
      have hmk : Mv uE w6 (loc2 (.ks x)) (uF (s.ks x)) := HQ6.out.t.has (.ks x) HINN.out
      have hkl : (supp (uF (s.ks x))).length ≤ 1000000000 := by
        have := keys_few hmk.fin fun j hj => (HMI.out.ksx x j (by unfold uF at hj; split at hj; assumption; cases hj)).2.1
        omega
      clear HQ5 hmw hwl hm6 ho6
      go_wp2_with (at_mapUpdate; refine wpList_put_mv _ uE_inj rfl _ _ _ 67 rfl 88 Try.underlying67 (loc2 (.ks x)) (uF (s.ks x)) rfl hmk k rfl hk64 () rfl hkl ?_)
      intro w7 hm7 ho7 hs7
      clear hs7
      rw [uF_upd] at hm7
      have HQ7 := Lib.hid (HQ6.out.step (n := .ks x) HINN.out ho7 (HQ6.out.t.setks HINN.out hm7 ho7) fun n hn => by cases n <;> exact hn)
      clear p0 p1 p2 pf1 pf2 pz HQ6 hmk hkl hm7 ho7
      obtain ⟨p0, p1, p2, pf1, pf2, pz⟩ := HQ7.out.t.pcells (x := x) HINN.out
      rw [HPP.out] at p0 p1 p2 pf1 pf2 pz
      have HQ8 := Lib.hid (HQ7.out.step (n := .p x) HINN.out ((Off.refl (fun i => i = loc2 (.p x)) w7).set (p := ⟨loc2 (.p x), 1, none⟩) (.inl rfl) (.bool true)) (HQ7.out.t.setwt HINN.out true) fun n hn => by cases n <;> exact hn)
      rw [HPP.out] at HQ8
      go_wp2_with fail
      go_end0
      exact ⟨rfl, HQ8.out.went⟩
  | true =>
    rw [rowV_in hr, hr] at hl
    have e1 : { s with row := upd s.row k true } = s := by
      rw [show upd s.row k true = s.row by rw [← hr]; exact upd_id _ _]
    have HQ0 : Hid (Wt s loc w ((w.alloc (.cells #[.int .i64 x, .bool b] 60)).alloc (.cells #[.map (some (loc (.h k))), .map (some (loc (.w k)))] 63)) ({ s with row := upd s.row k true }) loc w.heap.size x b) := Lib.hid (by
      rw [e1]
      exact H0.out.call ((Below.refl _ _).alloc (Nat.le_refl _) _))
    obtain ⟨loc1, HLC⟩ : ∃ l, Hid (l = loc) := ⟨loc, Lib.hid rfl⟩
    have HQ : Hid (Wt s loc w ((w.alloc (.cells #[.int .i64 x, .bool b] 60)).alloc (.cells #[.map (some (loc (.h k))), .map (some (loc (.w k)))] 63)) ({ s with row := upd s.row k true }) loc1 w.heap.size x b) := Lib.hid (by rw [HLC.out]; exact HQ0.out)
    have hpw1 : (supp (parF ({ s with row := upd s.row k true }) loc1)).length ≤ 1000000 := by rw [HLC.out, e1]; exact hpw
    have hlp := (HQ.out.t.pars hx64).1
    clear HQ0 H0 hpw hrw e1 HLC hr
    cases hi : s.inn x with
    | false =>
      have hi9 : ({ s with row := upd s.row k true } : Tb).inn x = false := hi
      rw [parF_out (s := { s with row := upd s.row k true }) hi9, hi9] at hlp
      clear hi9
      obtain ⟨C, hC, HCc, HCf⟩ := below_class ((w.alloc (.cells #[.int .i64 x, .bool b] 60)).alloc (.cells #[.map (some (loc (.h k))), .map (some (loc (.w k)))] 63))
      go_wp2_with fail
      refine region_in C hC (by kernel_rfl) (by kernel_rfl) ?_
      iterate 12
        (refine WQ.step (fun K hK => ?_)
         go_simp
         first
           | (refine hK _ ?_; clear hK K)
           | (apply Exists.intro
              refine ⟨fun z hz => ?_, hK _ ?_⟩
              · first
                  | rfl
                  | (have TZ := HQ.out.call (HCf.out _ hz); obtain ⟨k0, k1, kz, q0, q1, qz⟩ := TZ.cells; have hlp := (TZ.t.pars hx64).1; (first | rw [parF_in (s := { s with row := upd s.row k true }) hi, show ({ s with row := upd s.row k true } : Tb).inn x = true from hi] at hlp | rw [parF_out (s := { s with row := upd s.row k true }) hi, show ({ s with row := upd s.row k true } : Tb).inn x = false from hi] at hlp); go_simp; rfl)
              clear hK K))
      refine WQ.nil ?_
      intro w2 hw
      have HBW := Lib.hid (HCf.out _ hw)
      clear hw hC HCc HCf C
      have HQ2 := Lib.hid (HQ.out.call HBW.out)
      clear HBW HQ hlp
      clear c0 c1 cz cz2 a0 a1 az hl
      have HI := Lib.hid hi
      have HDF := Lib.hid (mid_deadF HMI.out hi)
      have HKS : Hid (∀ j, s.ks x j = false) := Lib.hid fun j => by
        cases e : s.ks x j with
        | false => rfl
        | true => have := (HMI.out.ksx x j e).1; rw [HI.out] at this; cases this
      have hb3 := ((Below.refl w2.heap.size w2).alloc (Nat.le_refl _) (.map #[] 0)).alloc (by simp) (.cells #[.map (some w2.heap.size), .bool false, .bool false] 69)
      have HQ : Hid (Wt s loc w ((w2.alloc (.map #[] 0)).alloc (.cells #[.map (some w2.heap.size), .bool false, .bool false] 69)) ({ s with row := upd s.row k true }) loc1 w.heap.size x b) := Lib.hid (HQ2.out.call hb3)
      have HMU : Hid (Mv uE ((w2.alloc (.map #[] 0)).alloc (.cells #[.map (some w2.heap.size), .bool false, .bool false] 69)) w2.heap.size fun _ => none) := Lib.hid ((Mv.made (enc := uE) w2).call ((Below.refl _ _).alloc (Nat.le_refl _) _))
      have HWP : Hid (Whole ((w2.alloc (.map #[] 0)).alloc (.cells #[.map (some w2.heap.size), .bool false, .bool false] 69)) (w2.heap.size + 1) 69 #[.map (some w2.heap.size), .bool false, .bool false]) := Lib.hid (by
        have := Whole.fresh (w2.alloc (.map #[] 0)) 69 #[.map (some w2.heap.size), .bool false, .bool false]
        simpa using this)
      clear hi
      obtain ⟨C, hC, HCc, HCf⟩ := below_class ((w2.alloc (.map #[] 0)).alloc (.cells #[.map (some w2.heap.size), .bool false, .bool false] 69))
      go_wp2_with fail
      refine region_inT 7 C hC (by kernel_rfl) (by kernel_rfl) ?_
      simp only [List.take_succ_cons, List.take_zero, List.drop_succ_cons, List.drop_zero]
      iterate 7
        (refine WQ.step (fun K hK => ?_)
         go_simp
         first
           | (refine hK _ ?_; clear hK K)
           | (apply Exists.intro
              refine ⟨fun z hz => ?_, hK _ ?_⟩
              · first
                  | rfl
                  | (have TZ := HQ.out.call (HCf.out _ hz); obtain ⟨k0, k1, kz, q0, q1, qz⟩ := TZ.cells;  go_simp; rfl)
              clear hK K))
      refine WQ.nil ?_
      intro w3 hw
      have HBW := Lib.hid (HCf.out _ hw)
      clear hw hC HCc HCf C
      have HQ3 := Lib.hid (HQ.out.call HBW.out)
      have hmp : Mv pE w3 (loc1 .pars) (parF ({ s with row := upd s.row k true }) loc1) := HQ3.out.t.has .pars rfl
      have HMU3 := Lib.hid (HMU.out.call HBW.out)
      have HWP3 := Lib.hid (HWP.out.below HBW.out HWP.out.lt)
      have HB23 := Lib.hid (hb3.trans (HBW.out.mono hb3.size))
      go_wp2_with (at_mapUpdate; refine wpList_put_mv _ pE_inj rfl _ _ _ 51 rfl 70 Try.underlying51 (loc1 .pars) (parF ({ s with row := upd s.row k true }) loc1) rfl hmp x rfl hx64 (some (w2.heap.size + 1)) rfl (by omega) ?_)
      intro w4 hm4 ho4 hs4
      clear hs4
      have hlp2 : loc1 .pars < w2.heap.size := (HQ2.out.t.has .pars rfl).lt
      have HT4 : Hid (Tm w4 ({ s with row := upd s.row k true, inn := upd s.inn x true }) (locP loc1 x (w2.heap.size + 1) w2.heap.size)) := Lib.hid (by
        have hoff : Off (fun i => i = loc1 .pars) w2 w4 := (Off.of HB23.out _).trans ho4
        exact HQ2.out.t.addPar HI.out HKS.out HDF.out.2 HDF.out.1 (by omega) (Nat.le_refl _) (by omega) hoff hm4 (ho4.whole HWP3.out (by omega)) (HMU3.out.offG ho4 (by omega)))
      obtain ⟨loc2, HLC⟩ : ∃ l, Hid (l = locP loc1 x (w2.heap.size + 1) w2.heap.size) := ⟨_, Lib.hid rfl⟩
      have haa := HQ2.out.ask.lt
      have hw02 := HQ2.out.off.size
      have HQ4 : Hid (Wt s loc w w4 ({ s with row := upd s.row k true, inn := upd s.inn x true }) loc2 w.heap.size x b) := Lib.hid (by
        rw [HLC.out]
        have h5 := HQ3.out.offs (n := .pars) rfl ho4
        refine ⟨HT4.out, HQ3.out.face, h5.1, h5.2, fun n hn => ?_, HLOW.out, Nat.le_refl _⟩
        cases n with
        | p j =>
          by_cases e : j = x
          · refine .inr ⟨?_, ?_⟩ <;> (simp only [locP, if_pos e]; omega)
          · have h6 : upd s.inn x true j = true := hn
            rw [upd_other _ e] at h6
            simp only [locP, if_neg e]
            exact HQ3.out.new (.p j) h6
        | ks j =>
          by_cases e : j = x
          · refine .inr ⟨?_, ?_⟩ <;> (simp only [locP, if_pos e]; omega)
          · have h6 : upd s.inn x true j = true := hn
            rw [upd_other _ e] at h6
            simp only [locP, if_neg e]
            exact HQ3.out.new (.ks j) h6
        | face => exact HQ3.out.new .face rfl
        | rows => exact HQ3.out.new .rows rfl
        | pars => exact HQ3.out.new .pars rfl
        | h j => exact HQ3.out.new (.h j) hn
        | w j => exact HQ3.out.new (.w j) hn)
      have HPP : Hid (loc2 (.p x) = w2.heap.size + 1) := Lib.hid (by rw [HLC.out]; exact if_pos rfl)
      clear HQ HMU HWP HQ3 hmp HMU3 HWP3 HB23 hm4 ho4 HT4 HLC HQ2 hb3 HBW HI HDF HKS
      have HQ := HQ4
      have hrow : ({ s with row := upd s.row k true, inn := upd s.inn x true } : Tb).row k = true := upd_same _ _ _
      have hinn : ({ s with row := upd s.row k true, inn := upd s.inn x true } : Tb).inn x = true := upd_same _ _ _
      have HROW := Lib.hid hrow
      have HINN := Lib.hid hinn
      clear hrow hinn
      obtain ⟨C, hC, HCc, HCf⟩ := below_class w4
      go_wp2_with fail
      refine region_inT 10 C hC (by kernel_rfl) (by kernel_rfl) ?_
      simp only [List.take_succ_cons, List.take_zero, List.drop_succ_cons, List.drop_zero]
      iterate 10
        (refine WQ.step (fun K hK => ?_)
         go_simp
         first
           | (refine hK _ ?_; clear hK K)
           | (apply Exists.intro
              refine ⟨fun z hz => ?_, hK _ ?_⟩
              · first
                  | rfl
                  | (have TZ := HQ.out.call (HCf.out _ hz); obtain ⟨k0, k1, kz, q0, q1, qz⟩ := TZ.cells; have hlq := (TZ.t.rows hk64).2; rw [rowV_in HROW.out] at hlq; go_simp; rfl)
                  | (rw [(run_field_row (some (loc2 (.h k))) (some (loc2 (.w k))) _).2]; exact ⟨rfl, rfl⟩)
              clear hK K))
      refine WQ.nil ?_
      intro w5 hw
      have HBW := Lib.hid (HCf.out _ hw)
      clear hw hC HCc HCf C
      have HQ5 := Lib.hid (HQ.out.call HBW.out)
      have hmw : Mh w5 (loc2 (.w k)) (s.w k) := HQ5.out.t.has (.w k) HROW.out
      have hwl : (supp (hF (s.w k))).length ≤ 1000000000 := by
        rw [supp_hF _ (HMI.out.finw k)]
        have := mid_feww HMI.out k
        have := HN.out
        omega
      clear HBW HQ HQ4
      go_wp2_with (at_mapUpdate; refine wpList_put_mv _ hE_inj rfl _ _ _ 61 rfl 60 Try.underlying61 (loc2 (.w k)) (hF (s.w k)) rfl hmw x rfl hx64 ⟨x, b⟩ rfl hwl ?_)
      intro w6 hm6 ho6 hs6
      clear hs6
      rw [hF_upd] at hm6
      have HQ6 := Lib.hid (HQ5.out.step (n := .w k) HROW.out ho6 (HQ5.out.t.setw HROW.out hm6 ho6) fun n hn => by cases n <;> exact hn)
      obtain ⟨p0, p1, p2, pf1, pf2, pz⟩ := HQ6.out.t.pcells (x := x) HINN.out
      rw [HPP.out] at p0 p1 p2 pf1 pf2 pz
      have hmk : Mv uE w6 (loc2 (.ks x)) (uF (s.ks x)) := HQ6.out.t.has (.ks x) HINN.out
      have hkl : (supp (uF (s.ks x))).length ≤ 1000000000 := by
        have := keys_few hmk.fin fun j hj => (HMI.out.ksx x j (by unfold uF at hj; split at hj; assumption; cases hj)).2.1
        omega
      clear HQ5 hmw hwl hm6 ho6
      go_wp2_with (at_mapUpdate; refine wpList_put_mv _ uE_inj rfl _ _ _ 67 rfl 88 Try.underlying67 (loc2 (.ks x)) (uF (s.ks x)) rfl hmk k rfl hk64 () rfl hkl ?_)
      intro w7 hm7 ho7 hs7
      clear hs7
      rw [uF_upd] at hm7
      have HQ7 := Lib.hid (HQ6.out.step (n := .ks x) HINN.out ho7 (HQ6.out.t.setks HINN.out hm7 ho7) fun n hn => by cases n <;> exact hn)
      clear p0 p1 p2 pf1 pf2 pz HQ6 hmk hkl hm7 ho7
      obtain ⟨p0, p1, p2, pf1, pf2, pz⟩ := HQ7.out.t.pcells (x := x) HINN.out
      rw [HPP.out] at p0 p1 p2 pf1 pf2 pz
      have HQ8 := Lib.hid (HQ7.out.step (n := .p x) HINN.out ((Off.refl (fun i => i = loc2 (.p x)) w7).set (p := ⟨loc2 (.p x), 1, none⟩) (.inl rfl) (.bool true)) (HQ7.out.t.setwt HINN.out true) fun n hn => by cases n <;> exact hn)
      rw [HPP.out] at HQ8
      go_wp2_with fail
      go_end0
      exact ⟨rfl, HQ8.out.went⟩
    | true =>
      have hi9 : ({ s with row := upd s.row k true } : Tb).inn x = true := hi
      rw [parF_in (s := { s with row := upd s.row k true }) hi9, hi9] at hlp
      clear hi9
      obtain ⟨C, hC, HCc, HCf⟩ := below_class ((w.alloc (.cells #[.int .i64 x, .bool b] 60)).alloc (.cells #[.map (some (loc (.h k))), .map (some (loc (.w k)))] 63))
      go_wp2_with fail
      refine region_in C hC (by kernel_rfl) (by kernel_rfl) ?_
      iterate 12
        (refine WQ.step (fun K hK => ?_)
         go_simp
         first
           | (refine hK _ ?_; clear hK K)
           | (apply Exists.intro
              refine ⟨fun z hz => ?_, hK _ ?_⟩
              · first
                  | rfl
                  | (have TZ := HQ.out.call (HCf.out _ hz); obtain ⟨k0, k1, kz, q0, q1, qz⟩ := TZ.cells; have hlp := (TZ.t.pars hx64).1; (first | rw [parF_in (s := { s with row := upd s.row k true }) hi, show ({ s with row := upd s.row k true } : Tb).inn x = true from hi] at hlp | rw [parF_out (s := { s with row := upd s.row k true }) hi, show ({ s with row := upd s.row k true } : Tb).inn x = false from hi] at hlp); go_simp; rfl)
              clear hK K))
      refine WQ.nil ?_
      intro w2 hw
      have HBW := Lib.hid (HCf.out _ hw)
      clear hw hC HCc HCf C
      have HQ2 := Lib.hid (HQ.out.call HBW.out)
      clear HBW HQ hlp
      clear c0 c1 cz cz2 a0 a1 az hl
      have e2 : { s with row := upd s.row k true, inn := upd s.inn x true } = { s with row := upd s.row k true } := by
        have : upd s.inn x true = s.inn := by rw [← hi]; exact upd_id _ _
        show ({ s with row := upd s.row k true, inn := upd s.inn x true } : Tb) = _
        rw [this]
      have HQ3 : Hid (Wt s loc w w2 ({ s with row := upd s.row k true, inn := upd s.inn x true }) loc1 w.heap.size x b) := Lib.hid (by rw [e2]; exact HQ2.out)
      obtain ⟨loc2, HLC⟩ : ∃ l, Hid (l = loc1) := ⟨loc1, Lib.hid rfl⟩
      have HQ4 : Hid (Wt s loc w w2 ({ s with row := upd s.row k true, inn := upd s.inn x true }) loc2 w.heap.size x b) := Lib.hid (by rw [HLC.out]; exact HQ3.out)
      have HPP : Hid (loc2 (.p x) = loc1 (.p x)) := Lib.hid (by rw [HLC.out])
      clear HQ2 HQ3 HLC e2
      have HQ := HQ4
      have hrow : ({ s with row := upd s.row k true, inn := upd s.inn x true } : Tb).row k = true := upd_same _ _ _
      have hinn : ({ s with row := upd s.row k true, inn := upd s.inn x true } : Tb).inn x = true := upd_same _ _ _
      have HROW := Lib.hid hrow
      have HINN := Lib.hid hinn
      clear hrow hinn
      obtain ⟨C, hC, HCc, HCf⟩ := below_class w2
      go_wp2_with fail
      refine region_inT 10 C hC (by kernel_rfl) (by kernel_rfl) ?_
      simp only [List.take_succ_cons, List.take_zero, List.drop_succ_cons, List.drop_zero]
      iterate 10
        (refine WQ.step (fun K hK => ?_)
         go_simp
         first
           | (refine hK _ ?_; clear hK K)
           | (apply Exists.intro
              refine ⟨fun z hz => ?_, hK _ ?_⟩
              · first
                  | rfl
                  | (have TZ := HQ.out.call (HCf.out _ hz); obtain ⟨k0, k1, kz, q0, q1, qz⟩ := TZ.cells; have hlq := (TZ.t.rows hk64).2; rw [rowV_in HROW.out] at hlq; go_simp; rfl)
                  | (rw [(run_field_row (some (loc2 (.h k))) (some (loc2 (.w k))) _).2]; exact ⟨rfl, rfl⟩)
              clear hK K))
      refine WQ.nil ?_
      intro w5 hw
      have HBW := Lib.hid (HCf.out _ hw)
      clear hw hC HCc HCf C
      have HQ5 := Lib.hid (HQ.out.call HBW.out)
      have hmw : Mh w5 (loc2 (.w k)) (s.w k) := HQ5.out.t.has (.w k) HROW.out
      have hwl : (supp (hF (s.w k))).length ≤ 1000000000 := by
        rw [supp_hF _ (HMI.out.finw k)]
        have := mid_feww HMI.out k
        have := HN.out
        omega
      clear HBW HQ HQ4
      go_wp2_with (at_mapUpdate; refine wpList_put_mv _ hE_inj rfl _ _ _ 61 rfl 60 Try.underlying61 (loc2 (.w k)) (hF (s.w k)) rfl hmw x rfl hx64 ⟨x, b⟩ rfl hwl ?_)
      intro w6 hm6 ho6 hs6
      clear hs6
      rw [hF_upd] at hm6
      have HQ6 := Lib.hid (HQ5.out.step (n := .w k) HROW.out ho6 (HQ5.out.t.setw HROW.out hm6 ho6) fun n hn => by cases n <;> exact hn)
      obtain ⟨p0, p1, p2, pf1, pf2, pz⟩ := HQ6.out.t.pcells (x := x) HINN.out
      rw [HPP.out] at p0 p1 p2 pf1 pf2 pz
      have hmk : Mv uE w6 (loc2 (.ks x)) (uF (s.ks x)) := HQ6.out.t.has (.ks x) HINN.out
      have hkl : (supp (uF (s.ks x))).length ≤ 1000000000 := by
        have := keys_few hmk.fin fun j hj => (HMI.out.ksx x j (by unfold uF at hj; split at hj; assumption; cases hj)).2.1
        omega
      clear HQ5 hmw hwl hm6 ho6
      go_wp2_with (at_mapUpdate; refine wpList_put_mv _ uE_inj rfl _ _ _ 67 rfl 88 Try.underlying67 (loc2 (.ks x)) (uF (s.ks x)) rfl hmk k rfl hk64 () rfl hkl ?_)
      intro w7 hm7 ho7 hs7
      clear hs7
      rw [uF_upd] at hm7
      have HQ7 := Lib.hid (HQ6.out.step (n := .ks x) HINN.out ho7 (HQ6.out.t.setks HINN.out hm7 ho7) fun n hn => by cases n <;> exact hn)
      clear p0 p1 p2 pf1 pf2 pz HQ6 hmk hkl hm7 ho7
      obtain ⟨p0, p1, p2, pf1, pf2, pz⟩ := HQ7.out.t.pcells (x := x) HINN.out
      rw [HPP.out] at p0 p1 p2 pf1 pf2 pz
      have HQ8 := Lib.hid (HQ7.out.step (n := .p x) HINN.out ((Off.refl (fun i => i = loc2 (.p x)) w7).set (p := ⟨loc2 (.p x), 1, none⟩) (.inl rfl) (.bool true)) (HQ7.out.t.setwt HINN.out true) fun n hn => by cases n <;> exact hn)
      rw [HPP.out] at HQ8
      go_wp2_with fail
      go_end0
      exact ⟨rfl, HQ8.out.went⟩
end Go.Proofs.Ytcjefigcaifmeaa
