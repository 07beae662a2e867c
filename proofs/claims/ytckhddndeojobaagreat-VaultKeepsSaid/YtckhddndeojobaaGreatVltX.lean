/- Vaults: contracts: Top, Fate, order, isFull, unknown, now, New. -/
import Derived.Test.YtckhddndeojobaaGreatVltW
namespace Go.Proofs.YtckhddndeojobaaGreat
open Go.RowKit Go.Cn Go.So Go.Vt
open Go.Lk (upd supp Fin1 upd_same upd_other)
set_option linter.unusedVariables false
set_option linter.unusedSimpArgs false
set_option maxRecDepth 100000
section
variable {w : World} {g sg hb fb : Nat} {v : Vt} {Fs F : Nat → Prop}
theorem vtop_any (x : Vx w g sg hb fb v Fs F) : Calls Tryz.prog 16 #[ptr g] w fun e w' => e = .returned (.int .i64 v.top) ∧ w' = w := by
  obtain ⟨c0, c1, c2, c3, c4, c5, cf, cz⟩ := x.cells
  go_enter Tryz.func16, Tryz.ntmps16
  go_wp2_with fail
  go_ret
  exact ⟨rfl, rfl⟩
theorem vfate_any (id : Int) (hi : W64 id) (x : Vx w g sg hb fb v Fs F) : Calls Tryz.prog 12 #[ptr g, .int .i64 id] w fun e w' => e = .returned (.tuple #[.int .i64 (fateOf v id).is, .int .i64 (fateOf v id).t]) ∧ Below w.heap.size w w' := by
  obtain ⟨c0, c1, c2, c3, c4, c5, cf, cz⟩ := x.cells
  have hl := (x.lookF hi).2
  have HB := Lib.hid ((Below.refl w.heap.size w).alloc (Nat.le_refl _) (.cells #[.int .i64 (fateOf v id).is, .int .i64 (fateOf v id).t, .int .i64 (fateOf v id).acc] 69))
  change _ = Result.ok (ftE (fateOf v id)) w at hl
  generalize fateOf v id = f at *
  obtain ⟨f1, f2, f3⟩ := f
  dsimp only at *
  clear x hi
  go_enter Tryz.func12, Tryz.ntmps12
  go_wp2_with fail
  go_quiet (fail)
  go_wp2_with fail
  go_ret2
  exact ⟨rfl, below_drewN HB.out _⟩
theorem vorder_any (t : Int) (x : Vx w g sg hb fb v Fs F) : Calls Tryz.prog 35 #[ptr g, .int .i64 t] w fun e w' => e = .returned (.int .i64 (orderE v t)) ∧ Below w.heap.size w w' := by
  have HT := Lib.hid (fun w0 => vstamp_any t w0)
  have HX := Lib.hid x
  clear x
  cases hs : isSt t with
  | false =>
    have HE : Hid (orderE v t = 151) := Lib.hid (by unfold orderE; rw [hs]; rfl)
    rw [hs] at HT
    clear hs
    go_enter Tryz.func35, Tryz.ntmps35
    go_wp2_with fail
    refine (HT.out _).mono ?_
    rintro e w1 ⟨rfl, hb1⟩
    have HB := Lib.hid hb1
    clear hb1
    go_wp2_with fail
    go_ret
    exact ⟨by rw [HE.out]; rfl, HB.out⟩
  | true =>
    rw [hs] at HT
    by_cases ht : t ≤ v.top
    · have HE : Hid (orderE v t = 152) := Lib.hid (by unfold orderE; rw [hs, if_neg (by simp), if_pos ht])
      clear hs
      go_enter Tryz.func35, Tryz.ntmps35
      go_wp2_with fail
      refine (HT.out _).mono ?_
      rintro e w1 ⟨rfl, hb1⟩
      have HB := Lib.hid hb1
      obtain ⟨c0, c1, c2, c3, c4, c5, cf, cz⟩ := (HX.out.call hb1).cells
      clear hb1
      go_wp2_with fail
      go_ret
      exact ⟨by rw [HE.out]; rfl, HB.out⟩
    · have HE : Hid (orderE v t = 0) := Lib.hid (by unfold orderE; rw [hs, if_neg (by simp), if_neg ht])
      clear hs
      go_enter Tryz.func35, Tryz.ntmps35
      go_wp2_with fail
      refine (HT.out _).mono ?_
      rintro e w1 ⟨rfl, hb1⟩
      have HB := Lib.hid hb1
      obtain ⟨c0, c1, c2, c3, c4, c5, cf, cz⟩ := (HX.out.call hb1).cells
      clear hb1
      go_wp2_with fail
      go_ret
      exact ⟨by rw [HE.out]; rfl, HB.out⟩
theorem vfull_any (x : Vx w g sg hb fb v Fs F) : Calls Tryz.prog 29 #[ptr g] w fun e w' => e = .returned (.bool (isFullV v)) ∧ w' = w := by
  obtain ⟨c0, c1, c2, c3, c4, c5, cf, cz⟩ := x.cells
  have HM : Hid (Mo ftE w (some fb) v.fates) := Lib.hid (.inr ⟨fb, rfl, x.fates⟩)
  clear x
  by_cases h : 5000 ≤ (supp v.fates).length
  · have HE : Hid (isFullV v = true) := Lib.hid (by unfold isFullV; exact decide_eq_true h)
    have i1 : ¬ (((supp v.fates).length : Nat) : Int) < 5000 := by omega
    have i2 : (5000 : Int) ≤ (((supp v.fates).length : Nat) : Int) := by omega
    clear h
    generalize hsl : (supp v.fates).length = sl at *
    go_enter Tryz.func29, Tryz.ntmps29
    go_wp2_with (at_len; refine wpList_len_mo _ rfl _ 32 rfl 69 Tryz.underlying32 rfl HM.out ?_)
    go_ret
    exact ⟨by rw [HE.out]; rfl, rfl⟩
  · have HE : Hid (isFullV v = false) := Lib.hid (by unfold isFullV; exact decide_eq_false h)
    have i1 : (((supp v.fates).length : Nat) : Int) < 5000 := by omega
    have i2 : ¬ (5000 : Int) ≤ (((supp v.fates).length : Nat) : Int) := by omega
    clear h
    generalize hsl : (supp v.fates).length = sl at *
    go_enter Tryz.func29, Tryz.ntmps29
    go_wp2_with (at_len; refine wpList_len_mo _ rfl _ 32 rfl 69 Tryz.underlying32 rfl HM.out ?_)
    go_ret
    exact ⟨by rw [HE.out]; rfl, rfl⟩
theorem vunknown_any (id : Int) (hi : W64 id) (x : Vx w g sg hb fb v Fs F) : Calls Tryz.prog 36 #[ptr g, .int .i64 id] w fun e w' => e = .returned (.int .i64 (unknownE v id)) ∧ Below w.heap.size w w' := by
  obtain ⟨c0, c1, c2, c3, c4, c5, cf, cz⟩ := x.cells
  have hl := (x.lookF hi).1
  have hal := (Below.refl w.heap.size w).alloc (Nat.le_refl _) (.cells #[.int .i64 ((v.fates id).getD noFt).is, .int .i64 ((v.fates id).getD noFt).t, .int .i64 ((v.fates id).getD noFt).acc] 69)
  have HB := Lib.hid hal
  have HF := Lib.hid (vfull_any (x.call hal))
  have HE : Hid (unknownE v id = if id < 1 then 156 else if (v.fates id).isSome = true then 157 else if isFullV v = true then 158 else 0) := Lib.hid rfl
  clear x hi hal
  rw [HE.out]
  clear HE
  generalize isFullV v = fl at *
  generalize (v.fates id).isSome = so at *
  generalize (v.fates id).getD noFt = f at *
  obtain ⟨f1, f2, f3⟩ := f
  dsimp only at *
  by_cases h1 : id < 1
  · rw [if_pos h1]
    go_enter Tryz.func36, Tryz.ntmps36
    go_wp2_with fail
    go_ret
    exact ⟨rfl, HB.out⟩
  · rw [if_neg h1]
    cases so with
    | true =>
      go_enter Tryz.func36, Tryz.ntmps36
      go_wp2_with fail
      go_ret
      exact ⟨rfl, HB.out⟩
    | false =>
      cases fl with
      | true =>
        go_enter Tryz.func36, Tryz.ntmps36
        go_wp2_with fail
        refine HF.out.mono ?_
        rintro e w1 ⟨rfl, rfl⟩
        go_wp2_with fail
        go_ret
        exact ⟨rfl, HB.out⟩
      | false =>
        go_enter Tryz.func36, Tryz.ntmps36
        go_wp2_with fail
        refine HF.out.mono ?_
        rintro e w1 ⟨rfl, rfl⟩
        go_wp2_with fail
        go_ret
        exact ⟨rfl, HB.out⟩
theorem vlast_any (k : Int) (hk : W64 k) (x : Vx w g sg hb fb v Fs F) : Calls Tryz.prog 40 #[ptr sg, .int .i64 k] w fun e w' => e = .returned (.tuple #[aggV (lastS v.s k), .bool (v.s.ch k).isSome]) ∧ Below w.heap.size w w' := by
  obtain ⟨mb, rb, K, y⟩ := x.sto
  exact slast_any k hk w y
theorem vnow_any (k : Int) (hk : W64 k) (x : Vx w g sg hb fb v Fs F) : Calls Tryz.prog 49 #[ptr g, .int .i64 k] w fun e w' => e = .returned (.int .i64 (nowV v k)) ∧ Below w.heap.size w w' := by
  obtain ⟨c0, c1, c2, c3, c4, c5, cf, cz⟩ := x.cells
  have HL := Lib.hid (vlast_any k hk x)
  have HE : Hid (nowV v k = (lastS v.s k).2) := Lib.hid rfl
  clear x hk
  rw [HE.out]
  clear HE
  generalize lastS v.s k = y at *
  generalize (v.s.ch k).isSome = so at *
  obtain ⟨y1, y2⟩ := y
  dsimp only at *
  go_enter Tryz.func49, Tryz.ntmps49
  go_wp2_with fail
  refine HL.out.mono ?_
  rintro e w1 ⟨rfl, hb1⟩
  have HB := Lib.hid (hb1.alloc hb1.size (.cells #[.int .i64 y1, .int .i64 y2] 81))
  clear hb1 HL
  go_wp2_with fail
  go_ret
  exact ⟨rfl, HB.out⟩
end
/-- New: a vault with the rate, or none. -/
theorem vnew_any (x : Nat) (hx : x < 18446744073709551616) (w : World) : Calls Tryz.prog 20 #[.float .f64 x] w fun e w' => Below w.heap.size w w' ∧
    ((Am.rated x = false ∧ e = .returned (.tuple #[.pointer none, .int .i64 150])) ∨ ∃ g F, Am.rated x = true ∧ e = .returned (.tuple #[ptr g, .int .i64 0]) ∧ Vlt w' g (newV x) F ∧ ∀ b, F b → w.heap.size ≤ b) := by
  have HR := Lib.hid (fun w0 => rate_same x hx w0)
  have hmm := @run_makeMap Tryz.prog
  cases h : Am.rated x with
  | false =>
    have e1 : rateE x = 43 := by unfold rateE; rw [h]; rfl
    rw [e1] at HR
    clear h e1 hx
    go_enter Tryz.func20, Tryz.ntmps20
    go_wp2_with fail
    refine (HR.out _).mono ?_
    rintro e w1 ⟨rfl, rfl⟩
    go_wp2_with fail
    go_ret2
    exact ⟨Below.refl _ _, .inl ⟨trivial, rfl⟩⟩
  | true =>
    have e1 : rateE x = 0 := by unfold rateE; rw [h]; rfl
    rw [e1] at HR
    clear h e1 hx
    go_enter Tryz.func20, Tryz.ntmps20
    go_wp2_with fail
    refine (HR.out _).mono ?_
    rintro e w1 ⟨rfl, rfl⟩
    go_wp2_with fail
    refine (snew_any w1).mono ?_
    rintro e w2 ⟨rfl, hb2, hs⟩
    have HB2 := Lib.hid hb2
    have HS := Lib.hid hs
    clear hb2 hs
    generalize hsgeq : w1.heap.size + 1 = sg at *
    have HQ := Lib.hid hsgeq
    clear hsgeq
    go_wp2_with fail
    go_ret2
    have hs := HS.out
    have z1 : (w2.alloc (.map #[] 0)).heap.size = w2.heap.size + 1 := by simp
    have z2 : ((w2.alloc (.map #[] 0)).alloc (.map #[] 0)).heap.size = w2.heap.size + 1 + 1 := by simp
    have b1 := (Below.refl w2.heap.size w2).alloc (Nat.le_refl _) (.map #[] 0)
    have b2 := b1.alloc (by rw [z1]; omega) (.map #[] 0)
    have b3 := b2.alloc (by rw [z2]; omega) (.cells #[.iface 30 (ptr sg), ptr sg, .float .f64 x, .map (some w2.heap.size), .map (some (w2.heap.size + 1)), .int .i64 0] 34)
    have low : ∀ b, (b = w1.heap.size ∨ b = sg) → b < w2.heap.size := fun b h => hs.low h
    have hlo : w1.heap.size ≤ w2.heap.size := HB2.out.size
    have hsg := low sg (.inr rfl)
    have hge := HQ.out
    refine ⟨HB2.out.trans (b3.mono hlo), .inr ⟨w2.heap.size + 1 + 1, fun b => b = w2.heap.size + 1 + 1 ∨ b = w2.heap.size ∨ b = w2.heap.size + 1 ∨ (b = w1.heap.size ∨ b = sg), trivial, rfl, ⟨sg, w2.heap.size, w2.heap.size + 1, fun b => b = w1.heap.size ∨ b = sg, ⟨?_, hs.call b3, ?_, ?_, ⟨fun h => ?_, fun h => ?_, fun h => ?_, by omega⟩, fun b => Iff.rfl⟩⟩, fun b hb => ?_⟩⟩
    · have := Whole.fresh ((w2.alloc (.map #[] 0)).alloc (.map #[] 0)) 34 #[.iface 30 (ptr sg), ptr sg, .float .f64 x, .map (some w2.heap.size), .map (some (w2.heap.size + 1)), .int .i64 0]
      rw [z2] at this
      exact this
    · have k := (Mv.made (enc := hvE) w2)
      have k1 := k.call ((Below.refl _ _).alloc (Nat.le_refl _) (.map #[] 0))
      exact k1.call ((Below.refl _ _).alloc (Nat.le_refl _) (.cells #[.iface 30 (ptr sg), ptr sg, .float .f64 x, .map (some w2.heap.size), .map (some (w2.heap.size + 1)), .int .i64 0] 34))
    · have k := (Mv.made (enc := ftE) (w2.alloc (.map #[] 0)))
      rw [z1] at k
      exact k.call ((Below.refl _ _).alloc (Nat.le_refl _) (.cells #[.iface 30 (ptr sg), ptr sg, .float .f64 x, .map (some w2.heap.size), .map (some (w2.heap.size + 1)), .int .i64 0] 34))
    · have := low _ h; omega
    · have := low _ h; omega
    · have := low _ h; omega
    · rcases hb with h | h | h | h | h <;> omega
end Go.Proofs.YtckhddndeojobaaGreat
