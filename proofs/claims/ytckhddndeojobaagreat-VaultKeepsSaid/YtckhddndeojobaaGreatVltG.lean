/- Vaults: contracts: Commit. (Written by gvltg.py.) -/
import Derived.Test.YtckhddndeojobaaGreatVltE
namespace Go.Proofs.YtckhddndeojobaaGreat
open Go.RowKit Go.Cn Go.So Go.Vt
open Go.Lk (upd supp Fin1 upd_same upd_other)
set_option linter.unusedVariables false
set_option linter.unusedSimpArgs false
set_option maxRecDepth 100000
/-- Round 'v.put(t, v.changed(v.held[f.account])...)': what is changed is told (a), and put (b). -/
structure Cm (w y : World) (g : Nat) (v : Vt) (F : Nat → Prop) (t : Int) (L : List En) (cb : Nat) (c6 c8 c9 a b : Bool) : Prop where
  bel : b = false → Below w.heap.size w y
  row : a = true → b = false → w.heap.size ≤ cb ∧ Sees y y.heap.size 2 (some ⟨cb, 0, none⟩) L.length (flat encE L)
  went : b = true → WentV F w y g (putV v t L)
  o1 : b = true → a = true
  o2 : a = true → c9 = true
  o3 : c9 = true → c6 = true ∧ c8 = true
section
variable {w y y' : World} {g : Nat} {v : Vt} {F : Nat → Prop} {t : Int} {L : List En} {cb : Nat} {c6 c8 c9 a b : Bool}
theorem Cm.start (hb : Below w.heap.size w y) (g : Nat) (v : Vt) (F : Nat → Prop) (t : Int) (L : List En) (cb : Nat) : Cm w y g v F t L cb false false false false false :=
  ⟨fun _ => hb, (fun h => by cases h), (fun h => by cases h), (fun h => by cases h), (fun h => by cases h), fun h => by cases h⟩
theorem Cm.no9 (k : Cm w y g v F t L cb c6 c8 false a b) : a = false ∧ b = false := by
  have ha : a = false := by cases a with | false => rfl | true => exact absurd (k.o2 rfl) (by simp)
  exact ⟨ha, by cases b with | false => rfl | true => exact absurd (k.o1 rfl) (by simp [ha])⟩
theorem Cm.no6 (k : Cm w y g v F t L cb false c8 c9 a b) : c9 = false := by cases c9 with | false => rfl | true => exact absurd (k.o3 rfl).1 (by simp)
theorem Cm.no8 (k : Cm w y g v F t L cb c6 false c9 a b) : c9 = false := by cases c9 with | false => rfl | true => exact absurd (k.o3 rfl).2 (by simp)
theorem Cm.b6 (k : Cm w y g v F t L cb false c8 c9 a b) : Below w.heap.size w y := by have h9 := k.no6; subst h9; exact k.bel k.no9.2
theorem Cm.b8 (k : Cm w y g v F t L cb c6 false c9 a b) : Below w.heap.size w y := by have h9 := k.no8; subst h9; exact k.bel k.no9.2
theorem Cm.b9 (k : Cm w y g v F t L cb c6 c8 false a b) : Below w.heap.size w y := k.bel k.no9.2
theorem Cm.b10 (k : Cm w y g v F t L cb c6 c8 c9 false b) : Below w.heap.size w y := k.bel (by cases b with | false => rfl | true => exact absurd (k.o1 rfl) (by simp))
theorem Cm.s6 (k : Cm w y g v F t L cb false c8 c9 a b) : Cm w y g v F t L cb true c8 c9 a b := ⟨k.bel, k.row, k.went, k.o1, k.o2, fun h => ⟨rfl, (k.o3 h).2⟩⟩
theorem Cm.s8 (k : Cm w y g v F t L cb c6 false c9 a b) : Cm w y g v F t L cb c6 true c9 a b := ⟨k.bel, k.row, k.went, k.o1, k.o2, fun h => ⟨(k.o3 h).1, rfl⟩⟩
theorem Cm.s9 (k : Cm w y g v F t L cb true true false a b) : Cm w y g v F t L cb true true true a b := ⟨k.bel, k.row, k.went, k.o1, fun _ => rfl, fun _ => ⟨rfl, rfl⟩⟩
theorem Cm.chg (k : Cm w y g v F t L cb c6 c8 true false b) {cb' : Nat} (hb : Below y.heap.size y y') (hcb : y.heap.size ≤ cb') (hs : Sees y' y'.heap.size 2 (some ⟨cb', 0, none⟩) L.length (flat encE L)) : Cm w y' g v F t L cb' c6 c8 true true b := by
  have hbf : b = false := by cases b with | false => rfl | true => exact absurd (k.o1 rfl) (by simp)
  subst hbf
  have h0 := k.bel rfl
  exact ⟨fun _ => h0.trans (hb.mono h0.size), fun _ _ => ⟨Nat.le_trans h0.size hcb, hs⟩, (fun h => by cases h), (fun h => by cases h), fun _ => rfl, k.o3⟩
theorem Cm.put (k : Cm w y g v F t L cb c6 c8 c9 true false) (hm : WentV F y y' g (putV v t L)) : Cm w y' g v F t L cb c6 c8 c9 true true :=
  ⟨(fun h => by cases h), (fun _ h => by cases h), fun _ => WentV.before (k.bel rfl) hm, fun _ => rfl, k.o2, k.o3⟩
end
set_option maxHeartbeats 8000000 in
theorem vcommit_any {w : World} {g sg hb fb : Nat} {v : Vt} {Fs F : Nat → Prop} {m : Nat} (t id : Int) (hi : W64 id) (hg : Vt.Good v m) (hm : m < 4000) (hn : (supp v.fates).length ≤ 1000000) (x : Vx w g sg hb fb v Fs F) :
    Calls Tryz.prog 13 #[ptr g, .int .i64 t, .int .i64 id] w fun e w' => e = .returned (.int .i64 (commitE v t id)) ∧ WentV F w w' g (commitV v t id) := by
  have HX := Lib.hid x
  have hl := (x.lookF hi).2
  change _ = Result.ok (ftE (fateOf v id)) w at hl
  have HT := Lib.hid (fun z => vstamp_any t z)
  have HED : Hid (commitE v t id = if isSt t = false then 151 else if (fateOf v id).is = 2 ∧ (fateOf v id).t = t then 0 else if (fateOf v id).is = 2 then 157 else if (fateOf v id).is ≠ 1 then 163 else if t < (fateOf v id).t then 152 else 0) := Lib.hid rfl
  have HVD : Hid (¬ (isSt t = true ∧ (fateOf v id).is = 1 ∧ (fateOf v id).t ≤ t) → commitV v t id = v) := Lib.hid fun h => by unfold commitV; rw [if_neg (show ¬ happens v t id from h)]
  have HVE : Hid ((isSt t = true ∧ (fateOf v id).is = 1 ∧ (fateOf v id).t ≤ t) → commitV v t id = { putV v t (changedV v (heldAt v (fateOf v id).acc)) with held := upd v.held (fateOf v id).acc none, fates := upd v.fates id (some ⟨2, t, 0⟩) }) := Lib.hid fun h => by unfold commitV; rw [if_pos (show happens v t id from h)]
  have HK : Hid ((fateOf v id).is = 1 → Hg v (fateOf v id).acc (heldAt v (fateOf v id).acc)) := Lib.hid fun h => hg.held _ _ (hg.heldBy h).1
  have HNOW := Lib.hid (fun k => hg.now k)
  obtain ⟨c0, c1, c2, c3, c4, c5, cf, cz⟩ := x.cells
  clear x
  generalize fateOf v id = f at *
  obtain ⟨f1, f2, f3⟩ := f
  dsimp only at *
  have hal := (Below.refl w.heap.size w).alloc (Nat.le_refl _) (.cells #[.int .i64 f1, .int .i64 f2, .int .i64 f3] 69)
  have HB := Lib.hid hal
  have HX1 := Lib.hid (HX.out.call hal)
  have HWB : Hid (Whole (w.alloc (.cells #[.int .i64 f1, .int .i64 f2, .int .i64 f3] 69)) w.heap.size 69 #[.int .i64 f1, .int .i64 f2, .int .i64 f3]) := Lib.hid (Whole.fresh _ _ _)
  clear hal hg
  cases hs : isSt t with
  | false =>
    rw [hs] at HT
    have HE : Hid (commitE v t id = 151) := Lib.hid (by rw [HED.out, hs, if_pos rfl])
    have HV : Hid (commitV v t id = v) := Lib.hid (HVD.out (fun h => by rw [hs] at h; cases h.1))
    clear HED HVD HVE HK
    clear hs
    go_enter Tryz.func13, Tryz.ntmps13
    go_upto_region 2 with fail
    generalize hw1 : w.alloc (.cells #[.int .i64 f1, .int .i64 f2, .int .i64 f3] 69) = w1 at *
    clear hw1 hl c0 c1 c2 c3 c4 c5 cf cz
    go_wp2_with fail
    refine (HT.out _).mono ?_
    rintro e w2 ⟨rfl, hb2⟩
    have HB2 := Lib.hid (HB.out.trans (hb2.mono HB.out.size))
    have HX2 := Lib.hid (HX1.out.call hb2)
    have HWB2 := Lib.hid (HWB.out.below hb2 HWB.out.lt)
    clear hb2
    have ky := HWB2.out
    have k0 := ky.cell 0
    have k1 := ky.cell 1
    have k2 := ky.cell 2
    have kz := ky.lt
    simp only [List.getElem?_toArray, List.getElem?_cons_zero, List.getElem?_cons_succ] at k0 k1 k2
    clear ky
    go_wp2_with fail
    go_ret
    exact ⟨by rw [HE.out]; rfl, by rw [HV.out]; exact .same HX.out HB2.out⟩
  | true =>
    rw [hs] at HT
    by_cases h1 : f1 = 2
    · subst h1
      by_cases h2 : f2 = t
      · subst h2
        have HE : Hid (commitE v f2 id = 0) := Lib.hid (by rw [HED.out, hs, if_neg (by simp), if_pos ⟨rfl, rfl⟩])
        have HV : Hid (commitV v f2 id = v) := Lib.hid (HVD.out (fun h => by cases h.2.1))
        clear HED HVD HVE HK
        clear hs
        go_enter Tryz.func13, Tryz.ntmps13
        go_upto_region 2 with fail
        generalize hw1 : w.alloc (.cells #[.int .i64 2, .int .i64 f2, .int .i64 f3] 69) = w1 at *
        clear hw1 hl c0 c1 c2 c3 c4 c5 cf cz
        go_wp2_with fail
        refine (HT.out _).mono ?_
        rintro e w2 ⟨rfl, hb2⟩
        have HB2 := Lib.hid (HB.out.trans (hb2.mono HB.out.size))
        have HX2 := Lib.hid (HX1.out.call hb2)
        have HWB2 := Lib.hid (HWB.out.below hb2 HWB.out.lt)
        clear hb2
        have ky := HWB2.out
        have k0 := ky.cell 0
        have k1 := ky.cell 1
        have k2 := ky.cell 2
        have kz := ky.lt
        simp only [List.getElem?_toArray, List.getElem?_cons_zero, List.getElem?_cons_succ] at k0 k1 k2
        clear ky
        go_wp2_with fail
        go_ret
        exact ⟨by rw [HE.out]; rfl, by rw [HV.out]; exact .same HX.out HB2.out⟩
      · have i2 : (f2 == t) = false := by simpa using h2
        have HE : Hid (commitE v t id = 157) := Lib.hid (by rw [HED.out, hs, if_neg (by simp), if_neg (by simp [h2]), if_pos rfl])
        have HV : Hid (commitV v t id = v) := Lib.hid (HVD.out (fun h => by cases h.2.1))
        clear HED HVD HVE HK
        clear hs
        go_enter Tryz.func13, Tryz.ntmps13
        go_upto_region 2 with fail
        generalize hw1 : w.alloc (.cells #[.int .i64 2, .int .i64 f2, .int .i64 f3] 69) = w1 at *
        clear hw1 hl c0 c1 c2 c3 c4 c5 cf cz
        go_wp2_with fail
        refine (HT.out _).mono ?_
        rintro e w2 ⟨rfl, hb2⟩
        have HB2 := Lib.hid (HB.out.trans (hb2.mono HB.out.size))
        have HX2 := Lib.hid (HX1.out.call hb2)
        have HWB2 := Lib.hid (HWB.out.below hb2 HWB.out.lt)
        clear hb2
        have ky := HWB2.out
        have k0 := ky.cell 0
        have k1 := ky.cell 1
        have k2 := ky.cell 2
        have kz := ky.lt
        simp only [List.getElem?_toArray, List.getElem?_cons_zero, List.getElem?_cons_succ] at k0 k1 k2
        clear ky
        go_wp2_with fail
        go_ret
        exact ⟨by rw [HE.out]; rfl, by rw [HV.out]; exact .same HX.out HB2.out⟩
    have i1 : (f1 == 2) = false := by simpa using h1
    by_cases h3 : f1 = 1
    · subst h3
      by_cases h4 : t < f2
      · skip
        have HE : Hid (commitE v t id = 152) := Lib.hid (by rw [HED.out, hs, if_neg (by simp), if_neg (by simp), if_neg (by simp), if_neg (by simp), if_pos h4])
        have HV : Hid (commitV v t id = v) := Lib.hid (HVD.out (fun h => Int.not_le.2 h4 h.2.2))
        clear HED HVD HVE HK
        clear hs
        go_enter Tryz.func13, Tryz.ntmps13
        go_upto_region 2 with fail
        generalize hw1 : w.alloc (.cells #[.int .i64 1, .int .i64 f2, .int .i64 f3] 69) = w1 at *
        clear hw1 hl c0 c1 c2 c3 c4 c5 cf cz
        go_wp2_with fail
        refine (HT.out _).mono ?_
        rintro e w2 ⟨rfl, hb2⟩
        have HB2 := Lib.hid (HB.out.trans (hb2.mono HB.out.size))
        have HX2 := Lib.hid (HX1.out.call hb2)
        have HWB2 := Lib.hid (HWB.out.below hb2 HWB.out.lt)
        clear hb2
        have ky := HWB2.out
        have k0 := ky.cell 0
        have k1 := ky.cell 1
        have k2 := ky.cell 2
        have kz := ky.lt
        simp only [List.getElem?_toArray, List.getElem?_cons_zero, List.getElem?_cons_succ] at k0 k1 k2
        clear ky
        go_wp2_with fail
        go_ret
        exact ⟨by rw [HE.out]; rfl, by rw [HV.out]; exact .same HX.out HB2.out⟩
      · have HE : Hid (commitE v t id = 0) := Lib.hid (by rw [HED.out, hs, if_neg (by simp), if_neg (by simp), if_neg (by simp), if_neg (by simp), if_neg h4])
        have HV := Lib.hid (HVE.out ⟨hs, rfl, by omega⟩)
        have hh := HK.out rfl
        have HAC := Lib.hid hh.ac
        have hacc := hh.acc
        have HH := Lib.hid hh
        have HN1 := Lib.hid (HNOW.out f3)
        have HN2 := Lib.hid (HNOW.out (4096 + f3))
        have hw3 : W64 f3 := by have := hh.ac; unfold W64; omega
        clear HED HVD HVE HK hs HNOW hh
        generalize hhv : heldAt v f3 = h at *
        have HHV : Hid ((v.held f3).getD default = h) := Lib.hid hhv
        clear hhv
        go_enter Tryz.func13, Tryz.ntmps13
        go_upto_region 2 with fail
        generalize hw1 : w.alloc (.cells #[.int .i64 1, .int .i64 f2, .int .i64 f3] 69) = w1 at *
        clear hw1 hl c0 c1 c2 c3 c4 c5 cf cz
        go_wp2_with fail
        refine (HT.out _).mono ?_
        rintro e w2 ⟨rfl, hb2⟩
        have HB2 := Lib.hid (HB.out.trans (hb2.mono HB.out.size))
        have HX2 := Lib.hid (HX1.out.call hb2)
        have HWB2 := Lib.hid (HWB.out.below hb2 HWB.out.lt)
        clear hb2
        have ky := HWB2.out
        have k0 := ky.cell 0
        have k1 := ky.cell 1
        have k2 := ky.cell 2
        have kz := ky.lt
        simp only [List.getElem?_toArray, List.getElem?_cons_zero, List.getElem?_cons_succ] at k0 k1 k2
        clear ky
        go_upto_region 12 with fail
        clear k0 k1 k2 kz
        have HLK := Lib.hid (fun z (hz : Vx z g sg hb fb v Fs F) => show (Instr.lookup 31 (.map (some hb)) (.int .i64 f3) false).run Tryz.prog z = .ok (hvE h) z from by have k := (hz.lookH hw3).2; rw [HHV.out] at k; exact k)
        have HCH := Lib.hid (fun z (hz : Vx z g sg hb fb v Fs F) => vchanged_any h hz (by rw [hacc]; exact HAC.out) HH.out.n HH.out.fee (by rw [hacc]; have := HN1.out; omega) (by rw [hacc]; have := HN2.out; omega))
        have hlen : (changedV v h).length ≤ 2 := by unfold changedV; split; simp; split <;> simp
        have hkeys : ∀ e ∈ changedV v h, W64 e.1 := fun e he => by
          have h1 : e.1 = f3 ∨ e.1 = 4096 + f3 := by
            unfold changedV at he
            rw [hacc] at he
            split at he
            · rw [List.mem_singleton.1 he]; exact .inl rfl
            split at he
            · rw [List.mem_singleton.1 he]; exact .inl rfl
            · rcases List.mem_cons.1 he with rfl | he
              · exact .inl rfl
              · rw [List.mem_singleton.1 he]; exact .inr rfl
          have := HAC.out
          unfold W64
          omega
        have HPT := Lib.hid (fun z (hz : Vx z g sg hb fb v Fs F) (cb : Nat) (hcb : w2.heap.size ≤ cb) (hse : Sees z z.heap.size 2 (some ⟨cb, 0, none⟩) (changedV v h).length (flat encE (changedV v h))) =>
          vput_any t (some ⟨cb, 0, none⟩) (changedV v h).length (changedV v h) hz ⟨hse, Nat.le_refl _, by omega, hkeys, fun _ ad had hf => by
            injection had with had
            subst had
            have h1 := HX2.out.low hf
            simp only at h1
            omega⟩)
        clear hkeys hlen
        generalize changedV v h = L at *
        refine Iv.region (fun f aa yy => ∃ cb, aa = ⟨#[ptr g, .int .i64 t, .int .i64 id, undef, undef, undef, .int .i64 0, .pointer (some ⟨w.heap.size, 0, none⟩), ptr g, .pointer (some ⟨g, 0, none⟩), .pointer (some ⟨g, 4, none⟩), .map (some fb), .int .i64 id, ftE ⟨1, f2, f3⟩, .bool false, .int .i64 t, .bool true, .bool false, .bool false, .pointer (some ⟨w.heap.size, 0, none⟩), .int .i64 1, .bool false, .bool false, undef, undef, undef, undef, .bool false, .bool false, .pointer (some ⟨w.heap.size, 0, none⟩), .int .i64 1, .bool false, .bool false, .pointer (some ⟨w.heap.size, 0, none⟩), .int .i64 1, .bool false, .bool (decide (t < f2)), .int .i64 t, .pointer (some ⟨w.heap.size, 1, none⟩), .int .i64 f2, .bool (decide (t < f2)), so (f 0) (ptr g) undef, so (f 1) (.int .i64 t) undef, so (f 2) (ptr g) undef, so (f 3) (ptr g) undef, so (f 4) (ptr g) undef, so (f 5) (.pointer (some ⟨g, 3, none⟩)) undef, so (f 6) (.map (some hb)) undef, so (f 7) (.pointer (some ⟨w.heap.size, 2, none⟩)) undef, so (f 8) (.int .i64 f3) undef, so (f 9) (hvE h) undef, so (f 10) (.slice (some ⟨cb, 0, none⟩) L.length L.length) undef, so (f 11) (.tuple #[]) undef, undef, undef, undef, undef, undef, undef, undef, undef, undef, undef, undef, undef, undef], []⟩ ∧ Cm w2 yy g v F t L cb (f 6) (f 8) (f 9) (f 10) (f 11)) (by kernel_rfl) (by kernel_rfl) ?_ ?_ ?_
        · exact ⟨0, rfl, Cm.start (drew_below w2 1) _ _ _ _ _ _⟩
        · refine ⟨?_, ?_, ?_, ?_, ?_, ?_, ?_, ?_, ?_, ?_, ?_, ?_, trivial⟩
          · rintro f a0 yy Q' ⟨cb, rfl, hw⟩ hi hd hQ
            replace hQ := Lib.hid hQ
            simp [Iv.depsB, Region.binds] at hd
            try simp only [hi, hd, sl_true, sl_false, so_true, so_false]
            try simp only [hi, sl_true, sl_false, so_true, so_false]
            go_wp2_with fail
            refine hQ.out _ _ ⟨cb, ?_, ?_⟩
            · simp [Iv.upd, hi, hd, sl_true, sl_false, so_true, so_false]
            · simpa [Iv.upd, hi, hd] using hw
          · rintro f a0 yy Q' ⟨cb, rfl, hw⟩ hi hd hQ
            replace hQ := Lib.hid hQ
            simp [Iv.depsB, Region.binds] at hd
            try simp only [hi, hd, sl_true, sl_false, so_true, so_false]
            try simp only [hi, sl_true, sl_false, so_true, so_false]
            go_wp2_with fail
            refine hQ.out _ _ ⟨cb, ?_, ?_⟩
            · simp [Iv.upd, hi, hd, sl_true, sl_false, so_true, so_false]
            · simpa [Iv.upd, hi, hd] using hw
          · rintro f a0 yy Q' ⟨cb, rfl, hw⟩ hi hd hQ
            replace hQ := Lib.hid hQ
            simp [Iv.depsB, Region.binds] at hd
            try simp only [hi, hd, sl_true, sl_false, so_true, so_false]
            try simp only [hi, sl_true, sl_false, so_true, so_false]
            go_wp2_with fail
            refine hQ.out _ _ ⟨cb, ?_, ?_⟩
            · simp [Iv.upd, hi, hd, sl_true, sl_false, so_true, so_false]
            · simpa [Iv.upd, hi, hd] using hw
          · rintro f a0 yy Q' ⟨cb, rfl, hw⟩ hi hd hQ
            replace hQ := Lib.hid hQ
            simp [Iv.depsB, Region.binds] at hd
            try simp only [hi, hd, sl_true, sl_false, so_true, so_false]
            try simp only [hi, sl_true, sl_false, so_true, so_false]
            go_wp2_with fail
            refine hQ.out _ _ ⟨cb, ?_, ?_⟩
            · simp [Iv.upd, hi, hd, sl_true, sl_false, so_true, so_false]
            · simpa [Iv.upd, hi, hd] using hw
          · rintro f a0 yy Q' ⟨cb, rfl, hw⟩ hi hd hQ
            replace hQ := Lib.hid hQ
            simp [Iv.depsB, Region.binds] at hd
            try simp only [hi, hd, sl_true, sl_false, so_true, so_false]
            try simp only [hi, sl_true, sl_false, so_true, so_false]
            go_wp2_with fail
            refine hQ.out _ _ ⟨cb, ?_, ?_⟩
            · simp [Iv.upd, hi, hd, sl_true, sl_false, so_true, so_false]
            · simpa [Iv.upd, hi, hd] using hw
          · rintro f a0 yy Q' ⟨cb, rfl, hw⟩ hi hd hQ
            replace hQ := Lib.hid hQ
            simp [Iv.depsB, Region.binds] at hd
            try simp only [hi, hd, sl_true, sl_false, so_true, so_false]
            try simp only [hi, sl_true, sl_false, so_true, so_false]
            go_wp2_with fail
            refine hQ.out _ _ ⟨cb, ?_, ?_⟩
            · simp [Iv.upd, hi, hd, sl_true, sl_false, so_true, so_false]
            · simpa [Iv.upd, hi, hd] using hw
          · rintro f a0 yy Q' ⟨cb, rfl, hw⟩ hi hd hQ
            replace hQ := Lib.hid hQ
            simp [Iv.depsB, Region.binds] at hd
            try simp only [hi, hd, sl_true, sl_false, so_true, so_false]
            try simp only [hi, sl_true, sl_false, so_true, so_false]
            have hw2 := hw
            rw [hi] at hw2
            obtain ⟨c0, c1, c2, c3, c4, c5, cf, cz⟩ := (HX2.out.call hw2.b6).cells
            have HN := Lib.hid hw2.s6
            clear hw2
            go_wp2_with fail
            refine hQ.out _ _ ⟨cb, ?_, ?_⟩
            · simp [Iv.upd, hi, hd, sl_true, sl_false, so_true, so_false]
            · simpa [Iv.upd, hi, hd] using HN.out
          · rintro f a0 yy Q' ⟨cb, rfl, hw⟩ hi hd hQ
            replace hQ := Lib.hid hQ
            simp [Iv.depsB, Region.binds] at hd
            try simp only [hi, hd, sl_true, sl_false, so_true, so_false]
            try simp only [hi, sl_true, sl_false, so_true, so_false]
            go_wp2_with fail
            refine hQ.out _ _ ⟨cb, ?_, ?_⟩
            · simp [Iv.upd, hi, hd, sl_true, sl_false, so_true, so_false]
            · simpa [Iv.upd, hi, hd] using hw
          · rintro f a0 yy Q' ⟨cb, rfl, hw⟩ hi hd hQ
            replace hQ := Lib.hid hQ
            simp [Iv.depsB, Region.binds] at hd
            try simp only [hi, hd, sl_true, sl_false, so_true, so_false]
            try simp only [hi, sl_true, sl_false, so_true, so_false]
            have hw2 := hw
            rw [hi] at hw2
            have ky := HWB2.out.below hw2.b8 HWB2.out.lt
            have k2 := ky.cell 2
            have kz := ky.lt
            simp only [List.getElem?_toArray, List.getElem?_cons_zero, List.getElem?_cons_succ] at k2
            clear ky
            have HN := Lib.hid hw2.s8
            clear hw2
            go_wp2_with fail
            refine hQ.out _ _ ⟨cb, ?_, ?_⟩
            · simp [Iv.upd, hi, hd, sl_true, sl_false, so_true, so_false]
            · simpa [Iv.upd, hi, hd] using HN.out
          · rintro f a0 yy Q' ⟨cb, rfl, hw⟩ hi hd hQ
            replace hQ := Lib.hid hQ
            simp [Iv.depsB, Region.binds] at hd
            try simp only [hi, hd, sl_true, sl_false, so_true, so_false]
            try simp only [hi, sl_true, sl_false, so_true, so_false]
            have e6 : f 6 = true := by simp [hd]
            have e8 : f 8 = true := by simp [hd]
            have hw2 := hw
            rw [hi, e6, e8] at hw2
            have hl := HLK.out yy (HX2.out.call hw2.b9)
            have HN := Lib.hid hw2.s9
            clear hw2
            try simp only [e6, e8, so_true, so_false]
            go_wp2_with fail
            refine hQ.out _ _ ⟨cb, ?_, ?_⟩
            · simp [Iv.upd, hi, hd, sl_true, sl_false, so_true, so_false, e6, e8]
            · simpa [Iv.upd, hi, hd, e6, e8] using HN.out
          · rintro f a0 yy Q' ⟨cb, rfl, hw⟩ hi hd hQ
            replace hQ := Lib.hid hQ
            simp [Iv.depsB, Region.binds] at hd
            try simp only [hi, hd, sl_true, sl_false, so_true, so_false]
            try simp only [hi, sl_true, sl_false, so_true, so_false]
            have e2 : f 2 = true := by simp [hd]
            have e9 : f 9 = true := by simp [hd]
            have hw2 := hw
            rw [hi, e9] at hw2
            have HQW := Lib.hid hw2
            clear hw hw2
            try simp only [e2, e9, so_true, so_false]
            go_wp2_with fail
            refine (HCH.out yy (HX2.out.call HQW.out.b10)).mono ?_
            rintro e y1 ⟨cb2, rfl, hb4, hcb, hse⟩
            have HN := Lib.hid (HQW.out.chg hb4 hcb hse)
            clear hb4 hcb hse
            go_wp2_with fail
            refine hQ.out _ _ ⟨cb2, ?_, ?_⟩
            · simp [Iv.upd, hi, hd, sl_true, sl_false, so_true, so_false, e2, e9]
            · simpa [Iv.upd, hi, hd, e2, e9] using HN.out
          · rintro f a0 yy Q' ⟨cb, rfl, hw⟩ hi hd hQ
            replace hQ := Lib.hid hQ
            simp [Iv.depsB, Region.binds] at hd
            try simp only [hi, hd, sl_true, sl_false, so_true, so_false]
            try simp only [hi, sl_true, sl_false, so_true, so_false]
            have e0 : f 0 = true := by simp [hd]
            have e1 : f 1 = true := by simp [hd]
            have e10 : f 10 = true := by simp [hd]
            have hw2 := hw
            rw [hi, e10] at hw2
            have HQW := Lib.hid hw2
            clear hw hw2
            try simp only [e0, e1, e10, so_true, so_false]
            go_wp2_with fail
            refine (HPT.out yy (HX2.out.call (HQW.out.bel rfl)) cb (HQW.out.row rfl rfl).1 (HQW.out.row rfl rfl).2).mono ?_
            rintro e y1 ⟨rfl, hm5⟩
            have HN := Lib.hid (HQW.out.put hm5)
            clear hm5
            go_wp2_with fail
            refine hQ.out _ _ ⟨cb, ?_, ?_⟩
            · simp [Iv.upd, hi, hd, sl_true, sl_false, so_true, so_false, e0, e1, e10]
            · simpa [Iv.upd, hi, hd, e0, e1, e10] using HN.out
        · rintro f a0 w5 ⟨cb, rfl, hw⟩ hall
          simp only [hall 0 (by decide), hall 1 (by decide), hall 2 (by decide), hall 3 (by decide), hall 4 (by decide), hall 5 (by decide), hall 6 (by decide), hall 7 (by decide), hall 8 (by decide), hall 9 (by decide), hall 10 (by decide), hall 11 (by decide), sl_true, ↓reduceIte, so_true, so_false] at hw ⊢
          clear hall
          have hm5 := hw.went rfl
          clear hw
          obtain ⟨ho5, F5, hF5, sg5, hb5, fb5, Fs5, x5⟩ := hm5
          have HB4 := HB2
          have HWB4 := HWB2
          have HO5 := Lib.hid ((Off.of HB4.out F).trans ho5)
          have HF5 : Hid (∀ b, F5 b → F b ∨ w.heap.size ≤ b) := Lib.hid fun b hb => (hF5 b hb).imp (fun h1 => h1) fun h1 => Nat.le_trans HB4.out.size h1
          have HNF : Hid (¬ F w.heap.size) := Lib.hid fun hf => Nat.lt_irrefl _ (HX.out.low hf)
          have HWB5 := Lib.hid (ho5.whole HWB4.out HNF.out)
          have HX5 := Lib.hid x5
          have HNF5 : Hid (¬ F5 w.heap.size) := Lib.hid fun hf => by
            rcases hF5 _ hf with h1 | h1
            · exact HNF.out h1
            · exact Nat.not_le.2 HWB4.out.lt h1
          clear ho5 hF5 x5 HPT
          go_upto_region 13 with fail
          obtain ⟨C, hC, HCc, HCf⟩ := vbelow_class w5
          refine region_inT 6 C hC (by kernel_rfl) (by kernel_rfl) ?_
          simp only [List.take_succ_cons, List.take_zero, List.drop_succ_cons, List.drop_zero]
          iterate 6
            (refine WQ.step (fun K hK => ?_)
             go_simp
             first
               | (refine hK _ ?_; clear hK K)
               | (apply Exists.intro
                  refine ⟨fun z hz => ?_, hK _ ?_⟩
                  · first
                      | rfl
                      | (obtain ⟨c0, c1, c2, c3, c4, c5, cf, cz⟩ := (HX5.out.call (HCf.out _ hz)).cells
                         have ky := HWB5.out.below (HCf.out _ hz) HWB5.out.lt
                         have k2 := ky.cell 2
                         have kz := ky.lt
                         simp only [List.getElem?_toArray, List.getElem?_cons_zero, List.getElem?_cons_succ] at k2
                         clear ky
                         go_simp
                         rfl)
                  clear hK K))
          refine WQ.nil ?_
          intro w6 hw
          have HO6 := Lib.hid (HO5.out.call (HCf.out _ hw))
          have HX6 := Lib.hid (HX5.out.call (HCf.out _ hw))
          have HWB6 := Lib.hid (HWB5.out.below (HCf.out _ hw) HWB5.out.lt)
          clear hw hC HCc HCf C HX5 HWB5
          go_wp2_with (at_delete; refine wpList_delete_mv _ rfl _ _ 31 rfl 54 Tryz.underlying31 hb5 _ rfl HX6.out.held f3 rfl hw3 ?_)
          intro w7 hm7 ho7 hs7
          have HX7 := Lib.hid (HX6.out.setHeld ho7 hm7)
          have HO7 := Lib.hid (HX6.out.offH ho7)
          clear hm7 ho7 hs7
          obtain ⟨c0, c1, c2, c3, c4, c5, cf, cz⟩ := HX7.out.cells
          dsimp only [putV] at c0 c1 c2 c3 c4 c5
          go_wp2_with (at_mapUpdate; refine wpList_put_mv _ ftE_inj rfl _ _ _ 32 rfl 69 Tryz.underlying32 fb5 v.fates rfl HX7.out.fates id rfl hi (⟨2, t, 0⟩ : Ft) rfl (by omega) ?_)
          intro w8 hm8 ho8 hs8
          have HX8 := Lib.hid (HX7.out.setFate ho8 hm8)
          have HO8 := Lib.hid (HO7.out.trans (HX7.out.offF ho8))
          clear hm8 ho8 hs8
          go_wp2_with fail
          go_ret
          exact ⟨by rw [HE.out]; rfl, by rw [HV.out]; exact ⟨HO6.out.then HF5.out HO8.out, F5, HF5.out, sg5, hb5, fb5, Fs5, HX8.out⟩⟩
    · have i3 : (f1 != 1) = true := by simpa using h3
      have HE : Hid (commitE v t id = 163) := Lib.hid (by rw [HED.out, hs, if_neg (by simp), if_neg (by simp [h1]), if_neg h1, if_pos h3])
      have HV : Hid (commitV v t id = v) := Lib.hid (HVD.out (fun h => h3 h.2.1))
      clear HED HVD HVE HK
      clear hs
      go_enter Tryz.func13, Tryz.ntmps13
      go_upto_region 2 with fail
      generalize hw1 : w.alloc (.cells #[.int .i64 f1, .int .i64 f2, .int .i64 f3] 69) = w1 at *
      clear hw1 hl c0 c1 c2 c3 c4 c5 cf cz
      go_wp2_with fail
      refine (HT.out _).mono ?_
      rintro e w2 ⟨rfl, hb2⟩
      have HB2 := Lib.hid (HB.out.trans (hb2.mono HB.out.size))
      have HX2 := Lib.hid (HX1.out.call hb2)
      have HWB2 := Lib.hid (HWB.out.below hb2 HWB.out.lt)
      clear hb2
      have ky := HWB2.out
      have k0 := ky.cell 0
      have k1 := ky.cell 1
      have k2 := ky.cell 2
      have kz := ky.lt
      simp only [List.getElem?_toArray, List.getElem?_cons_zero, List.getElem?_cons_succ] at k0 k1 k2
      clear ky
      go_wp2_with fail
      go_ret
      exact ⟨by rw [HE.out]; rfl, by rw [HV.out]; exact .same HX.out HB2.out⟩
end Go.Proofs.YtckhddndeojobaaGreat
