/- The contract of a book's Copy at layer 14. (Written by gledc.py.) -/
import Derived.Test.YtmemfbdikinegaaLedW
namespace Go.Proofs.Ytmemfbdikinegaa
open Go.RowKit Go.Lk Go.Ld
set_option linter.unusedVariables false
set_option linter.unusedSimpArgs false
set_option maxRecDepth 100000

/-- Worlds in which the copy's map is made (a) and its face (b). -/
structure Cw (w y : World) (x m2 g2 : Nat) (a b : Bool) : Prop where
  bel : Below w.heap.size w y
  mp : a = true → Mv pu y m2 (fun _ => none) ∧ w.heap.size ≤ m2
  face : b = true → Whole y g2 56 #[.float .f64 x, .map (some m2)] ∧ w.heap.size ≤ g2
  ord : b = true → a = true
section
variable {w y : World} {x m2 g2 : Nat} {a b : Bool}
theorem Cw.start (w : World) (x m2 g2 : Nat) : Cw w w.drew x m2 g2 false false := ⟨drew_below w 1, fun h => (by cases h), fun h => (by cases h), fun h => by cases h⟩
theorem Cw.made (h : Cw w y x m2 g2 false b) : Cw w (y.alloc (.map #[] 0)) x y.heap.size g2 true b := by
  have hb : b = false := by cases b with
    | false => rfl
    | true => cases h.ord rfl
  subst hb
  exact ⟨h.bel.alloc h.bel.size _, fun _ => ⟨Mv.made y, h.bel.size⟩, fun h => (by cases h), fun h => by cases h⟩
theorem Cw.boxed (h : Cw w y x m2 g2 true false) : Cw w (y.alloc (.cells #[.float .f64 x, .map (some m2)] 56)) x m2 y.heap.size true true :=
  ⟨h.bel.alloc h.bel.size _, fun _ => ⟨(h.mp rfl).1.call ((Below.refl _ _).alloc (Nat.le_refl _) _), (h.mp rfl).2⟩, fun _ => ⟨Whole.fresh y _ _, h.bel.size⟩, fun _ => rfl⟩
theorem Cw.fin (h : Cw w y x m2 g2 true true) : Below w.heap.size w y ∧ Bk y g2 m2 x (fun _ => none) ∧ w.heap.size ≤ g2 ∧ w.heap.size ≤ m2 := ⟨h.bel, ⟨(h.face rfl).1, (h.mp rfl).1⟩, (h.face rfl).2, (h.mp rfl).2⟩
end
open Classical in
/-- A book's accounts, of those that have been gone over. -/
noncomputable def part (f : Acc) (L : List Int) : Acc := fun k => if k ∈ L then f k else none
theorem part_nil (f : Acc) : part f [] = fun _ => none := by funext k; unfold part; simp
theorem part_more {f : Acc} {L : List Int} {x : Int} {p : Pu} (h : f x = some p) : upd (part f L) x (some p) = part f (L ++ [x]) := by
  funext k
  unfold part upd
  by_cases e : k = x
  · subst e; simp [h]
  · simp [e]
theorem part_all {f : Acc} {L : List Int} (h : ∀ x, x ∈ L ↔ (f x).isSome = true) : part f L = f := by
  funext k
  unfold part
  split
  · rfl
  · rename_i hk
    rw [h] at hk
    have : f k = none := by simpa using hk
    exact this.symm
theorem part_fin {f : Acc} {L : List Int} (h : Fine f) : Fine (part f L) := by
  have key : ∀ a p, part f L a = some p → f a = some p := fun a p hp => by
    unfold part at hp
    split at hp
    · exact hp
    · cases hp
  exact ⟨fun a p hp => h.inn a p (key a p hp), fun a p hp => h.has a p (key a p hp), fun a p hp => h.paid a p (key a p hp)⟩
theorem run_makeMap_hint (n : Int) (y : World) : (Instr.makeMap 54 (some (.int .i64 n))).run Try.prog y = .ok (.map (some y.heap.size)) (y.alloc (.map #[] 0)) := by
  simp [Instr.makeMap, run_underlying Try.underlying54, asInt, asIntOf, Result.andThen]
set_option maxHeartbeats 4000000 in
theorem copy_any {w : World} {g mb x0 : Nat} {F : Acc} (h : Bk w g mb x0 F) (hF : Fine F) :
    Calls Try.prog 12 #[ptr g] w fun e w' => ∃ g2 m2, e = .returned (ptr g2) ∧ Below w.heap.size w w' ∧ Bk w' g2 m2 x0 F ∧ w.heap.size ≤ g2 ∧ w.heap.size ≤ m2 := by
  have HK := Lib.hid h
  have HF := Lib.hid hF
  have hmm := run_makeMap_hint
  have HLN : Hid (∀ y ty, Below w.heap.size w y → (Builtin.len_ #[54] ty #[.map (some mb)]).run Try.prog y = .ok (.int .i64 ((supp F).length : Nat)) y) := Lib.hid fun y ty hy => (h.mv.call hy).len Try.underlying54 ty
  have hsl := acc_len hF
  have HSL := Lib.hid hsl
  clear h hF
  go_enter Try.func12, Try.ntmps12
  go_wp2_with fail
  refine Iv.region (fun f aa y => ∃ m2 g2, aa = ⟨#[ptr g, undef, .pointer none, sl (f 12) (ptr g2), undef, undef, sl (f 0) (ptr g), sl (f 1) (ptr g), sl (f 2) (.pointer (some ⟨g, 0, none⟩)), sl (f 3) (.float .f64 x0), sl (f 4) (ptr g), sl (f 5) (ptr g), sl (f 6) (.pointer (some ⟨g, 1, none⟩)), sl (f 7) (.map (some mb)), sl (f 8) (.int .i64 ((supp F).length : Nat)), sl (f 9) (.map (some m2)), sl (f 10) (.agg #[.float .f64 x0, .map (some m2)]), sl (f 11) (ptr g2), undef, undef, undef, undef, undef, undef, undef, undef, undef, undef, undef, undef, undef, undef, undef, undef, undef], []⟩ ∧ Cw w y x0 m2 g2 (f 9) (f 11) ∧ (f 10 = true → f 9 = true) ∧ (f 12 = true → f 11 = true)) (by kernel_rfl) (by kernel_rfl) ?_ ?_ ?_
  · exact ⟨0, 0, rfl, Cw.start w x0 0 0, (fun h => by cases h), fun h => by cases h⟩
  · refine ⟨?_, ?_, ?_, ?_, ?_, ?_, ?_, ?_, ?_, ?_, ?_, ?_, ?_, trivial⟩
    · rintro f a0 y Q' ⟨m2, g2, rfl, hw⟩ hi hd hQ
      replace hQ := Lib.hid hQ
      simp [Iv.depsB, Region.binds] at hd
      try simp only [hi, hd, sl_true, sl_false]
      try simp only [hi, sl_true, sl_false]
      go_wp2_with fail
      refine hQ.out _ _ ⟨m2, g2, ?_, ?_⟩
      · simp [Iv.upd, hi, hd, sl_true, sl_false]
      · simpa [Iv.upd, hi, hd] using hw
    · rintro f a0 y Q' ⟨m2, g2, rfl, hw⟩ hi hd hQ
      replace hQ := Lib.hid hQ
      simp [Iv.depsB, Region.binds] at hd
      try simp only [hi, hd, sl_true, sl_false]
      try simp only [hi, sl_true, sl_false]
      obtain ⟨c0, c1, cz⟩ := (HK.out.call hw.1.bel).cells
      go_wp2_with fail
      refine hQ.out _ _ ⟨m2, g2, ?_, ?_⟩
      · simp [Iv.upd, hi, hd, sl_true, sl_false]
      · simpa [Iv.upd, hi, hd] using hw
    · rintro f a0 y Q' ⟨m2, g2, rfl, hw⟩ hi hd hQ
      replace hQ := Lib.hid hQ
      simp [Iv.depsB, Region.binds] at hd
      try simp only [hi, hd, sl_true, sl_false]
      try simp only [hi, sl_true, sl_false]
      go_wp2_with fail
      refine hQ.out _ _ ⟨m2, g2, ?_, ?_⟩
      · simp [Iv.upd, hi, hd, sl_true, sl_false]
      · simpa [Iv.upd, hi, hd] using hw
    · rintro f a0 y Q' ⟨m2, g2, rfl, hw⟩ hi hd hQ
      replace hQ := Lib.hid hQ
      simp [Iv.depsB, Region.binds] at hd
      try simp only [hi, hd, sl_true, sl_false]
      try simp only [hi, sl_true, sl_false]
      obtain ⟨c0, c1, cz⟩ := (HK.out.call hw.1.bel).cells
      go_wp2_with fail
      refine hQ.out _ _ ⟨m2, g2, ?_, ?_⟩
      · simp [Iv.upd, hi, hd, sl_true, sl_false]
      · simpa [Iv.upd, hi, hd] using hw
    · rintro f a0 y Q' ⟨m2, g2, rfl, hw⟩ hi hd hQ
      replace hQ := Lib.hid hQ
      simp [Iv.depsB, Region.binds] at hd
      try simp only [hi, hd, sl_true, sl_false]
      try simp only [hi, sl_true, sl_false]
      go_wp2_with fail
      refine hQ.out _ _ ⟨m2, g2, ?_, ?_⟩
      · simp [Iv.upd, hi, hd, sl_true, sl_false]
      · simpa [Iv.upd, hi, hd] using hw
    · rintro f a0 y Q' ⟨m2, g2, rfl, hw⟩ hi hd hQ
      replace hQ := Lib.hid hQ
      simp [Iv.depsB, Region.binds] at hd
      try simp only [hi, hd, sl_true, sl_false]
      try simp only [hi, sl_true, sl_false]
      obtain ⟨c0, c1, cz⟩ := (HK.out.call hw.1.bel).cells
      go_wp2_with fail
      refine hQ.out _ _ ⟨m2, g2, ?_, ?_⟩
      · simp [Iv.upd, hi, hd, sl_true, sl_false]
      · simpa [Iv.upd, hi, hd] using hw
    · rintro f a0 y Q' ⟨m2, g2, rfl, hw⟩ hi hd hQ
      replace hQ := Lib.hid hQ
      simp [Iv.depsB, Region.binds] at hd
      try simp only [hi, hd, sl_true, sl_false]
      try simp only [hi, sl_true, sl_false]
      go_wp2_with fail
      refine hQ.out _ _ ⟨m2, g2, ?_, ?_⟩
      · simp [Iv.upd, hi, hd, sl_true, sl_false]
      · simpa [Iv.upd, hi, hd] using hw
    · rintro f a0 y Q' ⟨m2, g2, rfl, hw⟩ hi hd hQ
      replace hQ := Lib.hid hQ
      simp [Iv.depsB, Region.binds] at hd
      try simp only [hi, hd, sl_true, sl_false]
      try simp only [hi, sl_true, sl_false]
      obtain ⟨c0, c1, cz⟩ := (HK.out.call hw.1.bel).cells
      go_wp2_with fail
      refine hQ.out _ _ ⟨m2, g2, ?_, ?_⟩
      · simp [Iv.upd, hi, hd, sl_true, sl_false]
      · simpa [Iv.upd, hi, hd] using hw
    · rintro f a0 y Q' ⟨m2, g2, rfl, hw⟩ hi hd hQ
      replace hQ := Lib.hid hQ
      simp [Iv.depsB, Region.binds] at hd
      try simp only [hi, hd, sl_true, sl_false]
      try simp only [hi, sl_true, sl_false]
      have hl := HLN.out y 3 hw.1.bel
      go_wp2_with fail
      refine hQ.out _ _ ⟨m2, g2, ?_, ?_⟩
      · simp [Iv.upd, hi, hd, sl_true, sl_false]
      · simpa [Iv.upd, hi, hd] using hw
    · rintro f a0 y Q' ⟨m2, g2, rfl, hw⟩ hi hd hQ
      replace hQ := Lib.hid hQ
      simp [Iv.depsB, Region.binds] at hd
      try simp only [hi, hd, sl_true, sl_false]
      try simp only [hi, sl_true, sl_false]
      have e10 : f 10 = false := by
        cases e : f 10 with
        | false => rfl
        | true => have h7 := hw.2.1 e; rw [hi] at h7; cases h7
      have e11 : f 11 = false := by
        cases e : f 11 with
        | false => rfl
        | true => have h7 := hw.1.ord e; rw [hi] at h7; cases h7
      have HQW := Lib.hid hw.1
      have HQI := Lib.hid hw.2
      rw [hi] at HQW
      have hs8 := HSL.out
      clear hw
      try simp only [e10, sl_true, sl_false]
      go_wp2_with fail
      have HN := Lib.hid (show _ ∧ _ from ⟨HQW.out.made, HQI.out⟩)
      refine hQ.out _ _ ⟨y.heap.size, g2, ?_, ?_⟩
      · simp [Iv.upd, hi, hd, sl_true, sl_false, e10, e11]
      · simpa [Iv.upd, hi, hd, e10, e11] using HN.out
    · rintro f a0 y Q' ⟨m2, g2, rfl, hw⟩ hi hd hQ
      replace hQ := Lib.hid hQ
      simp [Iv.depsB, Region.binds] at hd
      try simp only [hi, hd, sl_true, sl_false]
      try simp only [hi, sl_true, sl_false]
      go_wp2_with fail
      refine hQ.out _ _ ⟨m2, g2, ?_, ?_⟩
      · simp [Iv.upd, hi, hd, sl_true, sl_false]
      · simpa [Iv.upd, hi, hd] using hw
    · rintro f a0 y Q' ⟨m2, g2, rfl, hw⟩ hi hd hQ
      replace hQ := Lib.hid hQ
      simp [Iv.depsB, Region.binds] at hd
      try simp only [hi, hd, sl_true, sl_false]
      try simp only [hi, sl_true, sl_false]
      have e9 : f 9 = true := hw.2.1 (by simp [hd])
      have e12 : f 12 = false := by
        cases e : f 12 with
        | false => rfl
        | true => have h7 := hw.2.2 e; rw [hi] at h7; cases h7
      have HQW := Lib.hid hw.1
      have HQI := Lib.hid hw.2
      rw [hi, e9] at HQW
      clear hw
      try simp only [e12, sl_true, sl_false]
      go_wp2_with fail
      have HN := Lib.hid (show _ ∧ _ from ⟨HQW.out.boxed, HQI.out⟩)
      refine hQ.out _ _ ⟨m2, y.heap.size, ?_, ?_⟩
      · simp [Iv.upd, hi, hd, sl_true, sl_false, e12, e9]
      · simpa [Iv.upd, hi, hd, e12, e9] using HN.out
    · rintro f a0 y Q' ⟨m2, g2, rfl, hw⟩ hi hd hQ
      replace hQ := Lib.hid hQ
      simp [Iv.depsB, Region.binds] at hd
      try simp only [hi, hd, sl_true, sl_false]
      try simp only [hi, sl_true, sl_false]
      go_wp2_with fail
      refine hQ.out _ _ ⟨m2, g2, ?_, ?_⟩
      · simp [Iv.upd, hi, hd, sl_true, sl_false]
      · simpa [Iv.upd, hi, hd] using hw
  · rintro f a0 w1 ⟨m2, g2, rfl, hw⟩ hall
    simp only [hall 0 (by decide), hall 1 (by decide), hall 2 (by decide), hall 3 (by decide), hall 4 (by decide), hall 5 (by decide), hall 6 (by decide), hall 7 (by decide), hall 8 (by decide), hall 9 (by decide), hall 10 (by decide), hall 11 (by decide), hall 12 (by decide), sl_true, ↓reduceIte] at hw ⊢
    clear hall
    obtain ⟨hbl, hbk2, hg2, hm2⟩ := hw.1.fin
    have HB1 := Lib.hid hbl
    have HK1 := Lib.hid (HK.out.call hbl)
    have HM1 : Hid (Mo pu w1 (some mb) F) := Lib.hid (.inr ⟨mb, rfl, HK1.out.mv⟩)
    have HK2 := Lib.hid hbk2
    obtain ⟨c0, c1, cz⟩ := HK1.out.cells
    have hgl : g < w.heap.size := HK.out.face.lt
    have hml : mb < w.heap.size := HK.out.mv.lt
    clear hw hbl hbk2 HK
    go_wp2_with (first
      | (at_range; refine wpList_range_mo _ rfl _ 54 rfl 58 Try.underlying54 rfl HM1.out ?_; intro w0 hrg0 hb0 hs0)
      | go_in)
    have HB0 := Lib.hid (HB1.out.trans (hb0.mono HB1.out.size))
    have HK20 := Lib.hid (HK2.out.call hb0)
    have hw1 := HB1.out.size
    have hm2l := HK2.out.mv.lt
    have hg2l := HK2.out.face.lt
    clear HK1 HM1 HK2 c0 c1 cz HB1 hb0
    go_frame
    go_loopw [] (fun wr => ∃ (cnt : Nat) (L : List Int), Ro pu wr (some mb) w1.heap.size F L cnt ∧ Below w.heap.size w wr ∧ Bk wr g2 m2 x0 (part F L))
      (fun wr => leftO (some mb) w1.heap.size wr)
    case atStart => exact ⟨_, [], hrg0, HB0.out, by rw [part_nil]; exact HK20.out⟩
    case round =>
      obtain ⟨cnt, L, hrg, hb, hk⟩ := hrel
      have HB := Lib.hid hb
      have HR := Lib.hid hrg
      have HK := Lib.hid hk
      have hrgm := Lib.hid hrg.measure
      have HPF := Lib.hid (acc_len (part_fin (L := L) HF.out))
      clear hrg hb hk hrg0 hs0 HK20 HB0
      go_wp2_with (first
        | (at_next; refine wpList_next_mo _ pu_inj rfl _ rfl w1.heap.size cnt L rfl HR.out ?_ ?_)
        | go_in)
      · intro hc0 hnd hmem
        have HE := Lib.hid (part_all hmem)
        rw [HE.out] at HK
        clear hnd hmem hc0
        go_wp2_with fail
        go_ret
        exact ⟨g2, m2, rfl, HB.out, HK.out, hg2, hm2⟩
      · intro x c w2 cnt2 hfx hx hx64 hrg2 hlt hof hsz hen
        obtain ⟨ph, pp⟩ := c
        have HX64 := Lib.hid hx64
        have HFX := Lib.hid (part_more (L := L) hfx)
        have hb2 : Below w.heap.size w w2 := HB.out.trans (hof.below HB.out.size fun k hk => by omega)
        have hk2 : Bk w2 g2 m2 x0 (part F L) := HK.out.off hof (by omega) (by omega)
        have HB3 := Lib.hid (hb2.alloc hb2.size (.cells #[.int .i64 ph, .int .i64 pp] 58))
        have HK3 := Lib.hid (hk2.call ((Below.refl _ _).alloc (Nat.le_refl _) (.cells #[.int .i64 ph, .int .i64 pp] 58)))
        have HR3 := Lib.hid (hrg2.call ((Below.refl _ _).alloc (Nat.le_refl _) (.cells #[.int .i64 ph, .int .i64 pp] 58)))
        have HP3 := Lib.hid (Whole.fresh w2 58 #[.int .i64 ph, .int .i64 pp])
        have HLT := Lib.hid hlt
        clear hfx hx hx64 hrg2 hlt hof hsz hb2 hk2 HB HK HR
        go_wp2_with fail
        generalize w2.heap.size = pb at *
        generalize w2.alloc (.cells #[.int .i64 ph, .int .i64 pp] 58) = w3 at *
        obtain ⟨C, hC, HCc, HCf⟩ := below_class w3
        refine region_inT 6 C hC (by kernel_rfl) (by kernel_rfl) ?_
        simp only [List.take_succ_cons, List.take_zero, List.drop_succ_cons, List.drop_zero]
        iterate 6
          (refine WQ.step (fun K hK => ?_)
           go_simp
           first
             | (refine hK _ ?_; clear hK K)
             | (apply Exists.intro
                refine ⟨fun z hz => ?_, hK _ ?_⟩
                · first
                    | rfl
                    | (have TZ := HCf.out _ hz
                       obtain ⟨k0, k1, kz⟩ := (HK3.out.call TZ).cells
                       have hP := HP3.out.below TZ HP3.out.lt
                       have p0 := hP.cell 0
                       have p1 := hP.cell 1
                       have pz := hP.lt
                       simp only [List.getElem?_toArray, List.getElem?_cons_zero, List.getElem?_cons_succ] at p0 p1
                       clear hP TZ
                       go_simp
                       rfl)
                clear hK K))
        refine WQ.nil ?_
        intro w5 hw
        have hbw := HCf.out _ hw
        have HK5 := Lib.hid (HK3.out.call hbw)
        have HR5 := Lib.hid (HR3.out.call hbw)
        have HB5 := Lib.hid (HB3.out.trans (hbw.mono HB3.out.size))
        have hn9 : (supp (part F L)).length ≤ 1000000000 := by have := HPF.out; omega
        clear hw hC HCc HCf C hbw HK3 HR3 HB3 HP3
        go_wp2_with (at_mapUpdate; refine wpList_put_mv _ pu_inj rfl _ _ _ 54 rfl 58 Try.underlying54 m2 (part F L) rfl HK5.out.mv x rfl HX64.out ⟨ph, pp⟩ rfl hn9 ?_)
        intro w6 hm6 ho6 hs6
        have HK6 := Lib.hid (HK5.out.put ho6 hm6)
        rw [HFX.out] at HK6
        have HB6 := Lib.hid (HB5.out.trans (ho6.below HB5.out.size fun k hk => by omega))
        have HR6 := Lib.hid (HR5.out.off ho6 (fun k hk => by injection hk with hk; omega) (by omega))
        clear hm6 ho6 hs6
        go_wp2_with fail
        go_roundw
        case rel => exact ⟨cnt2, L ++ [x], HR6.out, HB6.out, HK6.out⟩
        case measure => rw [HR6.out.measure, hrgm.out]; exact HLT.out

end Go.Proofs.Ytmemfbdikinegaa
