/- Locks: the document's End, in memory. (Written by gdend.py.) -/
import Derived.Test.YtcjefigcaifmeaaLokGv
import Derived.Test.YtcjefigcaifmeaaLokEw
namespace Go.Proofs.Ytcjefigcaifmeaa
open Go.ChangeShapes Go.WideShapes Go.ChangeAt Go.RowKit Go.Lk
set_option linter.unusedVariables false
set_option linter.unusedSimpArgs false
set_option maxRecDepth 100000
theorem deadR_next {D : List Int} {c : Nat} {y : Int} (h : D[c]? = some y) (x : Int) : (D.take (c + 1)).filter (fun y => y != x) = (D.take c).filter (fun y => y != x) ++ if y = x then [] else [y] := by
  rw [List.take_add_one, h, List.filter_append]
  by_cases e : y = x
  · simp [e]
  · simp [e]
theorem own_zero3 (w : World) (B : Nat) (t : TypeId) (n : Nat) : w.ownsRow B t n (.slice none 0 0) 0 [] := World.ownsRow_nil _ _ _ _
/-- What a table's box shows. -/
theorem Ts.cells {w y : World} {L : List Row} {B p : Nat} {vh vw vd : Value} {H W : List Rw} {D : List Int} (g : Ts w y L B p vh vw vd H W D) :
    y.cell? ⟨p, 0, none⟩ = some vh ∧ y.cell? ⟨p, 1, none⟩ = some vw ∧ y.cell? ⟨p, 2, none⟩ = some vd ∧ y.frozen? ⟨p, 0, none⟩ = false ∧ y.frozen? ⟨p, 1, none⟩ = false ∧ y.frozen? ⟨p, 2, none⟩ = false ∧ p < y.heap.size :=
  ⟨g.box.cell 0, g.box.cell 1, g.box.cell 2, g.box.free 0, g.box.free 1, g.box.free 2, g.box.lt⟩
/-- Its start: it was copied into a new box. -/
theorem Ts.new {w y : World} {L : List Row} {B : Nat} {vh vw vd : Value} {H W : List Rw} {D : List Int} (hs : St w y L) (hh : OwR w B vh H) (hw : OwR w B vw W) (hd : OwD w B vd D) (hy : Below w.heap.size w y) (p : Nat) (hp : Whole y p 28 #[vh, vw, vd]) (hw0 : w.heap.size ≤ p) (hL : ∀ r ∈ L, r.1 ≠ p) : Ts w y L B p vh vw vd H W D :=
  ⟨hs, ⟨hL, hw0⟩, hp, own_keep hh hy (Nat.le_refl _), own_keep hw hy (Nat.le_refl _), own_keep hd hy (Nat.le_refl _)⟩
set_option maxHeartbeats 8000000 in
theorem docEnd_any (B : Nat) (vH vW vD : Value) (H W : List Rw) (D : List Int) (x : Int) (w : World) (hB : B ≤ w.heap.size) (hH : OwR w B vH H) (hW : OwR w B vW W) (hD : OwD w B vD D) (hl : H.length ≤ 40000) (hl2 : W.length ≤ 40000) (hl3 : D.length ≤ 40000) (hx : 1 ≤ x) :
    Calls Try.prog 11 #[.agg #[vH, vW, vD], .int .i64 x] w fun e w' => ∃ vh vw vd vo, e = .returned (.tuple #[.agg #[vh, vw, vd], vo, .int .i64 0]) ∧ OwR w' B vh (giveR (withoutR H x) (withoutR W x)).1 ∧
      OwR w' B vw (giveR (withoutR H x) (withoutR W x)).2.1 ∧ OwD w' B vd (D.filter fun y => y != x) ∧ w'.ownsRow w.heap.size 57 2 vo (giveR (withoutR H x) (withoutR W x)).2.2.length (flat encG (giveR (withoutR H x) (withoutR W x)).2.2) ∧ Below w.heap.size w w' := by
  have HALL : Hid ((D.take D.length).filter (fun y => y != x) = D.filter fun y => y != x) := Lib.hid (by rw [List.take_length])
  have HWL := Lib.hid (withoutR_len H x)
  have HWL2 := Lib.hid (withoutR_len W x)
  obtain ⟨AH, cH, rfl, -⟩ := own_slice0 hH
  obtain ⟨AW, cW, rfl, -⟩ := own_slice0 hW
  obtain ⟨AD, cD, rfl, -⟩ := own_slice0 hD
  have HBB := Lib.hid hB
  have HG0 : Hid (Ts w ((w.alloc (.cells #[.slice AH H.length cH, .slice AW W.length cW, .slice AD D.length cD] 28)).alloc (.cells #[.slice none 0 0, .slice none 0 0, .slice none 0 0] 28)) [(w.heap.size + 1, 28, #[.slice none 0 0, .slice none 0 0, .slice none 0 0])] B w.heap.size (.slice AH H.length cH) (.slice AW W.length cW) (.slice AD D.length cD) H W D) := Lib.hid (by
    have k1 := (Whole.fresh w 28 #[.slice AH H.length cH, .slice AW W.length cW, .slice AD D.length cD]).alloc (.cells #[.slice none 0 0, .slice none 0 0, .slice none 0 0] 28)
    have hal := ((Below.refl w.heap.size w).alloc (Nat.le_refl _) (.cells #[.slice AH H.length cH, .slice AW W.length cW, .slice AD D.length cD] 28))
    have hs := ((St.start w).other (.cells #[.slice AH H.length cH, .slice AW W.length cW, .slice AD D.length cD] 28)).alloc (w.heap.size + 1) (by simp) 28 #[.slice none 0 0, .slice none 0 0, .slice none 0 0]
    exact Ts.new hs hH hW hD hs.below w.heap.size k1 (Nat.le_refl _) fun r hr => by rw [List.mem_singleton.1 hr]; simp)
  clear hH hW hD hB
  have i0 : ¬ x < 1 := by omega
  have HZ0 : Hid (((w.alloc (.cells #[.slice AH H.length cH, .slice AW W.length cW, .slice AD D.length cD] 28)).alloc (.cells #[.slice none 0 0, .slice none 0 0, .slice none 0 0] 28)).heap.size = w.heap.size + 1 + 1) := Lib.hid (by simp)
  go_enter Try.func11, Try.ntmps11
  go_wp2_with fail
  generalize hw0 : (w.alloc (.cells #[.slice AH H.length cH, .slice AW W.length cW, .slice AD D.length cD] 28)).alloc (.cells #[.slice none 0 0, .slice none 0 0, .slice none 0 0] 28) = w0 at *
  clear hw0
  have HO0 : Hid ((w0.alloc (.cells #[] 3)).ownsRow w.heap.size 3 1 (.slice (some ⟨w.heap.size + 1 + 1, 0, none⟩) 0 0) 0 []) := Lib.hid (own_lessB (own_at0 w0 3 1 _ HZ0.out.symm) (by omega))
  have HG1 := Lib.hid (HG0.out.call ((Below.refl w0.heap.size w0).alloc (Nat.le_refl _) (.cells #[] 3)))
  have HFA : Hid (∀ b, (Value.slice (some ⟨w.heap.size + 1 + 1, 0, none⟩) 0 0).ownBlock = some b → (Value.slice AD D.length cD).ownBlock ≠ some b) := Lib.hid fun b hb e => by
    have h1 := (HG0.out.hd.lt b e).2
    have : b = w.heap.size + 1 + 1 := by simpa [Value.ownBlock] using hb.symm
    have := HZ0.out
    omega
  clear HG0
  generalize hw1 : w0.alloc (.cells #[] 3) = w1 at *
  clear hw1
  go_loopw [7, 8] (fun o j wr => ∃ c : Nat, c ≤ D.length ∧ j = .int .i64 (c : Int) ∧ Ts w wr [(w.heap.size + 1, 28, #[.slice none 0 0, .slice none 0 0, .slice none 0 0])] B w.heap.size (.slice AH H.length cH) (.slice AW W.length cW) (.slice AD D.length cD) H W D ∧ OwD wr w.heap.size o ((D.take c).filter fun y => y != x) ∧ (∀ b, o.ownBlock = some b → (Value.slice AD D.length cD).ownBlock ≠ some b)) (fun _ j _ => D.length - (intOf j).toNat)
  case atStart => exact ⟨0, by omega, rfl, HG1.out, HO0.out, HFA.out⟩
  case round =>
    obtain ⟨c, hc, rfl, hg, ho, hfar⟩ := hrel
    have HG := Lib.hid hg
    have HO := Lib.hid ho
    have HFR := Lib.hid hfar
    obtain ⟨t0, t1, t2, d0, d1, d2, tz⟩ := hg.cells
    have hol : ((D.take c).filter fun y => y != x).length ≤ 40000 := Nat.le_trans (List.length_filter_le _ _) (by simp; omega)
    clear hg ho hfar
    by_cases hlt : c < D.length
    · obtain ⟨y, hy⟩ : ∃ y, D[c]? = some y := ⟨_, List.getElem?_eq_getElem hlt⟩
      obtain ⟨b0, off, rfl, hbb, hcc⟩ := (Sees.own HG.out.hd).item encN_len (by omega) c y hy
      have q0 := hcc 0 _ rfl
      rw [Nat.add_zero, Nat.mul_one] at q0
      have i1 : (c : Int) < (D.length : Int) := by omega
      have HN := Lib.hid (deadR_next hy x)
      by_cases e : y = x
      · have HN2 : Hid ((D.take (c + 1)).filter (fun y => y != x) = (D.take c).filter fun y => y != x) := Lib.hid (by have := HN.out; rwa [if_pos e, List.append_nil] at this)
        subst e
        clear hcc hy hbb HN
        go_wp2_with fail
        go_roundw
        case rel => exact ⟨c + 1, by omega, by go_num, HG.out, by rw [HN2.out]; exact HO.out, HFR.out⟩
        case measure => simp [intOf]; omega
      · have HN2 : Hid ((D.take (c + 1)).filter (fun y => y != x) = ((D.take c).filter fun y => y != x) ++ [y]) := Lib.hid (by have := HN.out; rwa [if_neg e] at this)
        have e1 : (y == x) = false := by simpa using e
        have e2 : (y != x) = true := by simpa using e
        obtain ⟨A5, cap5, hv5, -⟩ := own_slice0 HO.out
        subst hv5
        clear hcc hy hbb HN e
        generalize hus : (D.take c).filter (fun y => y != x) = us at *
        have HUS := Lib.hid hus
        clear hus
        have HSN := Lib.hid (sees_num1 wr _ rfl y)
        have hal := (Below.refl wr.heap.size wr).alloc (Nat.le_refl _) (.cells #[.int .i64 y] 3)
        have HAL := Lib.hid hal
        have HZB : Hid (w.heap.size ≤ wr.heap.size) := Lib.hid HG.out.st.below.size
        clear hal
        go_wp2_with (at_builtin; refine wpList_appAt rfl (.tmp 28) (.tmp 34) _ 3 _ 1 8 rfl info_num Try.underlying26 rfl (by decide) w.heap.size _ us.length (flat encN us) rfl (own_call HO.out HAL.out) (wr.heap.size + 1) _ 1 1 (flat encN [y]) rfl HSN.out (fun h => by cases h) (encN_one _) (by omega) (by omega) (by have := HZB.out; (try simp); omega) ?_)
        intro v7 w7 ho7 hg7 hw7
        rw [← flat_append] at ho7
        have HO7 : Hid (OwD w7 w.heap.size v7 (us ++ [y])) := Lib.hid (by rw [OwD, List.length_append]; exact ho7)
        have HGA := Lib.hid (HG.out.call HAL.out)
        have HG7 := Lib.hid (HGA.out.grown hg7 fun b hb => ⟨own_block_ge HO.out hb, fun e => own_kind HO.out HG.out.box (by decide) (by rw [hb, e]), fun r hr e => own_kind HO.out (HG.out.st.knows r hr) (by rw [List.mem_singleton.1 hr]; show 28 ≠ 3; decide) (by rw [hb, e]), fun e => own_apart HG.out.hh HO.out (by decide) b e hb, fun e => own_apart HG.out.hw HO.out (by decide) b e hb, HFR.out b hb⟩)
        have HF7 : Hid (∀ b, v7.ownBlock = some b → (Value.slice (some ⟨b0, off, none⟩) D.length cD).ownBlock ≠ some b) := Lib.hid fun b hb e => by
          rcases hw7 with h | h
          · exact HFR.out b (by rw [← h]; exact hb) e
          · have h1 := (HG.out.hd.lt b e).2
            rw [h] at hb
            injection hb with hb
            try simp at hb
            omega
        clear ho7 hg7 hw7 HGA
        go_wp2_with fail
        go_roundw
        case rel => exact ⟨c + 1, by omega, by go_num, HG7.out, by rw [HN2.out]; exact HO7.out, HF7.out⟩
        case measure => simp [intOf]; omega
    · have hce : c = D.length := by omega
      subst hce
      have i1 : ¬ (D.length : Int) < (D.length : Int) := by omega
      have HOZ := Lib.hid HO.out
      rw [HALL.out] at HOZ
      generalize hDD : D.filter (fun y => y != x) = D1 at *
      have HDD := Lib.hid hDD
      obtain ⟨A5, cap5, hv5, -⟩ := own_slice0 HO.out
      rw [HALL.out] at hv5
      subst hv5
      clear HO hol
      have HGS := Lib.hid (fun wz (hz : Below wr.heap.size wr wz) v1 v2 => (Gq.start (HG.out.call hz) v1 v2 (.slice A5 D1.length cap5) (withoutR H x) (withoutR W x) D1).got3 (own_call HOZ.out hz))
      go_wp2_with fail
      refine Iv.region (fun f aa y => ∃ v1 v2, aa = ⟨#[.agg #[.slice AH H.length cH, .slice AW W.length cW, .slice AD D.length cD], .int .i64 x, .pointer (some ⟨w.heap.size, 0, none⟩), undef, .pointer (some ⟨w.heap.size + 1, 0, none⟩), .slice none 0 0, .int .i64 0, .slice A5 D1.length cap5, .int .i64 (D.length : Int), undef, .int .i64 x, .bool false, undef, .slice (some ⟨w.heap.size + 1 + 1, 0, none⟩) 0 0, .int .i64 (D.length : Int), .pointer (some ⟨w.heap.size, 2, none⟩), .slice AD D.length cD, .int .i64 (D.length : Int), .bool false, u19, u20, u21, u22, u23, u24, u25, u26, u27, u28, u29, u30, u31, u32, u33, u34, u35, so (f 0) (.pointer (some ⟨w.heap.size, 0, none⟩)) (undef), so (f 1) (.slice AH H.length cH) (undef), so (f 2) (.int .i64 x) (undef), so (f 3) (v1) (undef), so (f 4) (.pointer (some ⟨w.heap.size, 1, none⟩)) (undef), so (f 5) (.slice AW W.length cW) (undef), so (f 6) (.int .i64 x) (undef), so (f 7) (v2) (undef), so (f 8) (.slice A5 D1.length cap5) (undef), so (f 9) (.pointer (some ⟨w.heap.size, 0, none⟩)) (undef), so (f 11) (.pointer (some ⟨w.heap.size, 1, none⟩)) (undef), so (f 13) (.pointer (some ⟨w.heap.size, 2, none⟩)) (undef), undef, undef, undef, undef, undef, undef, undef], []⟩ ∧ Gq w y [(w.heap.size + 1, 28, #[.slice none 0 0, .slice none 0 0, .slice none 0 0])] B w.heap.size (.slice AH H.length cH) (.slice AW W.length cW) (.slice AD D.length cD) H W D v1 v2 (.slice A5 D1.length cap5) (withoutR H x) (withoutR W x) D1 (f 3) (f 7) true (f 10) (f 12) (f 14) ∧ (f 3 = true → f 1 = true) ∧ (f 7 = true → f 5 = true)) (by kernel_rfl) (by kernel_rfl) ?_ ?_ ?_
      · exact ⟨undef, undef, rfl, ⟨HGS.out _ (drew_below wr 1) undef undef, (fun h => by cases h), fun h => by cases h⟩⟩
      · refine ⟨?_, ?_, ?_, ?_, ?_, ?_, ?_, ?_, ?_, ?_, ?_, ?_, ?_, ?_, ?_, trivial⟩
        · rintro f a0 y Q' ⟨v1, v2, rfl, hw⟩ hi hd hQ
          replace hQ := Lib.hid hQ
          simp [Iv.depsB, Region.binds] at hd
          try simp only [hi, hd, sl_true, sl_false, so_true, so_false]
          try simp only [hi, sl_true, sl_false, so_true, so_false]
          go_wp2_with fail
          refine hQ.out _ _ ⟨v1, v2, ?_, ?_⟩
          · simp [Iv.upd, hi, hd, sl_true, sl_false, so_true, so_false]
          · simpa [Iv.upd, hi, hd] using hw
        · rintro f a0 y Q' ⟨v1, v2, rfl, hw⟩ hi hd hQ
          replace hQ := Lib.hid hQ
          simp [Iv.depsB, Region.binds] at hd
          try simp only [hi, hd, sl_true, sl_false, so_true, so_false]
          try simp only [hi, sl_true, sl_false, so_true, so_false]
          have ez : f 10 = false := by
            cases e : f 10 with
            | false => rfl
            | true => have h1 := hw.2.1 (hw.1.ord.1 e); rw [hi] at h1; cases h1
          have kx := hw.1.box
          rw [ez] at kx
          have t9 := kx.cell 0
          have tz9 := kx.lt
          simp only [Bool.false_eq_true, ↓reduceIte, List.getElem?_toArray, List.getElem?_cons_zero, List.getElem?_cons_succ] at t9
          clear kx
          go_wp2_with fail
          refine hQ.out _ _ ⟨v1, v2, ?_, ?_⟩
          · simp [Iv.upd, hi, hd, sl_true, sl_false, so_true, so_false]
          · simpa [Iv.upd, hi, hd] using (show _ ∧ _ from ⟨hw.1, hw.2.2⟩)
        · rintro f a0 y Q' ⟨v1, v2, rfl, hw⟩ hi hd hQ
          replace hQ := Lib.hid hQ
          simp [Iv.depsB, Region.binds] at hd
          try simp only [hi, hd, sl_true, sl_false, so_true, so_false]
          try simp only [hi, sl_true, sl_false, so_true, so_false]
          go_wp2_with fail
          refine hQ.out _ _ ⟨v1, v2, ?_, ?_⟩
          · simp [Iv.upd, hi, hd, sl_true, sl_false, so_true, so_false]
          · simpa [Iv.upd, hi, hd] using hw
        · rintro f a0 y Q' ⟨v1, v2, rfl, hw⟩ hi hd hQ
          replace hQ := Lib.hid hQ
          simp [Iv.depsB, Region.binds] at hd
          try simp only [hi, hd, sl_true, sl_false, so_true, so_false]
          try simp only [hi, sl_true, sl_false, so_true, so_false]
          have hw2 := hw
          rw [hi] at hw2
          have HW2 := Lib.hid hw2
          clear hw2
          have ea : f 1 = true := by simp [hd]
          have eb : f 2 = true := by simp [hd]
          try simp only [ea, eb, so_true, so_false]
          go_wp2_with fail
          refine (rwithout_any AH cH H x y (Sees.own HW2.out.1.hh) (by omega)).mono ?_
          rintro e y1 ⟨vn, rfl, ho, hb⟩
          have HN := Lib.hid (show _ ∧ _ from ⟨HW2.out.1.got1 hb ho, HW2.out.2.2⟩)
          clear ho hb
          go_wp2_with fail
          refine hQ.out _ _ ⟨vn, v2, ?_, ?_⟩
          · simp [Iv.upd, hi, hd, sl_true, sl_false, so_true, so_false, ea, eb]
          · simpa [Iv.upd, hi, hd, ea, eb] using HN.out
        · rintro f a0 y Q' ⟨v1, v2, rfl, hw⟩ hi hd hQ
          replace hQ := Lib.hid hQ
          simp [Iv.depsB, Region.binds] at hd
          try simp only [hi, hd, sl_true, sl_false, so_true, so_false]
          try simp only [hi, sl_true, sl_false, so_true, so_false]
          go_wp2_with fail
          refine hQ.out _ _ ⟨v1, v2, ?_, ?_⟩
          · simp [Iv.upd, hi, hd, sl_true, sl_false, so_true, so_false]
          · simpa [Iv.upd, hi, hd] using hw
        · rintro f a0 y Q' ⟨v1, v2, rfl, hw⟩ hi hd hQ
          replace hQ := Lib.hid hQ
          simp [Iv.depsB, Region.binds] at hd
          try simp only [hi, hd, sl_true, sl_false, so_true, so_false]
          try simp only [hi, sl_true, sl_false, so_true, so_false]
          have ez : f 12 = false := by
            cases e : f 12 with
            | false => rfl
            | true => have h1 := hw.2.2 (hw.1.ord.2.1 e); rw [hi] at h1; cases h1
          have kx := hw.1.box
          rw [ez] at kx
          have t9 := kx.cell 1
          have tz9 := kx.lt
          simp only [Bool.false_eq_true, ↓reduceIte, List.getElem?_toArray, List.getElem?_cons_zero, List.getElem?_cons_succ] at t9
          clear kx
          go_wp2_with fail
          refine hQ.out _ _ ⟨v1, v2, ?_, ?_⟩
          · simp [Iv.upd, hi, hd, sl_true, sl_false, so_true, so_false]
          · simpa [Iv.upd, hi, hd] using (show _ ∧ _ from ⟨hw.1, hw.2.1⟩)
        · rintro f a0 y Q' ⟨v1, v2, rfl, hw⟩ hi hd hQ
          replace hQ := Lib.hid hQ
          simp [Iv.depsB, Region.binds] at hd
          try simp only [hi, hd, sl_true, sl_false, so_true, so_false]
          try simp only [hi, sl_true, sl_false, so_true, so_false]
          go_wp2_with fail
          refine hQ.out _ _ ⟨v1, v2, ?_, ?_⟩
          · simp [Iv.upd, hi, hd, sl_true, sl_false, so_true, so_false]
          · simpa [Iv.upd, hi, hd] using hw
        · rintro f a0 y Q' ⟨v1, v2, rfl, hw⟩ hi hd hQ
          replace hQ := Lib.hid hQ
          simp [Iv.depsB, Region.binds] at hd
          try simp only [hi, hd, sl_true, sl_false, so_true, so_false]
          try simp only [hi, sl_true, sl_false, so_true, so_false]
          have e1z : f 1 = true := hw.2.1 (by simp [hd])
          have hw2 := hw
          rw [hi] at hw2
          have HW2 := Lib.hid hw2
          clear hw2
          have ea : f 5 = true := by simp [hd]
          have eb : f 6 = true := by simp [hd]
          try simp only [ea, eb, so_true, so_false]
          go_wp2_with fail
          refine (rwithout_any AW cW W x y (Sees.own HW2.out.1.hw) (by omega)).mono ?_
          rintro e y1 ⟨vn, rfl, ho, hb⟩
          have HN := Lib.hid (show _ ∧ _ from ⟨HW2.out.1.got2 hb ho, HW2.out.2.1⟩)
          clear ho hb
          go_wp2_with fail
          refine hQ.out _ _ ⟨v1, vn, ?_, ?_⟩
          · simp [Iv.upd, hi, hd, sl_true, sl_false, so_true, so_false, ea, eb, e1z]
          · simpa [Iv.upd, hi, hd, ea, eb, e1z] using HN.out
        · rintro f a0 y Q' ⟨v1, v2, rfl, hw⟩ hi hd hQ
          replace hQ := Lib.hid hQ
          simp [Iv.depsB, Region.binds] at hd
          try simp only [hi, hd, sl_true, sl_false, so_true, so_false]
          try simp only [hi, sl_true, sl_false, so_true, so_false]
          go_wp2_with fail
          refine hQ.out _ _ ⟨v1, v2, ?_, ?_⟩
          · simp [Iv.upd, hi, hd, sl_true, sl_false, so_true, so_false]
          · simpa [Iv.upd, hi, hd] using hw
        · rintro f a0 y Q' ⟨v1, v2, rfl, hw⟩ hi hd hQ
          replace hQ := Lib.hid hQ
          simp [Iv.depsB, Region.binds] at hd
          try simp only [hi, hd, sl_true, sl_false, so_true, so_false]
          try simp only [hi, sl_true, sl_false, so_true, so_false]
          go_wp2_with fail
          refine hQ.out _ _ ⟨v1, v2, ?_, ?_⟩
          · simp [Iv.upd, hi, hd, sl_true, sl_false, so_true, so_false]
          · simpa [Iv.upd, hi, hd] using hw
        · rintro f a0 y Q' ⟨v1, v2, rfl, hw⟩ hi hd hQ
          replace hQ := Lib.hid hQ
          simp [Iv.depsB, Region.binds] at hd
          try simp only [hi, hd, sl_true, sl_false, so_true, so_false]
          try simp only [hi, sl_true, sl_false, so_true, so_false]
          have ez : f 3 = true := by simp [hd]
          obtain ⟨Av, cv, hv, -⟩ := own_slice0 (hw.1.n1 ez)
          subst hv
          have ea : f 3 = true := by simp [hd]
          have eb : f 9 = true := by simp [hd]
          have hw2 := hw
          rw [hi, ea] at hw2
          have kx := hw2.1.box
          have t9 := kx.cell 0
          have d9 := kx.free 0
          have tz9 := kx.lt
          simp only [Bool.false_eq_true, ↓reduceIte, List.getElem?_toArray, List.getElem?_cons_zero, List.getElem?_cons_succ] at t9
          have HN := Lib.hid (show _ ∧ _ from ⟨hw2.1.setH, hw2.2⟩)
          clear kx hw2
          try simp only [ea, eb, so_true, so_false]
          go_wp2_with fail
          refine hQ.out _ _ ⟨.slice Av (withoutR H x).length cv, v2, ?_, ?_⟩
          · simp [Iv.upd, hi, hd, sl_true, sl_false, so_true, so_false, ea, eb]
          · simpa [Iv.upd, hi, hd, ea, eb] using HN.out
        · rintro f a0 y Q' ⟨v1, v2, rfl, hw⟩ hi hd hQ
          replace hQ := Lib.hid hQ
          simp [Iv.depsB, Region.binds] at hd
          try simp only [hi, hd, sl_true, sl_false, so_true, so_false]
          try simp only [hi, sl_true, sl_false, so_true, so_false]
          go_wp2_with fail
          refine hQ.out _ _ ⟨v1, v2, ?_, ?_⟩
          · simp [Iv.upd, hi, hd, sl_true, sl_false, so_true, so_false]
          · simpa [Iv.upd, hi, hd] using hw
        · rintro f a0 y Q' ⟨v1, v2, rfl, hw⟩ hi hd hQ
          replace hQ := Lib.hid hQ
          simp [Iv.depsB, Region.binds] at hd
          try simp only [hi, hd, sl_true, sl_false, so_true, so_false]
          try simp only [hi, sl_true, sl_false, so_true, so_false]
          have ez : f 7 = true := by simp [hd]
          obtain ⟨Av, cv, hv, -⟩ := own_slice0 (hw.1.n2 ez)
          subst hv
          have ea : f 7 = true := by simp [hd]
          have eb : f 11 = true := by simp [hd]
          have hw2 := hw
          rw [hi, ea] at hw2
          have kx := hw2.1.box
          have t9 := kx.cell 1
          have d9 := kx.free 1
          have tz9 := kx.lt
          simp only [Bool.false_eq_true, ↓reduceIte, List.getElem?_toArray, List.getElem?_cons_zero, List.getElem?_cons_succ] at t9
          have HN := Lib.hid (show _ ∧ _ from ⟨hw2.1.setW, hw2.2⟩)
          clear kx hw2
          try simp only [ea, eb, so_true, so_false]
          go_wp2_with fail
          refine hQ.out _ _ ⟨v1, .slice Av (withoutR W x).length cv, ?_, ?_⟩
          · simp [Iv.upd, hi, hd, sl_true, sl_false, so_true, so_false, ea, eb]
          · simpa [Iv.upd, hi, hd, ea, eb] using HN.out
        · rintro f a0 y Q' ⟨v1, v2, rfl, hw⟩ hi hd hQ
          replace hQ := Lib.hid hQ
          simp [Iv.depsB, Region.binds] at hd
          try simp only [hi, hd, sl_true, sl_false, so_true, so_false]
          try simp only [hi, sl_true, sl_false, so_true, so_false]
          go_wp2_with fail
          refine hQ.out _ _ ⟨v1, v2, ?_, ?_⟩
          · simp [Iv.upd, hi, hd, sl_true, sl_false, so_true, so_false]
          · simpa [Iv.upd, hi, hd] using hw
        · rintro f a0 y Q' ⟨v1, v2, rfl, hw⟩ hi hd hQ
          replace hQ := Lib.hid hQ
          simp [Iv.depsB, Region.binds] at hd
          try simp only [hi, hd, sl_true, sl_false, so_true, so_false]
          try simp only [hi, sl_true, sl_false, so_true, so_false]
          have ez : f 8 = true := by simp [hd]
          have ea : f 8 = true := by simp [hd]
          have eb : f 13 = true := by simp [hd]
          have hw2 := hw
          rw [hi] at hw2
          have kx := hw2.1.box
          have t9 := kx.cell 2
          have d9 := kx.free 2
          have tz9 := kx.lt
          simp only [Bool.false_eq_true, ↓reduceIte, List.getElem?_toArray, List.getElem?_cons_zero, List.getElem?_cons_succ] at t9
          have HN := Lib.hid (show _ ∧ _ from ⟨hw2.1.setD, hw2.2⟩)
          clear kx hw2
          try simp only [ea, eb, so_true, so_false]
          go_wp2_with fail
          refine hQ.out _ _ ⟨v1, v2, ?_, ?_⟩
          · simp [Iv.upd, hi, hd, sl_true, sl_false, so_true, so_false, ea, eb]
          · simpa [Iv.upd, hi, hd, ea, eb] using HN.out
      · rintro f a0 yz ⟨v1, v2, rfl, hw⟩ hall
        simp only [hall 0 (by decide), hall 1 (by decide), hall 2 (by decide), hall 3 (by decide), hall 4 (by decide), hall 5 (by decide), hall 6 (by decide), hall 7 (by decide), hall 8 (by decide), hall 9 (by decide), hall 10 (by decide), hall 11 (by decide), hall 12 (by decide), hall 13 (by decide), hall 14 (by decide), sl_true, ↓reduceIte, so_true, so_false] at hw ⊢
        clear hall
        have HT := Lib.hid (hw.1.fin HBB.out)
        clear hw
        obtain ⟨A1, c1, rfl, -⟩ := own_slice0 HT.out.hh
        obtain ⟨A2, c2, rfl, -⟩ := own_slice0 HT.out.hw
        obtain ⟨s0, s1, s2, r0, r1, r2, sz⟩ := HT.out.cells
        go_wp2_with fail
        refine (docGive_any B (.slice A1 (withoutR H x).length c1) (.slice A2 (withoutR W x).length c2) A5 D1.length cap5 (withoutR H x) (withoutR W x) yz (Nat.le_trans HBB.out HT.out.st.below.size) HT.out.hh HT.out.hw (by have := HWL.out; omega) (by have := HWL2.out; omega)).mono ?_
        rintro e yg ⟨vh, vw, vo, rfl, h1, h2, h3, hb⟩
        have HTG := Lib.hid (HT.out.call hb)
        obtain ⟨A3, c3, rfl, -⟩ := own_slice0 h1
        obtain ⟨A4, c4, rfl, -⟩ := own_slice0 h2
        obtain ⟨Ao, co, rfl, -⟩ := own_slice0 h3
        have HBZ : Hid (w.heap.size ≤ yz.heap.size) := Lib.hid HT.out.st.below.size
        have HS3 := Lib.hid (HTG.out.set3 h1 h2 HTG.out.hd)
        have HO3 := Lib.hid (own_set (i := 2) (u := .slice A5 D1.length cap5) (own_set (i := 1) (u := .slice A4 (giveR (withoutR H x) (withoutR W x)).2.1.length c4) (own_set (i := 0) (u := .slice A3 (giveR (withoutR H x) (withoutR W x)).1.length c3) h3 (own_kind h3 HTG.out.box (by decide))) (own_kind h3 HTG.out.box (by decide))) (own_kind h3 HTG.out.box (by decide)))
        obtain ⟨s0, s1, s2, r0, r1, r2, sz⟩ := HTG.out.cells
        clear h1 h2 h3 hb HT
        generalize hGE : giveR (withoutR H x) (withoutR W x) = G at *
        obtain ⟨G1, G2, G3⟩ := G
        have HGE := Lib.hid hGE
        clear hGE
        dsimp only at *
        go_upto_region 11 with fail
        clear s0 s1 s2 r0 r1 r2 sz HTG
        generalize hyk : ((yg.setCell ⟨w.heap.size, 0, none⟩ (.slice A3 G1.length c3)).setCell ⟨w.heap.size, 1, none⟩ (.slice A4 G2.length c4)).setCell ⟨w.heap.size, 2, none⟩ (.slice A5 D1.length cap5) = yk at *
        clear hyk
        obtain ⟨s0, s1, s2, r0, r1, r2, sz⟩ := HS3.out.cells
        have kx := HS3.out.st.knows.at 0 rfl
        have x0 := kx.cell 0
        have x1 := kx.cell 1
        have x2 := kx.cell 2
        have f0 := kx.free 0
        have f1 := kx.free 1
        have f2 := kx.free 2
        have xz := kx.lt
        simp only [List.getElem?_toArray, List.getElem?_cons_zero, List.getElem?_cons_succ] at x0 x1 x2
        have HF := Lib.hid (((HS3.out.set0 (Nat.le_succ _) (fun r hr => by cases hr) (by decide) (by decide) 0 (.slice A3 G1.length c3)).set0 (Nat.le_succ _) (fun r hr => by cases hr) (by decide) (by decide) 1 (.slice A4 G2.length c4)).set0 (Nat.le_succ _) (fun r hr => by cases hr) (by decide) (by decide) 2 (.slice A5 D1.length cap5))
        have HOF := Lib.hid (own_set (i := 2) (u := .slice A5 D1.length cap5) (own_set (i := 1) (u := .slice A4 G2.length c4) (own_set (i := 0) (u := .slice A3 G1.length c3) HO3.out (own_kind HO3.out kx (by decide))) (own_kind HO3.out kx (by decide))) (own_kind HO3.out kx (by decide)))
        clear kx
        go_wp2_with fail
        refine bodyPost_ret (by simp [results, Try.results11, go_sem, x0, x1, x2, f0, f1, f2, xz]; try rfl) rfl ?_
        rw [HGE.out, HDD.out]
        exact ⟨_, _, _, _, rfl, HF.out.hh, HF.out.hw, HF.out.hd, own_lessB HOF.out HBZ.out, HF.out.st.below⟩
end Go.Proofs.Ytcjefigcaifmeaa
