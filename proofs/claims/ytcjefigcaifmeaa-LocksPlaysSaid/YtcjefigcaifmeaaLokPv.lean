/- Locks: the document's Put, in memory. (Written by gput.py.) -/
import Derived.Test.YtcjefigcaifmeaaLokPu
namespace Go.Proofs.Ytcjefigcaifmeaa
open Go.ChangeShapes Go.WideShapes Go.ChangeAt Go.RowKit Go.Lk
set_option linter.unusedVariables false
set_option linter.unusedSimpArgs false
set_option maxRecDepth 100000
def sq3 (cp n g : Nat) : Option Addr := if cp = n then some ⟨g, 0, none⟩ else some ⟨g, n * 3, none⟩
theorem sq3_none (cp n g : Nat) : sq3 cp n g ≠ none := by unfold sq3; split <;> simp
theorem take_flat {α : Type} {en : α → List Value} {z : Nat} (he : ∀ x, (en x).length = z) : ∀ (l : List α) (k : Nat), (flat en l).take (k * z) = flat en (l.take k)
  | [], k => by simp [flat]
  | a :: l, 0 => by simp [flat]
  | a :: l, k + 1 => by
    have e : flat en (a :: l) = en a ++ flat en l := by simp [flat]
    have e2 : flat en ((a :: l).take (k + 1)) = en a ++ flat en (l.take k) := by simp [flat]
    rw [e, e2, Nat.add_mul, Nat.one_mul, ← he a, Nat.add_comm, List.take_length_add_append, he a, take_flat he l k]
theorem drop_flat {α : Type} {en : α → List Value} {z : Nat} (he : ∀ x, (en x).length = z) (l : List α) (k : Nat) : ((flat en l).drop (k * z)).take ((l.length - k) * z) = flat en (l.drop k) := by
  have hd : ∀ (l : List α) (k : Nat), (flat en l).drop (k * z) = flat en (l.drop k) := by
    intro l
    induction l with
    | nil => intro k; simp [flat]
    | cons a l ih =>
      intro k
      cases k with
      | zero => simp [flat]
      | succ k =>
        have e : flat en (a :: l) = en a ++ flat en l := by simp [flat]
        rw [e, Nat.add_mul, Nat.one_mul, ← he a, Nat.add_comm, List.drop_length_add_append, he a, ih k]
        rfl
  rw [hd, ← List.length_drop, List.take_of_length_le]
  rw [flat_length he]
  exact Nat.le_refl _
set_option maxHeartbeats 8000000 in
theorem rput_some (g cap : Nat) (l : List Rw) (x : Rw) (w : World) (hs : Sees w w.heap.size 3 (some ⟨g, 0, none⟩) l.length (flat encR l)) (hc : l.length ≤ cap) (hcm : cap ≤ 9223372036854775807) (hl : l.length ≤ 100000) :
    Calls Try.prog 25 #[.slice (some ⟨g, 0, none⟩) l.length cap, aggR x] w fun e w' => ∃ v', e = .returned v' ∧ w'.ownsRow w.heap.size 74 3 v' (putR x l).length (flat encR (putR x l)) ∧ Below w.heap.size w w' := by
  have HPU := Lib.hid (fun c h1 h2 h3 => putR_at (x := x) l c h1 h2 h3)
  obtain ⟨x1, x2, x3⟩ := x
  have HS := Lib.hid hs
  have hal := (Below.refl w.heap.size w).alloc (Nat.le_refl _) (.cells #[.int .i64 x1, .int .i64 x2, .bool x3] 74)
  have HAL := Lib.hid hal
  have HKX : Hid (∀ z, Below (w.heap.size + 1) (w.alloc (.cells #[.int .i64 x1, .int .i64 x2, .bool x3] 74)) z → Whole z w.heap.size 74 #[.int .i64 x1, .int .i64 x2, .bool x3]) := Lib.hid fun z hz => (Whole.fresh w _ _).below hz (by omega)
  have HSZ : Hid ((w.alloc (.cells #[.int .i64 x1, .int .i64 x2, .bool x3] 74)).heap.size = w.heap.size + 1) := Lib.hid (by simp)
  clear hs hal
  go_enter Try.func25, Try.ntmps25
  go_wp2_with fail
  generalize hw0 : w.alloc (.cells #[.int .i64 x1, .int .i64 x2, .bool x3] 74) = w0 at *
  clear hw0
  go_loopw [5] (fun i wr => ∃ c : Nat, c ≤ l.length ∧ i = .int .i64 (c : Int) ∧ Below (w.heap.size + 1) w0 wr ∧ Hid (∀ j y, j < c → l[j]? = some y → lt2 y ⟨x1, x2, x3⟩)) (fun i _ => l.length - (intOf i).toNat)
  case atStart => exact ⟨0, by omega, rfl, by rw [← HSZ.out]; exact Below.refl _ _, Lib.hid fun j y h => by omega⟩
  case round =>
    obtain ⟨k, hk, rfl, hb, HI⟩ := hrel
    have HB2 := Lib.hid hb
    have HB2z : Hid (w.heap.size + 1 ≤ wr.heap.size) := Lib.hid (by have := hb.size; have := HSZ.out; omega)
    have HBW : Hid (Below w.heap.size w wr) := Lib.hid (HAL.out.trans (hb.mono (by omega)))
    clear hb
    by_cases hlt : k < l.length
    · obtain ⟨y, hy⟩ : ∃ y, l[k]? = some y := ⟨_, List.getElem?_eq_getElem hlt⟩
      have HCE : Hid (∀ z, Below w.heap.size w z → z.cell? ⟨g, k * 3, none⟩ = some (.int .i64 y.tx) ∧ z.cell? ⟨g, k * 3 + 1, none⟩ = some (.int .i64 y.key) ∧ z.cell? ⟨g, k * 3 + 2, none⟩ = some (.bool y.b)) := Lib.hid fun z hz => by
        obtain ⟨b9, off9, hA9, -, hc9⟩ := (HS.out.below hz).item encR_len (by omega) k y hy
        injection hA9 with hA9
        injection hA9 with hA9 hA10
        subst hA9 hA10
        have h0 := hc9 0 _ rfl
        have h1 := hc9 1 _ rfl
        have h2 := hc9 2 _ rfl
        simp only [Nat.zero_add, Nat.add_zero] at h0 h1 h2
        exact ⟨h0, h1, h2⟩
      have i1 : (k : Int) < (l.length : Int) := by omega
      have hn0 : (0 : Int) ≤ (k : Int) := by omega
      have HY := Lib.hid hy
      have hcase : (y.key < x2) ∨ (y.key = x2 ∧ y.tx < x1) ∨ (x2 < y.key) ∨ (y.key = x2 ∧ x1 ≤ y.tx) := by omega
      have HLT : Hid ((y.key < x2) ∨ (y.key = x2 ∧ y.tx < x1) → ∀ j z, j < k + 1 → l[j]? = some z → lt2 z ⟨x1, x2, x3⟩) := Lib.hid fun h j z hj hz => by
        rcases Nat.lt_or_ge j k with h1 | h1
        · exact HI.out j z h1 hz
        · obtain rfl : j = k := by omega
          rw [hy] at hz
          injection hz with hz
          subst hz
          exact h
      have HGE : Hid ((x2 < y.key) ∨ (y.key = x2 ∧ x1 ≤ y.tx) → ∀ z, l[k]? = some z → ¬ lt2 z ⟨x1, x2, x3⟩) := Lib.hid fun h z hz => by
        rw [hy] at hz
        injection hz with hz
        subst hz
        unfold lt2
        dsimp only
        omega
      clear hy HY
      obtain ⟨y1, y2, y3⟩ := y
      dsimp only at *
      rcases hcase with hq | ⟨hq, hq2⟩ | hq | ⟨hq, hq2⟩
      · have HN := Lib.hid (HLT.out (.inl hq))
        clear HLT HGE
        have a1 : (y2 < x2) = True := eq_true hq
        obtain ⟨C, hC, HCc, HCf⟩ := below_class wr
        go_wp2_with fail
        refine region_in C hC (by kernel_rfl) (by kernel_rfl) ?_
        iterate 34
          (refine WQ.step (fun K hK => ?_)
           go_simp
           first
             | (refine hK _ ?_; clear hK K)
             | (apply Exists.intro
                refine ⟨fun z hz => ?_, hK _ ?_⟩
                · first
                    | rfl
                    | (obtain ⟨p0, p1, p2⟩ := HCE.out z (HBW.out.trans ((HCf.out _ hz).mono HBW.out.size))
                       have kx := HKX.out z (HB2.out.trans ((HCf.out _ hz).mono HB2z.out))
                       have t0 := kx.cell 0
                       have t1 := kx.cell 1
                       have tz := kx.lt
                       simp only [List.getElem?_toArray, List.getElem?_cons_zero, List.getElem?_cons_succ] at t0 t1
                       clear kx
                       go_simp
                       rfl)
                clear hK K))
        refine WQ.nil ?_
        intro wn hw
        have HBN := Lib.hid (HB2.out.trans ((HCf.out _ hw).mono HB2z.out))
        have HBX := Lib.hid (HBW.out.trans ((HCf.out _ hw).mono HBW.out.size))
        clear hw hC HCc HCf C HB2 HBW HB2z HCE
        go_wp2_with fail
        go_roundw
        case rel => exact ⟨k + 1, by omega, by go_num, HBN.out, HN.out⟩
        case measure => simp [intOf]; omega
      · have HN := Lib.hid (HLT.out (.inr ⟨hq, hq2⟩))
        clear HLT HGE
        have a1 : (y2 < x2) = False := eq_false (by omega)
        have a2 : (y2 == x2) = true := by simpa using hq
        have a3 : (y1 < x1) = True := eq_true hq2
        obtain ⟨C, hC, HCc, HCf⟩ := below_class wr
        go_wp2_with fail
        refine region_in C hC (by kernel_rfl) (by kernel_rfl) ?_
        iterate 34
          (refine WQ.step (fun K hK => ?_)
           go_simp
           first
             | (refine hK _ ?_; clear hK K)
             | (apply Exists.intro
                refine ⟨fun z hz => ?_, hK _ ?_⟩
                · first
                    | rfl
                    | (obtain ⟨p0, p1, p2⟩ := HCE.out z (HBW.out.trans ((HCf.out _ hz).mono HBW.out.size))
                       have kx := HKX.out z (HB2.out.trans ((HCf.out _ hz).mono HB2z.out))
                       have t0 := kx.cell 0
                       have t1 := kx.cell 1
                       have tz := kx.lt
                       simp only [List.getElem?_toArray, List.getElem?_cons_zero, List.getElem?_cons_succ] at t0 t1
                       clear kx
                       go_simp
                       rfl)
                clear hK K))
        refine WQ.nil ?_
        intro wn hw
        have HBN := Lib.hid (HB2.out.trans ((HCf.out _ hw).mono HB2z.out))
        have HBX := Lib.hid (HBW.out.trans ((HCf.out _ hw).mono HBW.out.size))
        clear hw hC HCc HCf C HB2 HBW HB2z HCE
        go_wp2_with fail
        go_roundw
        case rel => exact ⟨k + 1, by omega, by go_num, HBN.out, HN.out⟩
        case measure => simp [intOf]; omega
      · have HPT := Lib.hid (HPU.out k HI.out (HGE.out (.inl hq)) (by omega))
        clear HLT HGE
        have a1 : (y2 < x2) = False := eq_false (by omega)
        have a2 : (y2 == x2) = false := by simpa using (by omega : ¬ y2 = x2)
        obtain ⟨C, hC, HCc, HCf⟩ := below_class wr
        go_wp2_with fail
        refine region_in C hC (by kernel_rfl) (by kernel_rfl) ?_
        iterate 34
          (refine WQ.step (fun K hK => ?_)
           go_simp
           first
             | (refine hK _ ?_; clear hK K)
             | (apply Exists.intro
                refine ⟨fun z hz => ?_, hK _ ?_⟩
                · first
                    | rfl
                    | (obtain ⟨p0, p1, p2⟩ := HCE.out z (HBW.out.trans ((HCf.out _ hz).mono HBW.out.size))
                       have kx := HKX.out z (HB2.out.trans ((HCf.out _ hz).mono HB2z.out))
                       have t0 := kx.cell 0
                       have t1 := kx.cell 1
                       have tz := kx.lt
                       simp only [List.getElem?_toArray, List.getElem?_cons_zero, List.getElem?_cons_succ] at t0 t1
                       clear kx
                       go_simp
                       rfl)
                clear hK K))
        refine WQ.nil ?_
        intro wn hw
        have HBN := Lib.hid (HB2.out.trans ((HCf.out _ hw).mono HB2z.out))
        have HBX := Lib.hid (HBW.out.trans ((HCf.out _ hw).mono HBW.out.size))
        clear hw hC HCc HCf C HB2 HBW HB2z HCE
        go_wp2_with fail
        have HWX := Lib.hid (HKX.out _ HBN.out)
        clear HKX HI
        have HB9 := Lib.hid (show Below w.heap.size w wn from HBX.out)
        have HSE := Lib.hid ((HS.out.below HB9.out).more HB9.out.size)
        have hkl : k ≤ l.length := by omega
        have hsf := HSE.out.first (k := k) hkl
        have hsl := HSE.out.part k l.length cap hkl (Nat.le_refl _) hc
        have et : (flat encR l).take (k * 3) = flat encR (l.take k) := take_flat encR_len l k
        have ed : ((flat encR l).drop (k * 3)).take ((l.length - k) * 3) = flat encR (l.drop k) := drop_flat encR_len l k
        rw [et] at hsf
        rw [ed] at hsl
        have HSF := Lib.hid hsf
        have HSL : Hid (Sees wn wn.heap.size 3 (sq3 cap k g) (l.length - k) (flat encR (l.drop k))) := Lib.hid (by unfold sq3; simpa using hsl)
        have HTL : Hid ((l.take k).length = k) := Lib.hid (by rw [List.length_take]; omega)
        have HDL : Hid ((l.drop k).length = l.length - k) := Lib.hid List.length_drop
        have hkc2 : k ≤ cap := by omega
        have hck : ¬ cap = k := by omega
        clear hsf hsl et ed
        refine Iv.region (fun f aa y => ∃ p0 v1 p8 v2 v3, aa = ⟨#[.slice (some ⟨g, 0, none⟩) l.length cap, aggR { tx := x1, key := x2, b := x3 }, undef, .pointer (some ⟨w.heap.size, 0, none⟩), so (f 12) (v3) (.slice none 0 0), .int .i64 (k : Int), .int .i64 (k : Int), .slice (some ⟨g, 0, none⟩) l.length cap, .int .i64 (l.length : Int), .bool true, .bool true, .slice (some ⟨g, 0, none⟩) l.length cap, .int .i64 (k : Int), .pointer (some ⟨g, k * 3, none⟩), .pointer (some ⟨g, k * 3 + 1, none⟩), .int .i64 y2, .pointer (some ⟨w.heap.size, 1, none⟩), .int .i64 x2, .bool false, .bool false, .slice (some ⟨g, 0, none⟩) l.length cap, .int .i64 (k : Int), .pointer (some ⟨g, k * 3, none⟩), .pointer (some ⟨g, k * 3 + 1, none⟩), .int .i64 y2, .pointer (some ⟨w.heap.size, 1, none⟩), .int .i64 x2, .bool false, .bool false, undef, undef, undef, undef, undef, undef, undef, undef, .bool false, .bool false, .bool false, u40, u41, so (f 0) (.slice (some ⟨p0, 0, none⟩) 0 0) (undef), so (f 1) (.slice (some ⟨g, 0, none⟩) l.length cap) (undef), so (f 2) (.int .i64 (k : Int)) (undef), so (f 3) (.slice (some ⟨g, 0, none⟩) k cap) (undef), so (f 4) (v1) (undef), so (f 5) (.agg #[.int .i64 x1, .int .i64 x2, .bool x3]) (undef), so (f 6) (.slice (some ⟨p8, 0, none⟩) 1 1) (undef), so (f 7) (v2) (undef), so (f 8) (.slice (some ⟨g, 0, none⟩) l.length cap) (undef), so (f 9) (.int .i64 (k : Int)) (undef), so (f 10) (.slice (sq3 cap k g) (l.length - k) (cap - k)) (undef), so (f 11) (v3) (undef)], []⟩ ∧ Ag wn y [(w.heap.size, 74, #[.int .i64 x1, .int .i64 x2, .bool x3])] wn.heap.size p0 p8 v1 v2 v3 (l.take k) (l.drop k) (⟨x1, x2, x3⟩ : Rw) (f 0) (f 4) (f 6) (f 7) (f 11) ∧ (f 12 = true → f 11 = true)) (by kernel_rfl) (by kernel_rfl) ?_ ?_ ?_
        · exact ⟨0, undef, 0, undef, undef, rfl, ⟨Ag.start (⟨drew_below wn 1, fun r hr => by rcases List.mem_cons.1 hr with rfl | hr; exact HWX.out; cases hr⟩) rfl 0 0 undef undef undef _ _ _, fun h => by cases h⟩⟩
        · refine ⟨?_, ?_, ?_, ?_, ?_, ?_, ?_, ?_, ?_, ?_, ?_, ?_, ?_, trivial⟩
          · rintro f a0 y Q' ⟨p0, v1, p8, v2, v3, rfl, hw⟩ hi hd hQ
            replace hQ := Lib.hid hQ
            simp [Iv.depsB, Region.binds] at hd
            try simp only [hi, hd, sl_true, sl_false, so_true, so_false]
            try simp only [hi, sl_true, sl_false, so_true, so_false]
            have hw2 := hw
            rw [hi] at hw2
            go_wp2_with fail
            refine hQ.out _ _ ⟨y.heap.size, v1, p8, v2, v3, ?_, ?_⟩
            · simp [Iv.upd, hi, hd, sl_true, sl_false, so_true, so_false]
            · simpa [Iv.upd, hi, hd] using (show _ ∧ _ from ⟨hw2.1.made, hw2.2⟩)
          · rintro f a0 y Q' ⟨p0, v1, p8, v2, v3, rfl, hw⟩ hi hd hQ
            replace hQ := Lib.hid hQ
            simp [Iv.depsB, Region.binds] at hd
            try simp only [hi, hd, sl_true, sl_false, so_true, so_false]
            try simp only [hi, sl_true, sl_false, so_true, so_false]
            go_wp2_with fail
            refine hQ.out _ _ ⟨p0, v1, p8, v2, v3, ?_, ?_⟩
            · simp [Iv.upd, hi, hd, sl_true, sl_false, so_true, so_false]
            · simpa [Iv.upd, hi, hd] using hw
          · rintro f a0 y Q' ⟨p0, v1, p8, v2, v3, rfl, hw⟩ hi hd hQ
            replace hQ := Lib.hid hQ
            simp [Iv.depsB, Region.binds] at hd
            try simp only [hi, hd, sl_true, sl_false, so_true, so_false]
            try simp only [hi, sl_true, sl_false, so_true, so_false]
            go_wp2_with fail
            refine hQ.out _ _ ⟨p0, v1, p8, v2, v3, ?_, ?_⟩
            · simp [Iv.upd, hi, hd, sl_true, sl_false, so_true, so_false]
            · simpa [Iv.upd, hi, hd] using hw
          · rintro f a0 y Q' ⟨p0, v1, p8, v2, v3, rfl, hw⟩ hi hd hQ
            replace hQ := Lib.hid hQ
            simp [Iv.depsB, Region.binds] at hd
            try simp only [hi, hd, sl_true, sl_false, so_true, so_false]
            try simp only [hi, sl_true, sl_false, so_true, so_false]
            go_wp2_with fail
            refine hQ.out _ _ ⟨p0, v1, p8, v2, v3, ?_, ?_⟩
            · simp [Iv.upd, hi, hd, sl_true, sl_false, so_true, so_false]
            · simpa [Iv.upd, hi, hd] using hw
          · rintro f a0 y Q' ⟨p0, v1, p8, v2, v3, rfl, hw⟩ hi hd hQ
            replace hQ := Lib.hid hQ
            simp [Iv.depsB, Region.binds] at hd
            try simp only [hi, hd, sl_true, sl_false, so_true, so_false]
            try simp only [hi, sl_true, sl_false, so_true, so_false]
            have ea : f 0 = true := by simp [hd]
            have eb : f 3 = true := by simp [hd]
            have hw2 := hw
            rw [hi, ea] at hw2
            have HW2 := Lib.hid hw2
            clear hw2
            have HW2B : Below wn.heap.size wn y := HW2.out.1.st.below
            try simp only [ea, eb, so_true, so_false]
            refine wpList_appG rfl (.tmp 42) (.tmp 45) _ 74 _ 3 24 rfl info_row Try.underlying25 rfl (by decide) wn.heap.size _ 0 ([]) (by rfl) (HW2.out.1.own0 rfl rfl) wn.heap.size _ k cap (flat encR (l.take k)) (by rfl) (HSF.out.below HW2B) (fun h => by cases h) (flat_encR_one _) (by omega) (by omega) HW2.out.1.low.2.1 ?_
            intro vn yn ho hg
            try rw [Nat.zero_add] at ho
            try rw [List.nil_append] at ho
            have ho : yn.ownsRow wn.heap.size 74 3 vn (l.take k).length (flat encR (l.take k)) := by rw [HTL.out]; exact ho
            go_wp2_with fail
            refine hQ.out _ _ ⟨p0, vn, p8, v2, v3, ?_, ?_⟩
            · simp [Iv.upd, hi, hd, sl_true, sl_false, so_true, so_false, ea, eb]
            · simpa [Iv.upd, hi, hd, ea, eb] using (show _ ∧ _ from ⟨HW2.out.1.app1 ho hg, HW2.out.2⟩)
          · rintro f a0 y Q' ⟨p0, v1, p8, v2, v3, rfl, hw⟩ hi hd hQ
            replace hQ := Lib.hid hQ
            simp [Iv.depsB, Region.binds] at hd
            try simp only [hi, hd, sl_true, sl_false, so_true, so_false]
            try simp only [hi, sl_true, sl_false, so_true, so_false]
            have kx := hw.1.st.knows.at 0 rfl
            have t0 := kx.cell 0
            have t1 := kx.cell 1
            have t2 := kx.cell 2
            have tz := kx.lt
            simp only [List.getElem?_toArray, List.getElem?_cons_zero, List.getElem?_cons_succ] at t0 t1 t2
            clear kx
            go_wp2_with fail
            refine hQ.out _ _ ⟨p0, v1, p8, v2, v3, ?_, ?_⟩
            · simp [Iv.upd, hi, hd, sl_true, sl_false, so_true, so_false]
            · simpa [Iv.upd, hi, hd] using hw
          · rintro f a0 y Q' ⟨p0, v1, p8, v2, v3, rfl, hw⟩ hi hd hQ
            replace hQ := Lib.hid hQ
            simp [Iv.depsB, Region.binds] at hd
            try simp only [hi, hd, sl_true, sl_false, so_true, so_false]
            try simp only [hi, sl_true, sl_false, so_true, so_false]
            have hw2 := hw
            rw [hi] at hw2
            go_wp2_with fail
            refine hQ.out _ _ ⟨p0, v1, y.heap.size, v2, v3, ?_, ?_⟩
            · simp [Iv.upd, hi, hd, sl_true, sl_false, so_true, so_false]
            · simpa [Iv.upd, hi, hd] using (show _ ∧ _ from ⟨hw2.1.item8, hw2.2⟩)
          · rintro f a0 y Q' ⟨p0, v1, p8, v2, v3, rfl, hw⟩ hi hd hQ
            replace hQ := Lib.hid hQ
            simp [Iv.depsB, Region.binds] at hd
            try simp only [hi, hd, sl_true, sl_false, so_true, so_false]
            try simp only [hi, sl_true, sl_false, so_true, so_false]
            have ea : f 4 = true := by simp [hd]
            have eb : f 6 = true := by simp [hd]
            have hw2 := hw
            rw [hi, ea, eb] at hw2
            have HW2 := Lib.hid hw2
            clear hw2
            have HW2B : Below wn.heap.size wn y := HW2.out.1.st.below
            try simp only [ea, eb, so_true, so_false]
            refine wpList_appG rfl (.tmp 46) (.tmp 48) _ 74 _ 3 24 rfl info_row Try.underlying25 rfl (by decide) wn.heap.size _ (l.take k).length (flat encR (l.take k)) (by rfl) (HW2.out.1.own1 rfl rfl) (p8 + 1) (some ⟨p8, 0, none⟩) 1 1 (flat encR [(⟨x1, x2, x3⟩ : Rw)]) (by rfl) HW2.out.1.sees (fun h => by cases h) (flat_encR_one _) (by have := HTL.out; omega) (by have := HTL.out; omega) HW2.out.1.low.2.1 ?_
            intro vn yn ho hg
            rw [← flat_append] at ho
            go_wp2_with fail
            refine hQ.out _ _ ⟨p0, v1, p8, vn, v3, ?_, ?_⟩
            · simp [Iv.upd, hi, hd, sl_true, sl_false, so_true, so_false, ea, eb]
            · simpa [Iv.upd, hi, hd, ea, eb] using (show _ ∧ _ from ⟨HW2.out.1.app2 ho hg, HW2.out.2⟩)
          · rintro f a0 y Q' ⟨p0, v1, p8, v2, v3, rfl, hw⟩ hi hd hQ
            replace hQ := Lib.hid hQ
            simp [Iv.depsB, Region.binds] at hd
            try simp only [hi, hd, sl_true, sl_false, so_true, so_false]
            try simp only [hi, sl_true, sl_false, so_true, so_false]
            go_wp2_with fail
            refine hQ.out _ _ ⟨p0, v1, p8, v2, v3, ?_, ?_⟩
            · simp [Iv.upd, hi, hd, sl_true, sl_false, so_true, so_false]
            · simpa [Iv.upd, hi, hd] using hw
          · rintro f a0 y Q' ⟨p0, v1, p8, v2, v3, rfl, hw⟩ hi hd hQ
            replace hQ := Lib.hid hQ
            simp [Iv.depsB, Region.binds] at hd
            try simp only [hi, hd, sl_true, sl_false, so_true, so_false]
            try simp only [hi, sl_true, sl_false, so_true, so_false]
            go_wp2_with fail
            refine hQ.out _ _ ⟨p0, v1, p8, v2, v3, ?_, ?_⟩
            · simp [Iv.upd, hi, hd, sl_true, sl_false, so_true, so_false]
            · simpa [Iv.upd, hi, hd] using hw
          · rintro f a0 y Q' ⟨p0, v1, p8, v2, v3, rfl, hw⟩ hi hd hQ
            replace hQ := Lib.hid hQ
            simp [Iv.depsB, Region.binds] at hd
            try simp only [hi, hd, sl_true, sl_false, so_true, so_false]
            try simp only [hi, sl_true, sl_false, so_true, so_false]
            go_wp2_with fail
            all_goals
              refine hQ.out _ _ ⟨p0, v1, p8, v2, v3, ?_, ?_⟩
              · simp [Iv.upd, hi, hd, sl_true, sl_false, so_true, so_false, sq3, *]
              · simpa [Iv.upd, hi, hd] using hw
          · rintro f a0 y Q' ⟨p0, v1, p8, v2, v3, rfl, hw⟩ hi hd hQ
            replace hQ := Lib.hid hQ
            simp [Iv.depsB, Region.binds] at hd
            try simp only [hi, hd, sl_true, sl_false, so_true, so_false]
            try simp only [hi, sl_true, sl_false, so_true, so_false]
            have e9 : f 12 = false := by
              cases e : f 12 with
              | false => rfl
              | true => have h1 := hw.2 e; rw [hi] at h1; cases h1
            have ea : f 7 = true := by simp [hd]
            have eb : f 10 = true := by simp [hd]
            have hw2 := hw
            rw [hi, ea] at hw2
            have HW2 := Lib.hid hw2
            clear hw2
            have HW2B : Below wn.heap.size wn y := HW2.out.1.st.below
            try simp only [ea, eb, so_true, so_false]
            refine wpList_appG rfl (.tmp 49) (.tmp 52) _ 74 _ 3 24 rfl info_row Try.underlying25 rfl (by decide) wn.heap.size _ ((l.take k).length + 1) (flat encR (l.take k ++ [(⟨x1, x2, x3⟩ : Rw)])) (by rfl) (HW2.out.1.own2 rfl rfl) wn.heap.size _ (l.length - k) (cap - k) (flat encR (l.drop k)) (by rfl) (HSL.out.below HW2B) (fun h => absurd h (sq3_none _ _ _)) (flat_encR_one _) (by have := HTL.out; omega) (by have := HTL.out; omega) HW2.out.1.low.2.1 ?_
            intro vn yn ho hg
            rw [← flat_append] at ho
            rw [← HDL.out] at ho
            go_wp2_with fail
            refine hQ.out _ _ ⟨p0, v1, p8, v2, vn, ?_, ?_⟩
            · simp [Iv.upd, hi, hd, sl_true, sl_false, so_true, so_false, ea, eb, e9]
            · simpa [Iv.upd, hi, hd, ea, eb, e9] using HW2.out.1.app3 ho hg
          · rintro f a0 y Q' ⟨p0, v1, p8, v2, v3, rfl, hw⟩ hi hd hQ
            replace hQ := Lib.hid hQ
            simp [Iv.depsB, Region.binds] at hd
            try simp only [hi, hd, sl_true, sl_false, so_true, so_false]
            try simp only [hi, sl_true, sl_false, so_true, so_false]
            have ea : f 11 = true := by simp [hd]
            try simp only [ea, so_true, so_false]
            go_wp2_with fail
            refine hQ.out _ _ ⟨p0, v1, p8, v2, v3, ?_, ?_⟩
            · simp [Iv.upd, hi, hd, sl_true, sl_false, so_true, so_false, ea]
            · simpa [Iv.upd, hi, hd, ea] using hw.1
        · rintro f a0 yz ⟨p0, v1, p8, v2, v3, rfl, hw⟩ hall
          simp only [hall 0 (by decide), hall 1 (by decide), hall 2 (by decide), hall 3 (by decide), hall 4 (by decide), hall 5 (by decide), hall 6 (by decide), hall 7 (by decide), hall 8 (by decide), hall 9 (by decide), hall 10 (by decide), hall 11 (by decide), hall 12 (by decide), sl_true, ↓reduceIte, so_true, so_false] at hw ⊢
          clear hall
          have HO3 := Lib.hid (hw.1.own3 rfl)
          have HBZ := Lib.hid (HB9.out.trans (hw.1.st.below.mono HB9.out.size))
          clear hw
          go_wp2_with fail
          go_ret
          refine ⟨v3, rfl, ?_, HBZ.out⟩
          rw [HPT.out]
          have hlen : (l.take k ++ [(⟨x1, x2, x3⟩ : Rw)] ++ l.drop k).length = (l.take k).length + 1 + (l.drop k).length := by simp <;> omega
          rw [hlen]
          exact own_lessB HO3.out HB9.out.size
      · have HPT := Lib.hid (HPU.out k HI.out (HGE.out (.inr ⟨hq, hq2⟩)) (by omega))
        clear HLT HGE
        have a1 : (y2 < x2) = False := eq_false (by omega)
        have a2 : (y2 == x2) = true := by simpa using hq
        have a3 : (y1 < x1) = False := eq_false (by omega)
        obtain ⟨C, hC, HCc, HCf⟩ := below_class wr
        go_wp2_with fail
        refine region_in C hC (by kernel_rfl) (by kernel_rfl) ?_
        iterate 34
          (refine WQ.step (fun K hK => ?_)
           go_simp
           first
             | (refine hK _ ?_; clear hK K)
             | (apply Exists.intro
                refine ⟨fun z hz => ?_, hK _ ?_⟩
                · first
                    | rfl
                    | (obtain ⟨p0, p1, p2⟩ := HCE.out z (HBW.out.trans ((HCf.out _ hz).mono HBW.out.size))
                       have kx := HKX.out z (HB2.out.trans ((HCf.out _ hz).mono HB2z.out))
                       have t0 := kx.cell 0
                       have t1 := kx.cell 1
                       have tz := kx.lt
                       simp only [List.getElem?_toArray, List.getElem?_cons_zero, List.getElem?_cons_succ] at t0 t1
                       clear kx
                       go_simp
                       rfl)
                clear hK K))
        refine WQ.nil ?_
        intro wn hw
        have HBN := Lib.hid (HB2.out.trans ((HCf.out _ hw).mono HB2z.out))
        have HBX := Lib.hid (HBW.out.trans ((HCf.out _ hw).mono HBW.out.size))
        clear hw hC HCc HCf C HB2 HBW HB2z HCE
        go_wp2_with fail
        have HWX := Lib.hid (HKX.out _ HBN.out)
        clear HKX HI
        have HB9 := Lib.hid (show Below w.heap.size w wn from HBX.out)
        have HSE := Lib.hid ((HS.out.below HB9.out).more HB9.out.size)
        have hkl : k ≤ l.length := by omega
        have hsf := HSE.out.first (k := k) hkl
        have hsl := HSE.out.part k l.length cap hkl (Nat.le_refl _) hc
        have et : (flat encR l).take (k * 3) = flat encR (l.take k) := take_flat encR_len l k
        have ed : ((flat encR l).drop (k * 3)).take ((l.length - k) * 3) = flat encR (l.drop k) := drop_flat encR_len l k
        rw [et] at hsf
        rw [ed] at hsl
        have HSF := Lib.hid hsf
        have HSL : Hid (Sees wn wn.heap.size 3 (sq3 cap k g) (l.length - k) (flat encR (l.drop k))) := Lib.hid (by unfold sq3; simpa using hsl)
        have HTL : Hid ((l.take k).length = k) := Lib.hid (by rw [List.length_take]; omega)
        have HDL : Hid ((l.drop k).length = l.length - k) := Lib.hid List.length_drop
        have hkc2 : k ≤ cap := by omega
        have hck : ¬ cap = k := by omega
        clear hsf hsl et ed
        refine Iv.region (fun f aa y => ∃ p0 v1 p8 v2 v3, aa = ⟨#[.slice (some ⟨g, 0, none⟩) l.length cap, aggR { tx := x1, key := x2, b := x3 }, undef, .pointer (some ⟨w.heap.size, 0, none⟩), so (f 12) (v3) (.slice none 0 0), .int .i64 (k : Int), .int .i64 (k : Int), .slice (some ⟨g, 0, none⟩) l.length cap, .int .i64 (l.length : Int), .bool true, .bool true, .slice (some ⟨g, 0, none⟩) l.length cap, .int .i64 (k : Int), .pointer (some ⟨g, k * 3, none⟩), .pointer (some ⟨g, k * 3 + 1, none⟩), .int .i64 x2, .pointer (some ⟨w.heap.size, 1, none⟩), .int .i64 x2, .bool false, .bool false, .slice (some ⟨g, 0, none⟩) l.length cap, .int .i64 (k : Int), .pointer (some ⟨g, k * 3, none⟩), .pointer (some ⟨g, k * 3 + 1, none⟩), .int .i64 x2, .pointer (some ⟨w.heap.size, 1, none⟩), .int .i64 x2, .bool true, .bool true, .slice (some ⟨g, 0, none⟩) l.length cap, .int .i64 (k : Int), .pointer (some ⟨g, k * 3, none⟩), .pointer (some ⟨g, k * 3, none⟩), .int .i64 y1, .pointer (some ⟨w.heap.size, 0, none⟩), .int .i64 x1, .bool false, .bool false, .bool false, .bool false, u40, u41, so (f 0) (.slice (some ⟨p0, 0, none⟩) 0 0) (undef), so (f 1) (.slice (some ⟨g, 0, none⟩) l.length cap) (undef), so (f 2) (.int .i64 (k : Int)) (undef), so (f 3) (.slice (some ⟨g, 0, none⟩) k cap) (undef), so (f 4) (v1) (undef), so (f 5) (.agg #[.int .i64 x1, .int .i64 x2, .bool x3]) (undef), so (f 6) (.slice (some ⟨p8, 0, none⟩) 1 1) (undef), so (f 7) (v2) (undef), so (f 8) (.slice (some ⟨g, 0, none⟩) l.length cap) (undef), so (f 9) (.int .i64 (k : Int)) (undef), so (f 10) (.slice (sq3 cap k g) (l.length - k) (cap - k)) (undef), so (f 11) (v3) (undef)], []⟩ ∧ Ag wn y [(w.heap.size, 74, #[.int .i64 x1, .int .i64 x2, .bool x3])] wn.heap.size p0 p8 v1 v2 v3 (l.take k) (l.drop k) (⟨x1, x2, x3⟩ : Rw) (f 0) (f 4) (f 6) (f 7) (f 11) ∧ (f 12 = true → f 11 = true)) (by kernel_rfl) (by kernel_rfl) ?_ ?_ ?_
        · exact ⟨0, undef, 0, undef, undef, rfl, ⟨Ag.start (⟨drew_below wn 1, fun r hr => by rcases List.mem_cons.1 hr with rfl | hr; exact HWX.out; cases hr⟩) rfl 0 0 undef undef undef _ _ _, fun h => by cases h⟩⟩
        · refine ⟨?_, ?_, ?_, ?_, ?_, ?_, ?_, ?_, ?_, ?_, ?_, ?_, ?_, trivial⟩
          · rintro f a0 y Q' ⟨p0, v1, p8, v2, v3, rfl, hw⟩ hi hd hQ
            replace hQ := Lib.hid hQ
            simp [Iv.depsB, Region.binds] at hd
            try simp only [hi, hd, sl_true, sl_false, so_true, so_false]
            try simp only [hi, sl_true, sl_false, so_true, so_false]
            have hw2 := hw
            rw [hi] at hw2
            go_wp2_with fail
            refine hQ.out _ _ ⟨y.heap.size, v1, p8, v2, v3, ?_, ?_⟩
            · simp [Iv.upd, hi, hd, sl_true, sl_false, so_true, so_false]
            · simpa [Iv.upd, hi, hd] using (show _ ∧ _ from ⟨hw2.1.made, hw2.2⟩)
          · rintro f a0 y Q' ⟨p0, v1, p8, v2, v3, rfl, hw⟩ hi hd hQ
            replace hQ := Lib.hid hQ
            simp [Iv.depsB, Region.binds] at hd
            try simp only [hi, hd, sl_true, sl_false, so_true, so_false]
            try simp only [hi, sl_true, sl_false, so_true, so_false]
            go_wp2_with fail
            refine hQ.out _ _ ⟨p0, v1, p8, v2, v3, ?_, ?_⟩
            · simp [Iv.upd, hi, hd, sl_true, sl_false, so_true, so_false]
            · simpa [Iv.upd, hi, hd] using hw
          · rintro f a0 y Q' ⟨p0, v1, p8, v2, v3, rfl, hw⟩ hi hd hQ
            replace hQ := Lib.hid hQ
            simp [Iv.depsB, Region.binds] at hd
            try simp only [hi, hd, sl_true, sl_false, so_true, so_false]
            try simp only [hi, sl_true, sl_false, so_true, so_false]
            go_wp2_with fail
            refine hQ.out _ _ ⟨p0, v1, p8, v2, v3, ?_, ?_⟩
            · simp [Iv.upd, hi, hd, sl_true, sl_false, so_true, so_false]
            · simpa [Iv.upd, hi, hd] using hw
          · rintro f a0 y Q' ⟨p0, v1, p8, v2, v3, rfl, hw⟩ hi hd hQ
            replace hQ := Lib.hid hQ
            simp [Iv.depsB, Region.binds] at hd
            try simp only [hi, hd, sl_true, sl_false, so_true, so_false]
            try simp only [hi, sl_true, sl_false, so_true, so_false]
            go_wp2_with fail
            refine hQ.out _ _ ⟨p0, v1, p8, v2, v3, ?_, ?_⟩
            · simp [Iv.upd, hi, hd, sl_true, sl_false, so_true, so_false]
            · simpa [Iv.upd, hi, hd] using hw
          · rintro f a0 y Q' ⟨p0, v1, p8, v2, v3, rfl, hw⟩ hi hd hQ
            replace hQ := Lib.hid hQ
            simp [Iv.depsB, Region.binds] at hd
            try simp only [hi, hd, sl_true, sl_false, so_true, so_false]
            try simp only [hi, sl_true, sl_false, so_true, so_false]
            have ea : f 0 = true := by simp [hd]
            have eb : f 3 = true := by simp [hd]
            have hw2 := hw
            rw [hi, ea] at hw2
            have HW2 := Lib.hid hw2
            clear hw2
            have HW2B : Below wn.heap.size wn y := HW2.out.1.st.below
            try simp only [ea, eb, so_true, so_false]
            refine wpList_appG rfl (.tmp 42) (.tmp 45) _ 74 _ 3 24 rfl info_row Try.underlying25 rfl (by decide) wn.heap.size _ 0 ([]) (by rfl) (HW2.out.1.own0 rfl rfl) wn.heap.size _ k cap (flat encR (l.take k)) (by rfl) (HSF.out.below HW2B) (fun h => by cases h) (flat_encR_one _) (by omega) (by omega) HW2.out.1.low.2.1 ?_
            intro vn yn ho hg
            try rw [Nat.zero_add] at ho
            try rw [List.nil_append] at ho
            have ho : yn.ownsRow wn.heap.size 74 3 vn (l.take k).length (flat encR (l.take k)) := by rw [HTL.out]; exact ho
            go_wp2_with fail
            refine hQ.out _ _ ⟨p0, vn, p8, v2, v3, ?_, ?_⟩
            · simp [Iv.upd, hi, hd, sl_true, sl_false, so_true, so_false, ea, eb]
            · simpa [Iv.upd, hi, hd, ea, eb] using (show _ ∧ _ from ⟨HW2.out.1.app1 ho hg, HW2.out.2⟩)
          · rintro f a0 y Q' ⟨p0, v1, p8, v2, v3, rfl, hw⟩ hi hd hQ
            replace hQ := Lib.hid hQ
            simp [Iv.depsB, Region.binds] at hd
            try simp only [hi, hd, sl_true, sl_false, so_true, so_false]
            try simp only [hi, sl_true, sl_false, so_true, so_false]
            have kx := hw.1.st.knows.at 0 rfl
            have t0 := kx.cell 0
            have t1 := kx.cell 1
            have t2 := kx.cell 2
            have tz := kx.lt
            simp only [List.getElem?_toArray, List.getElem?_cons_zero, List.getElem?_cons_succ] at t0 t1 t2
            clear kx
            go_wp2_with fail
            refine hQ.out _ _ ⟨p0, v1, p8, v2, v3, ?_, ?_⟩
            · simp [Iv.upd, hi, hd, sl_true, sl_false, so_true, so_false]
            · simpa [Iv.upd, hi, hd] using hw
          · rintro f a0 y Q' ⟨p0, v1, p8, v2, v3, rfl, hw⟩ hi hd hQ
            replace hQ := Lib.hid hQ
            simp [Iv.depsB, Region.binds] at hd
            try simp only [hi, hd, sl_true, sl_false, so_true, so_false]
            try simp only [hi, sl_true, sl_false, so_true, so_false]
            have hw2 := hw
            rw [hi] at hw2
            go_wp2_with fail
            refine hQ.out _ _ ⟨p0, v1, y.heap.size, v2, v3, ?_, ?_⟩
            · simp [Iv.upd, hi, hd, sl_true, sl_false, so_true, so_false]
            · simpa [Iv.upd, hi, hd] using (show _ ∧ _ from ⟨hw2.1.item8, hw2.2⟩)
          · rintro f a0 y Q' ⟨p0, v1, p8, v2, v3, rfl, hw⟩ hi hd hQ
            replace hQ := Lib.hid hQ
            simp [Iv.depsB, Region.binds] at hd
            try simp only [hi, hd, sl_true, sl_false, so_true, so_false]
            try simp only [hi, sl_true, sl_false, so_true, so_false]
            have ea : f 4 = true := by simp [hd]
            have eb : f 6 = true := by simp [hd]
            have hw2 := hw
            rw [hi, ea, eb] at hw2
            have HW2 := Lib.hid hw2
            clear hw2
            have HW2B : Below wn.heap.size wn y := HW2.out.1.st.below
            try simp only [ea, eb, so_true, so_false]
            refine wpList_appG rfl (.tmp 46) (.tmp 48) _ 74 _ 3 24 rfl info_row Try.underlying25 rfl (by decide) wn.heap.size _ (l.take k).length (flat encR (l.take k)) (by rfl) (HW2.out.1.own1 rfl rfl) (p8 + 1) (some ⟨p8, 0, none⟩) 1 1 (flat encR [(⟨x1, x2, x3⟩ : Rw)]) (by rfl) HW2.out.1.sees (fun h => by cases h) (flat_encR_one _) (by have := HTL.out; omega) (by have := HTL.out; omega) HW2.out.1.low.2.1 ?_
            intro vn yn ho hg
            rw [← flat_append] at ho
            go_wp2_with fail
            refine hQ.out _ _ ⟨p0, v1, p8, vn, v3, ?_, ?_⟩
            · simp [Iv.upd, hi, hd, sl_true, sl_false, so_true, so_false, ea, eb]
            · simpa [Iv.upd, hi, hd, ea, eb] using (show _ ∧ _ from ⟨HW2.out.1.app2 ho hg, HW2.out.2⟩)
          · rintro f a0 y Q' ⟨p0, v1, p8, v2, v3, rfl, hw⟩ hi hd hQ
            replace hQ := Lib.hid hQ
            simp [Iv.depsB, Region.binds] at hd
            try simp only [hi, hd, sl_true, sl_false, so_true, so_false]
            try simp only [hi, sl_true, sl_false, so_true, so_false]
            go_wp2_with fail
            refine hQ.out _ _ ⟨p0, v1, p8, v2, v3, ?_, ?_⟩
            · simp [Iv.upd, hi, hd, sl_true, sl_false, so_true, so_false]
            · simpa [Iv.upd, hi, hd] using hw
          · rintro f a0 y Q' ⟨p0, v1, p8, v2, v3, rfl, hw⟩ hi hd hQ
            replace hQ := Lib.hid hQ
            simp [Iv.depsB, Region.binds] at hd
            try simp only [hi, hd, sl_true, sl_false, so_true, so_false]
            try simp only [hi, sl_true, sl_false, so_true, so_false]
            go_wp2_with fail
            refine hQ.out _ _ ⟨p0, v1, p8, v2, v3, ?_, ?_⟩
            · simp [Iv.upd, hi, hd, sl_true, sl_false, so_true, so_false]
            · simpa [Iv.upd, hi, hd] using hw
          · rintro f a0 y Q' ⟨p0, v1, p8, v2, v3, rfl, hw⟩ hi hd hQ
            replace hQ := Lib.hid hQ
            simp [Iv.depsB, Region.binds] at hd
            try simp only [hi, hd, sl_true, sl_false, so_true, so_false]
            try simp only [hi, sl_true, sl_false, so_true, so_false]
            go_wp2_with fail
            all_goals
              refine hQ.out _ _ ⟨p0, v1, p8, v2, v3, ?_, ?_⟩
              · simp [Iv.upd, hi, hd, sl_true, sl_false, so_true, so_false, sq3, *]
              · simpa [Iv.upd, hi, hd] using hw
          · rintro f a0 y Q' ⟨p0, v1, p8, v2, v3, rfl, hw⟩ hi hd hQ
            replace hQ := Lib.hid hQ
            simp [Iv.depsB, Region.binds] at hd
            try simp only [hi, hd, sl_true, sl_false, so_true, so_false]
            try simp only [hi, sl_true, sl_false, so_true, so_false]
            have e9 : f 12 = false := by
              cases e : f 12 with
              | false => rfl
              | true => have h1 := hw.2 e; rw [hi] at h1; cases h1
            have ea : f 7 = true := by simp [hd]
            have eb : f 10 = true := by simp [hd]
            have hw2 := hw
            rw [hi, ea] at hw2
            have HW2 := Lib.hid hw2
            clear hw2
            have HW2B : Below wn.heap.size wn y := HW2.out.1.st.below
            try simp only [ea, eb, so_true, so_false]
            refine wpList_appG rfl (.tmp 49) (.tmp 52) _ 74 _ 3 24 rfl info_row Try.underlying25 rfl (by decide) wn.heap.size _ ((l.take k).length + 1) (flat encR (l.take k ++ [(⟨x1, x2, x3⟩ : Rw)])) (by rfl) (HW2.out.1.own2 rfl rfl) wn.heap.size _ (l.length - k) (cap - k) (flat encR (l.drop k)) (by rfl) (HSL.out.below HW2B) (fun h => absurd h (sq3_none _ _ _)) (flat_encR_one _) (by have := HTL.out; omega) (by have := HTL.out; omega) HW2.out.1.low.2.1 ?_
            intro vn yn ho hg
            rw [← flat_append] at ho
            rw [← HDL.out] at ho
            go_wp2_with fail
            refine hQ.out _ _ ⟨p0, v1, p8, v2, vn, ?_, ?_⟩
            · simp [Iv.upd, hi, hd, sl_true, sl_false, so_true, so_false, ea, eb, e9]
            · simpa [Iv.upd, hi, hd, ea, eb, e9] using HW2.out.1.app3 ho hg
          · rintro f a0 y Q' ⟨p0, v1, p8, v2, v3, rfl, hw⟩ hi hd hQ
            replace hQ := Lib.hid hQ
            simp [Iv.depsB, Region.binds] at hd
            try simp only [hi, hd, sl_true, sl_false, so_true, so_false]
            try simp only [hi, sl_true, sl_false, so_true, so_false]
            have ea : f 11 = true := by simp [hd]
            try simp only [ea, so_true, so_false]
            go_wp2_with fail
            refine hQ.out _ _ ⟨p0, v1, p8, v2, v3, ?_, ?_⟩
            · simp [Iv.upd, hi, hd, sl_true, sl_false, so_true, so_false, ea]
            · simpa [Iv.upd, hi, hd, ea] using hw.1
        · rintro f a0 yz ⟨p0, v1, p8, v2, v3, rfl, hw⟩ hall
          simp only [hall 0 (by decide), hall 1 (by decide), hall 2 (by decide), hall 3 (by decide), hall 4 (by decide), hall 5 (by decide), hall 6 (by decide), hall 7 (by decide), hall 8 (by decide), hall 9 (by decide), hall 10 (by decide), hall 11 (by decide), hall 12 (by decide), sl_true, ↓reduceIte, so_true, so_false] at hw ⊢
          clear hall
          have HO3 := Lib.hid (hw.1.own3 rfl)
          have HBZ := Lib.hid (HB9.out.trans (hw.1.st.below.mono HB9.out.size))
          clear hw
          go_wp2_with fail
          go_ret
          refine ⟨v3, rfl, ?_, HBZ.out⟩
          rw [HPT.out]
          have hlen : (l.take k ++ [(⟨x1, x2, x3⟩ : Rw)] ++ l.drop k).length = (l.take k).length + 1 + (l.drop k).length := by simp <;> omega
          rw [hlen]
          exact own_lessB HO3.out HB9.out.size
    · obtain rfl : k = l.length := by omega
      have i1 : ¬ (l.length : Int) < (l.length : Int) := by omega
      have HPT := Lib.hid (HPU.out l.length HI.out (fun y hy => by rw [List.getElem?_eq_none (Nat.le_refl _)] at hy; cases hy) (Nat.le_refl _))
      have hkc : l.length ≤ cap := hc
      have HWX0 := Lib.hid (fun z hz => HKX.out z hz)
      clear HI HKX
      obtain ⟨C, hC, HCc, HCf⟩ := below_class wr
      go_wp2_with fail
      refine region_in C hC (by kernel_rfl) (by kernel_rfl) ?_
      iterate 34
        (refine WQ.step (fun K hK => ?_)
         go_simp
         first
           | (refine hK _ ?_; clear hK K)
           | (apply Exists.intro
              refine ⟨fun z hz => ?_, hK _ ?_⟩
              · rfl
              clear hK K))
      refine WQ.nil ?_
      intro wn hw
      have HBN := Lib.hid (HB2.out.trans ((HCf.out _ hw).mono HB2z.out))
      have HBX := Lib.hid (HBW.out.trans ((HCf.out _ hw).mono HBW.out.size))
      clear hw hC HCc HCf C HB2 HBW HB2z
      go_wp2_with fail
      have HB9 := Lib.hid (show Below w.heap.size w wn from HBX.out)
      have HWX := Lib.hid (HWX0.out _ HBN.out)
      have HSE := Lib.hid ((HS.out.below HB9.out).more HB9.out.size)
      have hkl : l.length ≤ l.length := by omega
      have hsf := HSE.out.first (k := l.length) hkl
      have hsl := HSE.out.part l.length l.length cap hkl (Nat.le_refl _) hc
      have et : (flat encR l).take (l.length * 3) = flat encR (l.take l.length) := take_flat encR_len l l.length
      have ed : ((flat encR l).drop (l.length * 3)).take ((l.length - l.length) * 3) = flat encR (l.drop l.length) := drop_flat encR_len l l.length
      rw [et] at hsf
      rw [ed] at hsl
      have HSF := Lib.hid hsf
      have HSL : Hid (Sees wn wn.heap.size 3 (sq3 cap l.length g) (l.length - l.length) (flat encR (l.drop l.length))) := Lib.hid (by unfold sq3; simpa using hsl)
      have HTL : Hid ((l.take l.length).length = l.length) := Lib.hid (by rw [List.length_take]; omega)
      have HDL : Hid ((l.drop l.length).length = l.length - l.length) := Lib.hid List.length_drop
      have hkc2 : l.length ≤ cap := by omega
      clear hsf hsl et ed
      refine Iv.region (fun f aa y => ∃ p0 v1 p8 v2 v3, aa = ⟨#[.slice (some ⟨g, 0, none⟩) l.length cap, aggR { tx := x1, key := x2, b := x3 }, undef, .pointer (some ⟨w.heap.size, 0, none⟩), so (f 12) (v3) (.slice none 0 0), .int .i64 (l.length : Int), .int .i64 (l.length : Int), .slice (some ⟨g, 0, none⟩) l.length cap, .int .i64 (l.length : Int), .bool false, .bool false, undef, undef, undef, undef, undef, undef, undef, undef, undef, undef, undef, undef, undef, undef, undef, undef, undef, undef, undef, undef, undef, undef, undef, undef, undef, undef, undef, undef, .bool false, u40, u41, so (f 0) (.slice (some ⟨p0, 0, none⟩) 0 0) (undef), so (f 1) (.slice (some ⟨g, 0, none⟩) l.length cap) (undef), so (f 2) (.int .i64 (l.length : Int)) (undef), so (f 3) (.slice (some ⟨g, 0, none⟩) l.length cap) (undef), so (f 4) (v1) (undef), so (f 5) (.agg #[.int .i64 x1, .int .i64 x2, .bool x3]) (undef), so (f 6) (.slice (some ⟨p8, 0, none⟩) 1 1) (undef), so (f 7) (v2) (undef), so (f 8) (.slice (some ⟨g, 0, none⟩) l.length cap) (undef), so (f 9) (.int .i64 (l.length : Int)) (undef), so (f 10) (.slice (sq3 cap l.length g) (l.length - l.length) (cap - l.length)) (undef), so (f 11) (v3) (undef)], []⟩ ∧ Ag wn y [(w.heap.size, 74, #[.int .i64 x1, .int .i64 x2, .bool x3])] wn.heap.size p0 p8 v1 v2 v3 (l.take l.length) (l.drop l.length) (⟨x1, x2, x3⟩ : Rw) (f 0) (f 4) (f 6) (f 7) (f 11) ∧ (f 12 = true → f 11 = true)) (by kernel_rfl) (by kernel_rfl) ?_ ?_ ?_
      · exact ⟨0, undef, 0, undef, undef, rfl, ⟨Ag.start (⟨drew_below wn 1, fun r hr => by rcases List.mem_cons.1 hr with rfl | hr; exact HWX.out; cases hr⟩) rfl 0 0 undef undef undef _ _ _, fun h => by cases h⟩⟩
      · refine ⟨?_, ?_, ?_, ?_, ?_, ?_, ?_, ?_, ?_, ?_, ?_, ?_, ?_, trivial⟩
        · rintro f a0 y Q' ⟨p0, v1, p8, v2, v3, rfl, hw⟩ hi hd hQ
          replace hQ := Lib.hid hQ
          simp [Iv.depsB, Region.binds] at hd
          try simp only [hi, hd, sl_true, sl_false, so_true, so_false]
          try simp only [hi, sl_true, sl_false, so_true, so_false]
          have hw2 := hw
          rw [hi] at hw2
          go_wp2_with fail
          refine hQ.out _ _ ⟨y.heap.size, v1, p8, v2, v3, ?_, ?_⟩
          · simp [Iv.upd, hi, hd, sl_true, sl_false, so_true, so_false]
          · simpa [Iv.upd, hi, hd] using (show _ ∧ _ from ⟨hw2.1.made, hw2.2⟩)
        · rintro f a0 y Q' ⟨p0, v1, p8, v2, v3, rfl, hw⟩ hi hd hQ
          replace hQ := Lib.hid hQ
          simp [Iv.depsB, Region.binds] at hd
          try simp only [hi, hd, sl_true, sl_false, so_true, so_false]
          try simp only [hi, sl_true, sl_false, so_true, so_false]
          go_wp2_with fail
          refine hQ.out _ _ ⟨p0, v1, p8, v2, v3, ?_, ?_⟩
          · simp [Iv.upd, hi, hd, sl_true, sl_false, so_true, so_false]
          · simpa [Iv.upd, hi, hd] using hw
        · rintro f a0 y Q' ⟨p0, v1, p8, v2, v3, rfl, hw⟩ hi hd hQ
          replace hQ := Lib.hid hQ
          simp [Iv.depsB, Region.binds] at hd
          try simp only [hi, hd, sl_true, sl_false, so_true, so_false]
          try simp only [hi, sl_true, sl_false, so_true, so_false]
          go_wp2_with fail
          refine hQ.out _ _ ⟨p0, v1, p8, v2, v3, ?_, ?_⟩
          · simp [Iv.upd, hi, hd, sl_true, sl_false, so_true, so_false]
          · simpa [Iv.upd, hi, hd] using hw
        · rintro f a0 y Q' ⟨p0, v1, p8, v2, v3, rfl, hw⟩ hi hd hQ
          replace hQ := Lib.hid hQ
          simp [Iv.depsB, Region.binds] at hd
          try simp only [hi, hd, sl_true, sl_false, so_true, so_false]
          try simp only [hi, sl_true, sl_false, so_true, so_false]
          go_wp2_with fail
          refine hQ.out _ _ ⟨p0, v1, p8, v2, v3, ?_, ?_⟩
          · simp [Iv.upd, hi, hd, sl_true, sl_false, so_true, so_false]
          · simpa [Iv.upd, hi, hd] using hw
        · rintro f a0 y Q' ⟨p0, v1, p8, v2, v3, rfl, hw⟩ hi hd hQ
          replace hQ := Lib.hid hQ
          simp [Iv.depsB, Region.binds] at hd
          try simp only [hi, hd, sl_true, sl_false, so_true, so_false]
          try simp only [hi, sl_true, sl_false, so_true, so_false]
          have ea : f 0 = true := by simp [hd]
          have eb : f 3 = true := by simp [hd]
          have hw2 := hw
          rw [hi, ea] at hw2
          have HW2 := Lib.hid hw2
          clear hw2
          have HW2B : Below wn.heap.size wn y := HW2.out.1.st.below
          try simp only [ea, eb, so_true, so_false]
          refine wpList_appG rfl (.tmp 42) (.tmp 45) _ 74 _ 3 24 rfl info_row Try.underlying25 rfl (by decide) wn.heap.size _ 0 ([]) (by rfl) (HW2.out.1.own0 rfl rfl) wn.heap.size _ l.length cap (flat encR (l.take l.length)) (by rfl) (HSF.out.below HW2B) (fun h => by cases h) (flat_encR_one _) (by omega) (by omega) HW2.out.1.low.2.1 ?_
          intro vn yn ho hg
          try rw [Nat.zero_add] at ho
          try rw [List.nil_append] at ho
          have ho : yn.ownsRow wn.heap.size 74 3 vn (l.take l.length).length (flat encR (l.take l.length)) := by rw [HTL.out]; exact ho
          go_wp2_with fail
          refine hQ.out _ _ ⟨p0, vn, p8, v2, v3, ?_, ?_⟩
          · simp [Iv.upd, hi, hd, sl_true, sl_false, so_true, so_false, ea, eb]
          · simpa [Iv.upd, hi, hd, ea, eb] using (show _ ∧ _ from ⟨HW2.out.1.app1 ho hg, HW2.out.2⟩)
        · rintro f a0 y Q' ⟨p0, v1, p8, v2, v3, rfl, hw⟩ hi hd hQ
          replace hQ := Lib.hid hQ
          simp [Iv.depsB, Region.binds] at hd
          try simp only [hi, hd, sl_true, sl_false, so_true, so_false]
          try simp only [hi, sl_true, sl_false, so_true, so_false]
          have kx := hw.1.st.knows.at 0 rfl
          have t0 := kx.cell 0
          have t1 := kx.cell 1
          have t2 := kx.cell 2
          have tz := kx.lt
          simp only [List.getElem?_toArray, List.getElem?_cons_zero, List.getElem?_cons_succ] at t0 t1 t2
          clear kx
          go_wp2_with fail
          refine hQ.out _ _ ⟨p0, v1, p8, v2, v3, ?_, ?_⟩
          · simp [Iv.upd, hi, hd, sl_true, sl_false, so_true, so_false]
          · simpa [Iv.upd, hi, hd] using hw
        · rintro f a0 y Q' ⟨p0, v1, p8, v2, v3, rfl, hw⟩ hi hd hQ
          replace hQ := Lib.hid hQ
          simp [Iv.depsB, Region.binds] at hd
          try simp only [hi, hd, sl_true, sl_false, so_true, so_false]
          try simp only [hi, sl_true, sl_false, so_true, so_false]
          have hw2 := hw
          rw [hi] at hw2
          go_wp2_with fail
          refine hQ.out _ _ ⟨p0, v1, y.heap.size, v2, v3, ?_, ?_⟩
          · simp [Iv.upd, hi, hd, sl_true, sl_false, so_true, so_false]
          · simpa [Iv.upd, hi, hd] using (show _ ∧ _ from ⟨hw2.1.item8, hw2.2⟩)
        · rintro f a0 y Q' ⟨p0, v1, p8, v2, v3, rfl, hw⟩ hi hd hQ
          replace hQ := Lib.hid hQ
          simp [Iv.depsB, Region.binds] at hd
          try simp only [hi, hd, sl_true, sl_false, so_true, so_false]
          try simp only [hi, sl_true, sl_false, so_true, so_false]
          have ea : f 4 = true := by simp [hd]
          have eb : f 6 = true := by simp [hd]
          have hw2 := hw
          rw [hi, ea, eb] at hw2
          have HW2 := Lib.hid hw2
          clear hw2
          have HW2B : Below wn.heap.size wn y := HW2.out.1.st.below
          try simp only [ea, eb, so_true, so_false]
          refine wpList_appG rfl (.tmp 46) (.tmp 48) _ 74 _ 3 24 rfl info_row Try.underlying25 rfl (by decide) wn.heap.size _ (l.take l.length).length (flat encR (l.take l.length)) (by rfl) (HW2.out.1.own1 rfl rfl) (p8 + 1) (some ⟨p8, 0, none⟩) 1 1 (flat encR [(⟨x1, x2, x3⟩ : Rw)]) (by rfl) HW2.out.1.sees (fun h => by cases h) (flat_encR_one _) (by have := HTL.out; omega) (by have := HTL.out; omega) HW2.out.1.low.2.1 ?_
          intro vn yn ho hg
          rw [← flat_append] at ho
          go_wp2_with fail
          refine hQ.out _ _ ⟨p0, v1, p8, vn, v3, ?_, ?_⟩
          · simp [Iv.upd, hi, hd, sl_true, sl_false, so_true, so_false, ea, eb]
          · simpa [Iv.upd, hi, hd, ea, eb] using (show _ ∧ _ from ⟨HW2.out.1.app2 ho hg, HW2.out.2⟩)
        · rintro f a0 y Q' ⟨p0, v1, p8, v2, v3, rfl, hw⟩ hi hd hQ
          replace hQ := Lib.hid hQ
          simp [Iv.depsB, Region.binds] at hd
          try simp only [hi, hd, sl_true, sl_false, so_true, so_false]
          try simp only [hi, sl_true, sl_false, so_true, so_false]
          go_wp2_with fail
          refine hQ.out _ _ ⟨p0, v1, p8, v2, v3, ?_, ?_⟩
          · simp [Iv.upd, hi, hd, sl_true, sl_false, so_true, so_false]
          · simpa [Iv.upd, hi, hd] using hw
        · rintro f a0 y Q' ⟨p0, v1, p8, v2, v3, rfl, hw⟩ hi hd hQ
          replace hQ := Lib.hid hQ
          simp [Iv.depsB, Region.binds] at hd
          try simp only [hi, hd, sl_true, sl_false, so_true, so_false]
          try simp only [hi, sl_true, sl_false, so_true, so_false]
          go_wp2_with fail
          refine hQ.out _ _ ⟨p0, v1, p8, v2, v3, ?_, ?_⟩
          · simp [Iv.upd, hi, hd, sl_true, sl_false, so_true, so_false]
          · simpa [Iv.upd, hi, hd] using hw
        · rintro f a0 y Q' ⟨p0, v1, p8, v2, v3, rfl, hw⟩ hi hd hQ
          replace hQ := Lib.hid hQ
          simp [Iv.depsB, Region.binds] at hd
          try simp only [hi, hd, sl_true, sl_false, so_true, so_false]
          try simp only [hi, sl_true, sl_false, so_true, so_false]
          go_wp2_with fail
          all_goals
            refine hQ.out _ _ ⟨p0, v1, p8, v2, v3, ?_, ?_⟩
            · simp [Iv.upd, hi, hd, sl_true, sl_false, so_true, so_false, sq3, *]
            · simpa [Iv.upd, hi, hd] using hw
        · rintro f a0 y Q' ⟨p0, v1, p8, v2, v3, rfl, hw⟩ hi hd hQ
          replace hQ := Lib.hid hQ
          simp [Iv.depsB, Region.binds] at hd
          try simp only [hi, hd, sl_true, sl_false, so_true, so_false]
          try simp only [hi, sl_true, sl_false, so_true, so_false]
          have e9 : f 12 = false := by
            cases e : f 12 with
            | false => rfl
            | true => have h1 := hw.2 e; rw [hi] at h1; cases h1
          have ea : f 7 = true := by simp [hd]
          have eb : f 10 = true := by simp [hd]
          have hw2 := hw
          rw [hi, ea] at hw2
          have HW2 := Lib.hid hw2
          clear hw2
          have HW2B : Below wn.heap.size wn y := HW2.out.1.st.below
          try simp only [ea, eb, so_true, so_false]
          refine wpList_appG rfl (.tmp 49) (.tmp 52) _ 74 _ 3 24 rfl info_row Try.underlying25 rfl (by decide) wn.heap.size _ ((l.take l.length).length + 1) (flat encR (l.take l.length ++ [(⟨x1, x2, x3⟩ : Rw)])) (by rfl) (HW2.out.1.own2 rfl rfl) wn.heap.size _ (l.length - l.length) (cap - l.length) (flat encR (l.drop l.length)) (by rfl) (HSL.out.below HW2B) (fun h => absurd h (sq3_none _ _ _)) (flat_encR_one _) (by have := HTL.out; omega) (by have := HTL.out; omega) HW2.out.1.low.2.1 ?_
          intro vn yn ho hg
          rw [← flat_append] at ho
          rw [← HDL.out] at ho
          go_wp2_with fail
          refine hQ.out _ _ ⟨p0, v1, p8, v2, vn, ?_, ?_⟩
          · simp [Iv.upd, hi, hd, sl_true, sl_false, so_true, so_false, ea, eb, e9]
          · simpa [Iv.upd, hi, hd, ea, eb, e9] using HW2.out.1.app3 ho hg
        · rintro f a0 y Q' ⟨p0, v1, p8, v2, v3, rfl, hw⟩ hi hd hQ
          replace hQ := Lib.hid hQ
          simp [Iv.depsB, Region.binds] at hd
          try simp only [hi, hd, sl_true, sl_false, so_true, so_false]
          try simp only [hi, sl_true, sl_false, so_true, so_false]
          have ea : f 11 = true := by simp [hd]
          try simp only [ea, so_true, so_false]
          go_wp2_with fail
          refine hQ.out _ _ ⟨p0, v1, p8, v2, v3, ?_, ?_⟩
          · simp [Iv.upd, hi, hd, sl_true, sl_false, so_true, so_false, ea]
          · simpa [Iv.upd, hi, hd, ea] using hw.1
      · rintro f a0 yz ⟨p0, v1, p8, v2, v3, rfl, hw⟩ hall
        simp only [hall 0 (by decide), hall 1 (by decide), hall 2 (by decide), hall 3 (by decide), hall 4 (by decide), hall 5 (by decide), hall 6 (by decide), hall 7 (by decide), hall 8 (by decide), hall 9 (by decide), hall 10 (by decide), hall 11 (by decide), hall 12 (by decide), sl_true, ↓reduceIte, so_true, so_false] at hw ⊢
        clear hall
        have HO3 := Lib.hid (hw.1.own3 rfl)
        have HBZ := Lib.hid (HB9.out.trans (hw.1.st.below.mono HB9.out.size))
        clear hw
        go_wp2_with fail
        go_ret
        refine ⟨v3, rfl, ?_, HBZ.out⟩
        rw [HPT.out]
        have hlen : (l.take l.length ++ [(⟨x1, x2, x3⟩ : Rw)] ++ l.drop l.length).length = (l.take l.length).length + 1 + (l.drop l.length).length := by simp <;> omega
        rw [hlen]
        exact own_lessB HO3.out HB9.out.size
end Go.Proofs.Ytcjefigcaifmeaa
