/- Contracts at layer 12, of the document's Keys. (Written by gstok.py.) -/
import Derived.Test.YtcpcepbjdohdmaaStoG
namespace Go.Proofs.Ytcpcepbjdohdmaa
open Go.ChangeShapes Go.WideShapes Go.ChangeAt Go.RowKit Go.Cn Go.So
set_option linter.unusedVariables false
set_option linter.unusedSimpArgs false
set_option maxRecDepth 100000
/-- Where the rest of a list lies, as the model tells it: at the end of the room it doesn't move. -/
def sq (cp n g : Nat) : Option Addr := if cp = n then some ⟨g, 0, none⟩ else some ⟨g, n, none⟩
theorem sq_none (cp n g : Nat) : sq cp n g ≠ none := by unfold sq; split <;> simp
set_option maxHeartbeats 16000000 in
theorem rkeys_any (A : Option Addr) (cap : Nat) (l : List Dr) (c m : Int) (w : World) (h : Dv w A cap l) (hl : l.length ≤ 1000000000) (hkeys : ∀ x ∈ l, 0 ≤ x.2.1 ∧ x.2.1 < 8192) :
    Calls Try.prog 36 #[aggM A l.length cap c m] w fun e w' => ∃ A' cap', e = .returned (.slice A' (keysD l).length cap') ∧ Below w.heap.size w w' ∧ w'.ownsRow w.heap.size 3 1 (.slice A' (keysD l).length cap') (keysD l).length (ints (keysD l)) := by
  have H := Lib.hid (((St.start w).alloc w.heap.size rfl 27 #[.slice A l.length cap, .int .i64 c, .int .i64 m]).other (.cells #[] 3))
  have HO0 := Lib.hid (own_at0 (w.alloc (.cells #[.slice A l.length cap, .int .i64 c, .int .i64 m] 27)) 3 1 (w.heap.size + 1) (by simp))
  have HD := Lib.hid h
  have HLEN := Lib.hid (fun n => keysD_len l hkeys n)
  have hroom := h.room
  have htop := h.top
  clear h hkeys
  go_enter Try.func36, Try.ntmps36
  go_wp2_with fail
  go_loopw [3, 4] (fun v i wr => ∃ (j g cp : Nat), j ≤ l.length ∧ i = .int .i64 (j : Int) ∧ v = .slice (some ⟨g, 0, none⟩) (keysD (l.take j)).length cp ∧ wr.ownsRow (w.heap.size + 1) 3 1 (.slice (some ⟨g, 0, none⟩) (keysD (l.take j)).length cp) (keysD (l.take j)).length (ints (keysD (l.take j))) ∧ St w wr [(w.heap.size, 27, #[.slice A l.length cap, .int .i64 c, .int .i64 m])]) (fun _ i _ => l.length - (intOf i).toNat)
  case atStart => exact ⟨0, w.heap.size + 1, 0, by omega, rfl, rfl, HO0.out, H.out⟩
  case round =>
    obtain ⟨j, g, cp, hj, rfl, rfl, ho, hst⟩ := hrel
    have HO := Lib.hid ho
    have HS := Lib.hid hst
    have hk := hst.knows.at 0 rfl
    have c0 := hk.cell 0
    have cz := hk.lt
    have hlen := HLEN.out j
    have hoc : (keysD (l.take j)).length ≤ cp := by
      obtain ⟨_, _, e, h, _⟩ := own_slice0 ho
      injection e with _ _ e
      omega
    have hot : cp ≤ 9223372036854775807 := by
      obtain ⟨_, _, e, _, h, _⟩ := own_slice0 ho
      injection e with _ _ e
      omega
    have HRI := Lib.hid (keysD_all (l.take j)).1
    clear ho hst hk H HO0
    by_cases hlt : j < l.length
    · obtain ⟨d, hd⟩ : ∃ d, l[j]? = some d := ⟨_, List.getElem?_eq_getElem hlt⟩
      have HST := Lib.hid (keysD_take l j d hd)
      obtain ⟨b0, off, rfl, hb, g0, g1, g2⟩ := (HD.out.call HS.out.below).cell j d hd
      have i1 : (j : Int) < (l.length : Int) := by omega
      have i2 : (j : Int) < (cap : Int) := by omega
      have HSE := Lib.hid (show Sees wr wr.heap.size 1 (some ⟨g, 0, none⟩) (keysD (l.take j)).length (flat (fun k => [Value.int .i64 k]) (keysD (l.take j))) from by rw [← ints_flat]; exact Sees.own HO.out)
      clear hd
      generalize keysD (l.take j) = out at *
      have hle := ltN_le out d.2.1
      go_wp2_with fail
      go_loopw [6, 7, 8] (fun a t k wx => ∃ n : Nat, n ≤ out.length ∧ k = .int .i64 (n : Int) ∧ a = .int .i64 ((min n (ltN out d.2.1) : Nat) : Int) ∧ t = .bool (decide (d.2.1 ∈ out.take n)) ∧ wx = wr) (fun _ _ k _ => out.length - (intOf k).toNat)
      case atStart => exact ⟨0, by omega, rfl, by simp, by simp, rfl⟩
      case round =>
        obtain ⟨n, hn, rfl, rfl, rfl, e⟩ := hrel
        subst e
        by_cases hnl : n < out.length
        · obtain ⟨x, hx⟩ : ∃ x, out[n]? = some x := ⟨_, List.getElem?_eq_getElem hnl⟩
          obtain ⟨bb, oo, hA, -, hcc⟩ := HSE.out.item (fun _ => rfl) (by omega) n x hx
          injection hA with hA
          injection hA with e1 e2
          subst e1 e2
          have q0 := hcc 0 _ rfl
          rw [Nat.add_zero, Nat.mul_one, Nat.zero_add] at q0
          have hlt3 := lt_ltN HRI.out d.2.1 n x hx
          have hstep : decide (d.2.1 ∈ out.take (n + 1)) = (decide (d.2.1 ∈ out.take n) || (x == d.2.1)) := by
            rw [List.take_add_one, hx]
            simp only [Option.toList, List.mem_append, List.mem_singleton]
            by_cases h1 : d.2.1 ∈ out.take n <;> by_cases h2 : d.2.1 = x
            · simp [h1]
            · simp [h1]
            · subst h2; simp
            · simp [h1, h2, Ne.symm h2]
          have HSTEP := Lib.hid hstep
          have i3 : (n : Int) < (out.length : Int) := by omega
          have i4 : (n : Int) < (cp : Int) := by omega
          clear hcc hx hstep
          by_cases hxa : x < d.2.1
          · have hmin : min (n + 1) (ltN out d.2.1) = n + 1 := by have := hlt3.1 hxa; omega
            have HMIN := Lib.hid hmin
            have j1 : (x == d.2.1) = false := by simp; omega
            rw [j1, Bool.or_false] at HSTEP
            clear hmin hlt3
            generalize decide (d.2.1 ∈ out.take n) = t at *
            cases t
            all_goals
              go_wp2_with fail
              go_roundw
              case rel => exact ⟨n + 1, by omega, by go_num, by rw [HMIN.out]; go_num, by rw [HSTEP.out], by first | rfl | trivial⟩
              case measure => simp [intOf]; omega
          · have hmin : min (n + 1) (ltN out d.2.1) = min n (ltN out d.2.1) := by
              have : ¬ n < ltN out d.2.1 := fun h => hxa (hlt3.2 h)
              omega
            have HMIN := Lib.hid hmin
            clear hmin hlt3
            generalize decide (d.2.1 ∈ out.take n) = t at *
            cases t
            · cases hxe : x == d.2.1
              · rw [hxe] at HSTEP
                go_wp2_with fail
                go_roundw
                case rel => exact ⟨n + 1, by omega, by go_num, by rw [HMIN.out], by rw [HSTEP.out]; simp, by first | rfl | trivial⟩
                case measure => simp [intOf]; omega
              · rw [hxe] at HSTEP
                go_wp2_with fail
                go_roundw
                case rel => exact ⟨n + 1, by omega, by go_num, by rw [HMIN.out], by rw [HSTEP.out]; simp, by first | rfl | trivial⟩
                case measure => simp [intOf]; omega
            · go_wp2_with fail
              go_roundw
              case rel => exact ⟨n + 1, by omega, by go_num, by rw [HMIN.out], by rw [HSTEP.out]; simp, by first | rfl | trivial⟩
              case measure => simp [intOf]; omega
        · obtain rfl : n = out.length := by omega
          rw [List.take_length, Nat.min_eq_right hle]
          by_cases hin : d.2.1 ∈ out
          · have HIN : Hid (keysD (l.take (j + 1)) = out) := Lib.hid (by rw [HST.out]; unfold ins; rw [if_pos hin])
            have j1 : decide (d.2.1 ∈ out) = true := by simpa using hin
            rw [j1]
            clear j1 hin HST
            go_wp2_with fail
            go_roundw
            case rel => exact ⟨j + 1, g, cp, by omega, by go_num, by rw [HIN.out], by rw [HIN.out]; exact HO.out, HS.out⟩
            case measure => simp [intOf]; omega
          · have HIN : Hid (keysD (l.take (j + 1)) = out.take (ltN out d.2.1) ++ [d.2.1] ++ out.drop (ltN out d.2.1)) := Lib.hid (by rw [HST.out]; unfold ins; rw [if_neg hin])
            have j1 : decide (d.2.1 ∈ out) = false := by simpa using hin
            rw [j1]
            clear j1 hin HST
            have hsl := HSE.out.part (ltN out d.2.1) out.length cp hle (Nat.le_refl _) hoc
            have hsf := HSE.out.first (k := ltN out d.2.1) hle
            rw [← ints_flat, Nat.mul_one] at hsl
            rw [← ints_flat, Nat.mul_one] at hsf
            have et : (ints out).take (ltN out d.2.1) = ints (out.take (ltN out d.2.1)) := by unfold ints; rw [List.map_take]
            have ed : ((ints out).drop (ltN out d.2.1)).take ((out.length - ltN out d.2.1) * 1) = ints (out.drop (ltN out d.2.1)) := by
              unfold ints
              rw [List.map_drop]
              exact List.take_of_length_le (by simp)
            rw [ed] at hsl
            rw [et] at hsf
            have htl : (out.take (ltN out d.2.1)).length = ltN out d.2.1 := by rw [List.length_take]; omega
            have hdl : (out.drop (ltN out d.2.1)).length = out.length - ltN out d.2.1 := by rw [List.length_drop]
            have HSF := Lib.hid hsf
            have HSL := Lib.hid hsl
            have HTL := Lib.hid htl
            have HDL := Lib.hid hdl
            clear hsf hsl et ed htl hdl
            generalize hat : ltN out d.2.1 = at_ at *
            have HAT := Lib.hid hat
            clear hat
            generalize out.take at_ = tk at *
            generalize out.drop at_ = dr at *
            have i5 : (at_ : Int) ≤ (out.length : Int) := by omega
            have i6 : (at_ : Int) ≤ (cp : Int) := by omega
            have i7 : (out.length : Int) ≤ (cp : Int) := by omega
            have HSL9 : Hid (Sees wr wr.heap.size 1 (sq cp at_ g) (out.length - at_) (ints dr)) := Lib.hid (by unfold sq; simpa using HSL.out)
            go_wp2_with fail
            refine Iv.region (fun f aa y => ∃ p0 v1 p8 v2 v3, aa = ⟨#[aggM (some { block := b0, off := off }) l.length cap c m, Value.pointer (some { block := w.heap.size, off := 0 }), Value.slice none 0 0, so (f 12) (v3) (Value.slice (some { block := g, off := 0 }) out.length cp), Value.int IntKind.i64 ↑j, Value.int IntKind.i64 d.snd.fst, Value.int IntKind.i64 ↑at_, Value.bool false, Value.int IntKind.i64 ↑out.length, Value.slice (some { block := w.heap.size + 1, off := 0 }) 0 0, Value.int IntKind.i64 ↑j, Value.pointer (some { block := w.heap.size, off := 0 }), Value.slice (some { block := b0, off := off }) l.length cap, Value.int IntKind.i64 ↑l.length, Value.bool true, u15, u16, Value.pointer (some { block := w.heap.size, off := 0 }), Value.slice (some { block := b0, off := off }) l.length cap, Value.int IntKind.i64 ↑j, Value.pointer (some { block := b0, off := off + j * 3 }), Value.pointer (some { block := b0, off := off + j * 3 + 1 }), Value.pointer (some { block := b0, off := off + j * 3 + 1 }), Value.int IntKind.i64 d.snd.fst, Value.int IntKind.i64 ↑out.length, Value.slice (some { block := g, off := 0 }) out.length cp, Value.int IntKind.i64 ↑out.length, Value.bool false, u28, u29, u30, u31, u32, u33, u34, u35, u36, u37, u38, u39, u40, u41, u42, u43, u44, u45, u46, Value.bool false, Value.bool true, so (f 0) (.slice (some ⟨p0, 0, none⟩) 0 0) (u49), so (f 1) (.slice (some ⟨g, 0, none⟩) out.length cp) (u50), so (f 2) (.int .i64 (at_ : Int)) (u51), so (f 3) (.slice (some ⟨g, 0, none⟩) at_ cp) (u52), so (f 4) (v1) (u53), so (f 5) (.int .i64 d.2.1) (u54), so (f 6) (.slice (some ⟨p8, 0, none⟩) 1 1) (u55), so (f 7) (v2) (u56), so (f 8) (.slice (some ⟨g, 0, none⟩) out.length cp) (u57), so (f 9) (.int .i64 (at_ : Int)) (u58), so (f 10) (.slice (sq cp at_ g) (out.length - at_) (cp - at_)) (u59), so (f 11) (v3) (u60), undef], []⟩ ∧ Ag wr y [(w.heap.size, 27, #[.slice (some ⟨b0, off, none⟩) l.length cap, .int .i64 c, .int .i64 m])] wr.heap.size p0 p8 v1 v2 v3 tk dr d.2.1 (f 0) (f 4) (f 6) (f 7) (f 11) ∧ (f 12 = true → f 11 = true ∧ f 1 = true ∧ f 8 = true ∧ f 10 = true)) (by kernel_rfl) (by kernel_rfl) ?_ ?_ ?_
            · exact ⟨0, undef, 0, undef, undef, rfl, ⟨Ag.start (⟨drew_below wr 1, HS.out.knows.drewN 1⟩) rfl 0 0 undef undef undef tk dr d.2.1, fun h => by cases h⟩⟩
            · refine ⟨?_, ?_, ?_, ?_, ?_, ?_, ?_, ?_, ?_, ?_, ?_, ?_, ?_, trivial⟩
              · rintro f a0 y Q' ⟨p0, v1, p8, v2, v3, rfl, hw⟩ hi hd hQ
                replace hQ := Lib.hid hQ
                simp [Iv.depsB, Region.binds] at hd
                try simp only [hi, hd, sl_true, sl_false, so_true, so_false]
                try simp only [hi, sl_true, sl_false, so_true, so_false]
                have hw2 := hw
                rw [hi] at hw2
                go_wp2_with fail
                refine hQ.out _ _ ⟨y.heap.size, v1, p8, v2, v3, ?_, ?_⟩
                · simp [Iv.upd, hi, hd, sl_true, sl_false, so_true, so_false]
                · simpa [Iv.upd, hi, hd] using (show _ ∧ _ from ⟨hw2.1.made, hw2.2⟩)
              · rintro f a0 y Q' ⟨p0, v1, p8, v2, v3, rfl, hw⟩ hi hd hQ
                replace hQ := Lib.hid hQ
                simp [Iv.depsB, Region.binds] at hd
                try simp only [hi, hd, sl_true, sl_false, so_true, so_false]
                try simp only [hi, sl_true, sl_false, so_true, so_false]
                have e12 : f 12 = false := by
                  cases e : f 12 with
                  | false => rfl
                  | true => have h1 := hw.2 e; simp [hi] at h1
                try simp only [e12, so_true, so_false]
                go_wp2_with fail
                refine hQ.out _ _ ⟨p0, v1, p8, v2, v3, ?_, ?_⟩
                · simp [Iv.upd, hi, hd, sl_true, sl_false, so_true, so_false, e12]
                · simpa [Iv.upd, hi, hd, e12] using hw
              · rintro f a0 y Q' ⟨p0, v1, p8, v2, v3, rfl, hw⟩ hi hd hQ
                replace hQ := Lib.hid hQ
                simp [Iv.depsB, Region.binds] at hd
                try simp only [hi, hd, sl_true, sl_false, so_true, so_false]
                try simp only [hi, sl_true, sl_false, so_true, so_false]
                go_wp2_with fail
                refine hQ.out _ _ ⟨p0, v1, p8, v2, v3, ?_, ?_⟩
                · simp [Iv.upd, hi, hd, sl_true, sl_false, so_true, so_false]
                · simpa [Iv.upd, hi, hd] using hw
              · rintro f a0 y Q' ⟨p0, v1, p8, v2, v3, rfl, hw⟩ hi hd hQ
                replace hQ := Lib.hid hQ
                simp [Iv.depsB, Region.binds] at hd
                try simp only [hi, hd, sl_true, sl_false, so_true, so_false]
                try simp only [hi, sl_true, sl_false, so_true, so_false]
                go_wp2_with fail
                refine hQ.out _ _ ⟨p0, v1, p8, v2, v3, ?_, ?_⟩
                · simp [Iv.upd, hi, hd, sl_true, sl_false, so_true, so_false]
                · simpa [Iv.upd, hi, hd] using hw
              · rintro f a0 y Q' ⟨p0, v1, p8, v2, v3, rfl, hw⟩ hi hd hQ
                replace hQ := Lib.hid hQ
                simp [Iv.depsB, Region.binds] at hd
                try simp only [hi, hd, sl_true, sl_false, so_true, so_false]
                try simp only [hi, sl_true, sl_false, so_true, so_false]
                have ea : f 0 = true := by simp [hd]
                have eb : f 3 = true := by simp [hd]
                have hw2 := hw
                rw [hi, ea] at hw2
                have HW2 := Lib.hid hw2
                clear hw2
                have HW2B : Below wr.heap.size wr y := HW2.out.1.st.below
                try simp only [ea, eb, so_true, so_false]
                refine wpList_appG rfl (.tmp 49) (.tmp 52) _ 3 _ 1 8 rfl info_int Try.underlying80 rfl (by decide) wr.heap.size _ 0 ([]) rfl (HW2.out.1.own0 rfl rfl) wr.heap.size _ at_ cp (ints tk) rfl (HSF.out.below HW2B) (fun h => by cases h) (ints_one tk) (by have := HTL.out; omega) (by have := HTL.out; omega) HW2.out.1.low.2.1 ?_
                intro vn yn ho hg
                try rw [Nat.zero_add] at ho
                try rw [List.nil_append] at ho
                rw [← HTL.out] at ho
                go_wp2_with fail
                refine hQ.out _ _ ⟨p0, vn, p8, v2, v3, ?_, ?_⟩
                · simp [Iv.upd, hi, hd, sl_true, sl_false, so_true, so_false, ea, eb]
                · simpa [Iv.upd, hi, hd, ea, eb] using (show _ ∧ _ from ⟨HW2.out.1.app1 ho hg, HW2.out.2⟩)
              · rintro f a0 y Q' ⟨p0, v1, p8, v2, v3, rfl, hw⟩ hi hd hQ
                replace hQ := Lib.hid hQ
                simp [Iv.depsB, Region.binds] at hd
                try simp only [hi, hd, sl_true, sl_false, so_true, so_false]
                try simp only [hi, sl_true, sl_false, so_true, so_false]
                go_wp2_with fail
                refine hQ.out _ _ ⟨p0, v1, p8, v2, v3, ?_, ?_⟩
                · simp [Iv.upd, hi, hd, sl_true, sl_false, so_true, so_false]
                · simpa [Iv.upd, hi, hd] using hw
              · rintro f a0 y Q' ⟨p0, v1, p8, v2, v3, rfl, hw⟩ hi hd hQ
                replace hQ := Lib.hid hQ
                simp [Iv.depsB, Region.binds] at hd
                try simp only [hi, hd, sl_true, sl_false, so_true, so_false]
                try simp only [hi, sl_true, sl_false, so_true, so_false]
                have hw2 := hw
                rw [hi] at hw2
                go_wp2_with fail
                refine hQ.out _ _ ⟨p0, v1, y.heap.size, v2, v3, ?_, ?_⟩
                · simp [Iv.upd, hi, hd, sl_true, sl_false, so_true, so_false]
                · simpa [Iv.upd, hi, hd] using (show _ ∧ _ from ⟨hw2.1.item8, hw2.2⟩)
              · rintro f a0 y Q' ⟨p0, v1, p8, v2, v3, rfl, hw⟩ hi hd hQ
                replace hQ := Lib.hid hQ
                simp [Iv.depsB, Region.binds] at hd
                try simp only [hi, hd, sl_true, sl_false, so_true, so_false]
                try simp only [hi, sl_true, sl_false, so_true, so_false]
                have ea : f 4 = true := by simp [hd]
                have eb : f 6 = true := by simp [hd]
                have hw2 := hw
                rw [hi, ea, eb] at hw2
                have HW2 := Lib.hid hw2
                clear hw2
                try simp only [ea, eb, so_true, so_false]
                refine wpList_appG rfl (.tmp 53) (.tmp 55) _ 3 _ 1 8 rfl info_int Try.underlying80 rfl (by decide) wr.heap.size _ tk.length (ints tk) rfl (HW2.out.1.own1 rfl rfl) (p8 + 1) (some ⟨p8, 0, none⟩) 1 1 (ints [d.2.1]) rfl HW2.out.1.sees (fun h => by cases h) (ints_one [d.2.1]) (by have := HTL.out; omega) (by have := HTL.out; omega) HW2.out.1.low.2.1 ?_
                intro vn yn ho hg
                rw [← ints_append] at ho
                go_wp2_with fail
                refine hQ.out _ _ ⟨p0, v1, p8, vn, v3, ?_, ?_⟩
                · simp [Iv.upd, hi, hd, sl_true, sl_false, so_true, so_false, ea, eb]
                · simpa [Iv.upd, hi, hd, ea, eb] using (show _ ∧ _ from ⟨HW2.out.1.app2 ho hg, HW2.out.2⟩)
              · rintro f a0 y Q' ⟨p0, v1, p8, v2, v3, rfl, hw⟩ hi hd hQ
                replace hQ := Lib.hid hQ
                simp [Iv.depsB, Region.binds] at hd
                try simp only [hi, hd, sl_true, sl_false, so_true, so_false]
                try simp only [hi, sl_true, sl_false, so_true, so_false]
                have e12 : f 12 = false := by
                  cases e : f 12 with
                  | false => rfl
                  | true => have h1 := hw.2 e; simp [hi] at h1
                try simp only [e12, so_true, so_false]
                go_wp2_with fail
                refine hQ.out _ _ ⟨p0, v1, p8, v2, v3, ?_, ?_⟩
                · simp [Iv.upd, hi, hd, sl_true, sl_false, so_true, so_false, e12]
                · simpa [Iv.upd, hi, hd, e12] using hw
              · rintro f a0 y Q' ⟨p0, v1, p8, v2, v3, rfl, hw⟩ hi hd hQ
                replace hQ := Lib.hid hQ
                simp [Iv.depsB, Region.binds] at hd
                try simp only [hi, hd, sl_true, sl_false, so_true, so_false]
                try simp only [hi, sl_true, sl_false, so_true, so_false]
                go_wp2_with fail
                refine hQ.out _ _ ⟨p0, v1, p8, v2, v3, ?_, ?_⟩
                · simp [Iv.upd, hi, hd, sl_true, sl_false, so_true, so_false]
                · simpa [Iv.upd, hi, hd] using hw
              · rintro f a0 y Q' ⟨p0, v1, p8, v2, v3, rfl, hw⟩ hi hd hQ
                replace hQ := Lib.hid hQ
                simp [Iv.depsB, Region.binds] at hd
                try simp only [hi, hd, sl_true, sl_false, so_true, so_false]
                try simp only [hi, sl_true, sl_false, so_true, so_false]
                have e12 : f 12 = false := by
                  cases e : f 12 with
                  | false => rfl
                  | true => have h1 := hw.2 e; simp [hi] at h1
                try simp only [e12, so_true, so_false]
                go_wp2_with fail
                all_goals
                  refine hQ.out _ _ ⟨p0, v1, p8, v2, v3, ?_, ?_⟩
                  · simp [Iv.upd, hi, hd, sl_true, sl_false, so_true, so_false, e12, sq, *]
                  · simpa [Iv.upd, hi, hd, e12] using hw
              · rintro f a0 y Q' ⟨p0, v1, p8, v2, v3, rfl, hw⟩ hi hd hQ
                replace hQ := Lib.hid hQ
                simp [Iv.depsB, Region.binds] at hd
                try simp only [hi, hd, sl_true, sl_false, so_true, so_false]
                try simp only [hi, sl_true, sl_false, so_true, so_false]
                have e9 : f 12 = false := by
                  cases e : f 12 with
                  | false => rfl
                  | true => have h1 := hw.2 e; simp [hi] at h1
                have ea : f 7 = true := by simp [hd]
                have eb : f 10 = true := by simp [hd]
                have hw2 := hw
                rw [hi, ea] at hw2
                have HW2 := Lib.hid hw2
                clear hw2
                have HW2B : Below wr.heap.size wr y := HW2.out.1.st.below
                try simp only [ea, eb, e9, so_true, so_false]
                refine wpList_appG rfl (.tmp 56) (.tmp 59) _ 3 _ 1 8 rfl info_int Try.underlying80 rfl (by decide) wr.heap.size _ (tk.length + 1) (ints (tk ++ [d.2.1])) rfl (HW2.out.1.own2 rfl rfl) wr.heap.size _ (out.length - at_) (cp - at_) (ints dr) rfl (HSL9.out.below HW2B) (fun h => absurd h (sq_none _ _ _)) (ints_one dr) (by have := HTL.out; have := HDL.out; omega) (by have := HTL.out; have := HDL.out; omega) HW2.out.1.low.2.1 ?_
                intro vn yn ho hg
                rw [← ints_append] at ho
                rw [← HDL.out] at ho
                go_wp2_with fail
                refine hQ.out _ _ ⟨p0, v1, p8, v2, vn, ?_, ?_⟩
                · simp [Iv.upd, hi, hd, sl_true, sl_false, so_true, so_false, ea, eb, e9]
                · simpa [Iv.upd, hi, hd, ea, eb, e9] using HW2.out.1.app3 ho hg
              · rintro f a0 y Q' ⟨p0, v1, p8, v2, v3, rfl, hw⟩ hi hd hQ
                replace hQ := Lib.hid hQ
                simp [Iv.depsB, Region.binds] at hd
                try simp only [hi, hd, sl_true, sl_false, so_true, so_false]
                try simp only [hi, sl_true, sl_false, so_true, so_false]
                have ea : f 11 = true := by simp [hd]
                have eb : f 1 = true := by simp [hd]
                have ec : f 8 = true := by simp [hd]
                have ed : f 10 = true := by simp [hd]
                try simp only [ea, so_true, so_false]
                go_wp2_with fail
                refine hQ.out _ _ ⟨p0, v1, p8, v2, v3, ?_, ?_⟩
                · simp [Iv.upd, hi, hd, sl_true, sl_false, so_true, so_false, ea, eb, ec, ed]
                · simpa [Iv.upd, hi, hd, ea, eb, ec, ed] using hw.1
            · rintro f a0 y ⟨p0, v1, p8, v2, v3, rfl, hw⟩ hall
              simp only [hall 0 (by decide), hall 1 (by decide), hall 2 (by decide), hall 3 (by decide), hall 4 (by decide), hall 5 (by decide), hall 6 (by decide), hall 7 (by decide), hall 8 (by decide), hall 9 (by decide), hall 10 (by decide), hall 11 (by decide), hall 12 (by decide), sl_true, ↓reduceIte, so_true, so_false] at hw ⊢
              clear hall
              have HO3 := Lib.hid (hw.1.own3 rfl)
              have HS3 : Hid (St w y [(w.heap.size, 27, #[.slice (some ⟨b0, off, none⟩) l.length cap, .int .i64 c, .int .i64 m])]) := Lib.hid ⟨HS.out.below.trans (hw.1.st.below.mono HS.out.below.size), hw.1.st.knows⟩
              have hwl := HS.out.below.size
              have hz9 := hw.1.low
              clear hw
              obtain ⟨A3, c3, rfl, -, -, h3⟩ := own_slice0 HO3.out
              have hlen3 : tk.length + 1 + dr.length = (keysD (l.take (j + 1))).length := by rw [HIN.out]; simp; omega
              rw [hlen3] at HO3
              rw [hlen3]
              rcases A3 with _ | ⟨g3, off3, sp3⟩
              · exfalso
                rcases HO3.out.2 with ⟨h, -⟩ | ⟨g', c', cur, h, -⟩
                · have := h3 rfl
                  rw [HIN.out] at h
                  simp at h
                · simp at h
              have hat3 : off3 = 0 ∧ sp3 = none := by
                rcases HO3.out.2 with ⟨h, -⟩ | ⟨g', c', cur, h, -⟩
                · simp at h
                · simp only [Value.slice.injEq, Option.some.injEq, Addr.mk.injEq] at h
                  exact ⟨h.1.2.1, h.1.2.2⟩
              obtain ⟨rfl, rfl⟩ := hat3
              rw [← HIN.out] at HO3
              have HO4 := Lib.hid (ow_less HO3.out (show w.heap.size + 1 ≤ wr.heap.size by have := cz; omega))
              go_wp2_with fail
              go_roundw
              case rel => exact ⟨j + 1, g3, c3, by omega, by go_num, rfl, HO4.out, HS3.out⟩
              case measure => simp [intOf]; omega
    · obtain rfl : j = l.length := by omega
      rw [List.take_length] at HO ⊢
      go_wp2_with fail
      go_ret
      exact ⟨_, cp, rfl, HS.out.below, ow_less HO.out (by omega)⟩
end Go.Proofs.Ytcpcepbjdohdmaa
