/- Contracts of Same, bytes, loads, sealed. -/
import Derived.Test.YtlfigbgcackimaaFrP
namespace Go.Proofs.Ytlfigbgcackimaa
open Go.RowKit Go.Fm
set_option linter.unusedVariables false
set_option linter.unusedSimpArgs false
set_option maxRecDepth 100000

/-- The slice (A, n) of slices shows these lists of bytes. -/
def ShowsL (w : World) (B : Nat) (A : Option Addr) (ls : List (List UInt8)) : Prop :=
  0 < ls.length → ∃ b off, A = some ⟨b, off, none⟩ ∧ b < B ∧ ∀ (k : Nat) (l : List UInt8), ls[k]? = some l → ∃ a c, w.cell? ⟨b, off + k, none⟩ = some (.slice a l.length c) ∧ l.length ≤ c ∧ c ≤ 9223372036854775807 ∧ Sees w B 1 a l.length (Lib.byteCells l)
theorem ShowsL.keep {w w' : World} {B : Nat} {A : Option Addr} {ls : List (List UInt8)} (h : ShowsL w B A ls) (hk : ∀ p : Addr, p.block < B → w'.cell? p = w.cell? p) : ShowsL w' B A ls := by
  intro h0
  obtain ⟨b, off, hA, hb, hc⟩ := h h0
  refine ⟨b, off, hA, hb, fun k l hl => ?_⟩
  obtain ⟨a, c, h1, h2, h3, h4⟩ := hc k l hl
  exact ⟨a, c, (hk ⟨b, off + k, none⟩ hb).trans h1, h2, h3, h4.keep hk⟩
theorem ShowsL.below {w w' : World} {B : Nat} {A : Option Addr} {ls : List (List UInt8)} (h : ShowsL w B A ls) (k : Below B w w') : ShowsL w' B A ls := h.keep fun _ hp => k.cell hp
theorem ShowsL.more {w : World} {B B' : Nat} {A : Option Addr} {ls : List (List UInt8)} (h : ShowsL w B A ls) (hB : B ≤ B') : ShowsL w B' A ls := by
  intro h0
  obtain ⟨b, off, hA, hb, hc⟩ := h h0
  refine ⟨b, off, hA, by omega, fun k l hl => ?_⟩
  obtain ⟨a, c, h1, h2, h3, h4⟩ := hc k l hl
  exact ⟨a, c, h1, h2, h3, h4.more hB⟩

theorem same_len (A A' : Option Addr) (n m c c' : Nat) (h : n ≠ m) (w : World) :
    Calls Try.prog 27 #[.slice A n c, .slice A' m c'] w fun e w' => e = .returned (.bool false) ∧ Below w.heap.size w w' := by
  have h1 : ((n : Int) != (m : Int)) = true := by simpa using (by omega : ¬ (n : Int) = m)
  go_enter Try.func27, Try.ntmps27
  go_wp2_with fail
  go_ret
  exact ⟨rfl, Below.refl _ _⟩

theorem take_more (ls ms : List (List UInt8)) (k : Nat) (l m : List UInt8) (hl : ls[k]? = some l) (hm : ms[k]? = some m) (h : ls.take k = ms.take k) (e : l = m) : ls.take (k + 1) = ms.take (k + 1) := by
  have a := List.getElem?_eq_some_iff.1 hl
  have b := List.getElem?_eq_some_iff.1 hm
  rw [List.take_succ_eq_append_getElem a.1, List.take_succ_eq_append_getElem b.1, a.2, b.2, h, e]

theorem same_eq (B B' : Nat) (A A' : Option Addr) (c c' : Nat) (ls ms : List (List UInt8)) (w : World) (hl : ls.length = ms.length) (hm : ls.length ≤ 9223372036854775807)
    (hs : ShowsL w B A ls) (hs' : Sees w B' 1 A' ms.length (strs ms)) (hB : B ≤ w.heap.size) (hB' : B' ≤ w.heap.size) :
    Calls Try.prog 27 #[.slice A ls.length c, .slice A' ms.length c'] w fun e w' => e = .returned (.bool (decide (ls = ms))) ∧ Below w.heap.size w w' := by
  have HS := Lib.hid hs
  have HS' := Lib.hid hs'
  have HL := Lib.hid hl
  have hne : ((ls.length : Int) != (ms.length : Int)) = false := by simpa using (by omega : (ls.length : Int) = (ms.length : Int))
  have hle : ls.length ≤ ms.length := by omega
  have hge : ms.length ≤ ls.length := by omega
  clear hs hs' hl
  go_enter Try.func27, Try.ntmps27
  go_wp2_with fail
  go_loopw [5] (fun i wr => ∃ k : Nat, k ≤ ls.length ∧ i = .int .i64 (k : Int) ∧ Below w.heap.size w wr ∧ ls.take k = ms.take k) (fun i _ => ls.length - (intOf i).toNat)
  case atStart => exact ⟨0, by omega, rfl, Below.refl _ _, rfl⟩
  case round =>
    obtain ⟨k, hk, rfl, hbel, hsm⟩ := hrel
    have HB := Lib.hid hbel
    have HM := Lib.hid hsm
    clear hsm
    by_cases hlt : k < ls.length
    · obtain ⟨l, hl⟩ : ∃ l, ls[k]? = some l := ⟨_, List.getElem?_eq_getElem hlt⟩
      obtain ⟨m, hm'⟩ : ∃ m, ms[k]? = some m := ⟨_, List.getElem?_eq_getElem (by omega)⟩
      obtain ⟨b0, off, rfl, hb, hc0⟩ := (HS.out.below (hbel.mono hB)) (by omega)
      obtain ⟨a1, c1, g0, hc1, hc2, hsee⟩ := hc0 k l hl
      obtain ⟨b0', off', rfl, hb', hc0'⟩ := (HS'.out.below (hbel.mono hB')).2 (by omega)
      have g1 := hc0' k _ (strs_at ms k m hm')
      have hcv := fun n => conv_bytes l a1 c1 B (wr.drewN n) (hsee.drewN n)
      have HL1 := Lib.hid hl
      have HM1 := Lib.hid hm'
      have hkl : (k : Int) < (ls.length : Int) := by omega
      have hkm : (k : Int) < (ms.length : Int) := by omega
      have hst : (l == (txt m).toList) = decide (l = m) := by rw [ByteArray.toList_eq, txt_list]; rw [Bool.eq_iff_iff, beq_iff_eq, decide_eq_true_eq]
      clear hc0 hc0' hsee hl hm' hbel
      by_cases hlm : l = m
      · have hq : decide (l = m) = true := by rw [decide_eq_true_eq]; exact hlm
        rw [hq] at hst
        have HT := Lib.hid (take_more ls ms k l m HL1.out HM1.out HM.out hlm)
        clear hlm hq
        go_wp2_with fail
        go_quiet (fail)
        go_wp2_with fail
        go_roundw
        case rel => exact ⟨k + 1, by omega, by go_num, HB.out.trans ((drew_below _ _).mono HB.out.size), HT.out⟩
        case measure => simp [intOf]; omega
      · have hq : decide (l = m) = false := by rw [decide_eq_false_iff_not]; exact hlm
        rw [hq] at hst
        have HT : Hid (decide (ls = ms) = false) := Lib.hid (by
          rw [decide_eq_false_iff_not]
          intro h
          rw [h] at HL1
          have := HL1.out.symm.trans HM1.out
          injection this with this
          exact hlm this)
        clear hlm hq
        go_wp2_with fail
        go_quiet (fail)
        go_wp2_with fail
        go_ret
        exact ⟨by rw [HT.out]; rfl, HB.out.trans ((drew_below _ _).mono HB.out.size)⟩
    · have hkl : k = ls.length := by omega
      have HT : Hid (decide (ls = ms) = true) := by
        have := HM.out
        rw [hkl, List.take_length, HL.out, List.take_length] at this
        exact Lib.hid (by rw [decide_eq_true_eq]; exact this)
      go_wp2_with fail
      go_ret
      exact ⟨by rw [HT.out]; rfl, HB.out⟩

theorem same_any (B B' : Nat) (A A' : Option Addr) (c c' : Nat) (ls ms : List (List UInt8)) (w : World) (hm : ls.length ≤ 9223372036854775807)
    (hs : ShowsL w B A ls) (hs' : Sees w B' 1 A' ms.length (strs ms)) (hB : B ≤ w.heap.size) (hB' : B' ≤ w.heap.size) :
    Calls Try.prog 27 #[.slice A ls.length c, .slice A' ms.length c'] w fun e w' => e = .returned (.bool (decide (ls = ms))) ∧ Below w.heap.size w w' := by
  by_cases h : ls.length = ms.length
  · exact same_eq B B' A A' c c' ls ms w h hm hs hs' hB hB'
  · rw [show decide (ls = ms) = false by rw [decide_eq_false_iff_not]; intro e; exact h (by rw [e])]
    exact same_len A A' _ _ c c' h w

/-- A text as bytes. -/
theorem text_run (l : List UInt8) (w : World) : ∃ c W', (convert 9 52 (.string (txt l))).run Try.prog w = .ok (.slice (some ⟨w.heap.size, 0, none⟩) l.length c) W' ∧ l.length ≤ c ∧ (l.length ≤ 9223372036854775807 → c ≤ 9223372036854775807) ∧
    Sees W' (w.heap.size + 1) 1 (some ⟨w.heap.size, 0, none⟩) l.length (Lib.byteCells l) ∧ Below w.heap.size w W' ∧ w.heap.size + 1 ≤ W'.heap.size := by
  have h := run_bytes_of_string w 9 52 5 (txt l) Try.underlying9 Try.underlying52 Try.underlying5
  rw [txt_size] at h
  refine ⟨_, _, h, ?_, fun hm => ?_, ?_, ?_, ?_⟩
  · have := grownCap_ge w (txt l).size 0 5
    rw [txt_size] at this; exact this
  · have := grownCap_le_maxLen w l.length 0 5 (by unfold maxLen; exact hm)
    unfold maxLen at this; exact this
  · refine ⟨by simp [Lib.byteCells], fun _ => ⟨w.heap.size, 0, rfl, by omega, fun j u hu => ?_⟩⟩
    have hj : j < (txt l).data.size := by
      have := (List.getElem?_eq_some_iff.1 hu).1
      simpa [Lib.byteCells, txt] using this
    rw [Nat.zero_add, show w.heap.size = w.drew.heap.size from rfl, World.cell?_alloc_mark, bytesRow_at (txt l) _ j hj]
    unfold Lib.byteCells at hu
    rw [List.getElem?_map, List.getElem?_eq_getElem (by simpa [txt] using hj)] at hu
    simpa [txt] using hu
  · exact ((Below.refl w.heap.size w).drew).alloc (Nat.le_refl _) _
  · show _ ≤ (w.drew.alloc _).heap.size
    simp

/-- What bytes gives. -/
def GivesB (w : World) (l : List UInt8) (e : Ending) (w' : World) : Prop :=
  ∃ g c, e = .returned (.slice (some ⟨g, 0, none⟩) l.length c) ∧ l.length ≤ c ∧ c ≤ 9223372036854775807 ∧ Sees w' w'.heap.size 1 (some ⟨g, 0, none⟩) l.length (Lib.byteCells l) ∧ Below w.heap.size w w' ∧ g < w'.heap.size

end Go.Proofs.Ytlfigbgcackimaa
