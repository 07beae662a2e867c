import Derived.Test.YtlfigbgcackimaaWalD

/- Bytes that are handed in and changed afterwards; a list of one text. -/
namespace Go.Proofs.Ytlfigbgcackimaa
open Go.RowKit Go.Fm Go.Dk Go.Wl Go.Iv
set_option linter.unusedVariables false
set_option linter.unusedSimpArgs false
set_option maxRecDepth 100000

/-- A row of bytes of our own: these, none frozen. -/
def Ours (y : World) (q : Nat) (s : List UInt8) : Prop := ∃ (cs : Array Value) (lo hi : Nat), y.heap[q]? = some (.cells cs 5 (lo, hi)) ∧ s.length ≤ lo ∧ ∀ (j : Nat) (u : Value), (Lib.byteCells s)[j]? = some u → cs[j]? = some u
theorem Ours.at {y y' : World} {q : Nat} {s : List UInt8} (h : Ours y q s) (hk : y'.heap[q]? = y.heap[q]?) : Ours y' q s := by
  obtain ⟨cs, lo, hi, h1, h2⟩ := h
  exact ⟨cs, lo, hi, hk.trans h1, h2⟩
theorem Ours.lt {y : World} {q : Nat} {s : List UInt8} (h : Ours y q s) : q < y.heap.size := by
  obtain ⟨cs, lo, hi, h1, h2⟩ := h
  exact (Array.getElem?_eq_some_iff.1 h1).1
theorem Ours.call {y y' : World} {q : Nat} {s : List UInt8} (h : Ours y q s) (hb : Below y.heap.size y y') : Ours y' q s := h.at (hb.block q h.lt)
/-- Bytes of our own, whatever they are. -/
def Any (y : World) (q m : Nat) : Prop := ∃ (cs : Array Value) (lo hi : Nat), y.heap[q]? = some (.cells cs 5 (lo, hi)) ∧ m ≤ lo ∧ ∀ i, i < m → ∃ k : Int, cs[i]? = some (.int .u8 k)
theorem Ours.any {y : World} {q : Nat} {s : List UInt8} (h : Ours y q s) : Any y q s.length := by
  obtain ⟨cs, lo, hi, h1, h2, h3⟩ := h
  refine ⟨cs, lo, hi, h1, h2, fun i hi => ⟨(s[i].toNat : Int), h3 i _ ?_⟩⟩
  unfold Lib.byteCells
  rw [List.getElem?_map, List.getElem?_eq_getElem hi]
  rfl
theorem Any.step {y : World} {q m : Nat} (h : Any y q m) {j : Nat} (hj : j < m) : ∃ k : Int, y.cell? ⟨q, j, none⟩ = some (.int .u8 k) ∧ y.frozen? ⟨q, j, none⟩ = false ∧ q < y.heap.size ∧ ∀ k' : Int, Any (y.setCell ⟨q, j, none⟩ (.int .u8 k')) q m := by
  obtain ⟨cs, lo, hi, h1, h2, h3⟩ := h
  obtain ⟨k, hk⟩ := h3 j hj
  refine ⟨k, (cell_of_row y q j cs _ _ h1).trans hk, ?_, (Array.getElem?_eq_some_iff.1 h1).1, fun k' => ⟨cs.setIfInBounds j (.int .u8 k'), lo, hi, ?_, h2, fun i hi => ?_⟩⟩
  · unfold World.frozen?
    simp only [h1]
    have : decide (lo ≤ j) = false := decide_eq_false (by omega)
    simp [this]
  · simp [World.setCell, Array.getElem?_modify, h1]
  · by_cases e : i = j
    · subst e
      exact ⟨k', Array.getElem?_setIfInBounds_self_of_lt (Array.getElem?_eq_some_iff.1 hk).1⟩
    · rw [Array.getElem?_setIfInBounds_ne (fun h => e h.symm)]
      exact h3 i hi
/-- A text as bytes, in a block that is ours. -/
theorem ours_run (l : List UInt8) (hl : l.length ≤ 9223372036854775807) (w : World) : ∃ c W', (convert 9 52 (.string (txt l))).run Try.prog w = .ok (.slice (some ⟨w.heap.size, 0, none⟩) l.length c) W' ∧
    InB W' (some ⟨w.heap.size, 0, none⟩) c l ∧ Below w.heap.size w W' ∧ Ours W' w.heap.size l := by
  obtain ⟨c, W', hr, hin, hb⟩ := text_bytes l hl w
  refine ⟨c, W', hr, hin, hb, ?_⟩
  have h := run_bytes_of_string w 9 52 5 (txt l) Try.underlying9 Try.underlying52 Try.underlying5
  rw [hr] at h
  injection h with e1 e2
  subst e2
  refine ⟨_, _, _, heap_alloc_new (w := w.drew) _, ?_, fun j u hu => ?_⟩
  · unfold bytesRow
    simp [txt]
  · have hj : j < l.length := by
      have := (List.getElem?_eq_some_iff.1 hu).1
      simpa [Lib.byteCells] using this
    rw [bytesRow_at (txt l) _ j (by simpa [txt] using hj)]
    unfold Lib.byteCells at hu
    rw [List.getElem?_map, List.getElem?_eq_getElem hj] at hu
    simpa [txt] using hu
/-- A list of one text. -/
theorem sees_str {w : World} {B : Nat} {l : List UInt8} (h : Whole w B 9 #[.string (txt l)]) : Sees w (B + 1) 1 (some ⟨B, 0, none⟩) 1 (strs [l]) := by
  refine ⟨by simp [strs], fun _ => ⟨B, 0, rfl, by omega, fun j u hu => ?_⟩⟩
  rw [Nat.zero_add, h.cell j]
  simpa [strs] using hu
end Go.Proofs.Ytlfigbgcackimaa

/- The law's fresh: the texts of an act. -/
namespace Go.Proofs.Ytlfigbgcackimaa
open Go.RowKit Go.Fm Go.Dk Go.Wl Go.Iv
set_option linter.unusedVariables false
set_option linter.unusedSimpArgs false
set_option linter.unnecessarySimpa false
set_option maxRecDepth 100000

theorem i64_and1023 (n : Int) : bits .and .i64 n 1023 = n % 1024 := by
  have h127 : (BitVec.ofInt 64 1023).toNat = 2 ^ 10 - 1 := by decide
  have key : (BitVec.ofInt 64 n &&& BitVec.ofInt 64 1023).toNat = (n % ((2 ^ 64 : Nat) : Int)).toNat % 2 ^ 10 := by
    rw [BitVec.toNat_and, BitVec.toNat_ofInt, h127, Nat.and_two_pow_sub_one_eq_mod]
  show IntKind.i64.wrap ((BitVec.ofInt 64 n &&& BitVec.ofInt 64 1023).toNat : Nat) = n % 1024
  rw [key, IntKind.wrap_i64]
  omega
/-- Where a text of an act is cut. -/
def Ac.cut (v : Ac) (k : Int) : Nat := (k % 1024).toNat % (v.s.length + 1)
def Ac.loads (v : Ac) : List (List UInt8) := v.keep.map fun k => v.s.take (v.cut k)
theorem Ac.loads_len (v : Ac) : v.loads.length = v.keep.length := List.length_map _
theorem Ac.loads_short (v : Ac) {m : Nat} (h : v.s.length ≤ m) : ∀ l ∈ v.loads, l.length ≤ m := fun l hl => by
  unfold Ac.loads at hl
  obtain ⟨k, -, rfl⟩ := List.mem_map.1 hl
  rw [List.length_take]; omega
theorem Ac.cut_le (v : Ac) (k : Int) : v.cut k ≤ v.s.length := by
  have := Nat.mod_lt (k % 1024).toNat (show 0 < v.s.length + 1 by omega)
  unfold Ac.cut; omega
theorem Ac.cut_rem (v : Ac) (k : Int) : Int.tmod (k % 1024) ((v.s.length : Int) + 1) = (v.cut k : Nat) := by
  unfold Ac.cut
  have h0 : 0 ≤ k % 1024 := Int.emod_nonneg _ (by decide)
  obtain ⟨m, hm⟩ := Int.eq_ofNat_of_zero_le h0
  rw [hm]
  show Int.tmod (m : Int) (((v.s.length + 1 : Nat)) : Int) = _
  rw [Int.ofNat_tmod]
  simp
set_option maxHeartbeats 4000000 in
theorem fresh8_any (W : World) (v : Ac) (hv : GA W v) (hs : v.s.length ≤ 1000000) (hk : v.keep.length ≤ 1000) (w : World) (hw : Below W.heap.size W w) :
    Calls Try.prog 37 #[.agg (encA v).toArray] w fun e w' => ∃ a c, e = .returned (.slice a v.keep.length c) ∧ Below w.heap.size w w' ∧ Sees w' w'.heap.size 1 a v.keep.length (strs v.loads) ∧ (a = none → c = 0) := by
  have HS := Lib.hid (hv.sees.below hw)
  have HLL := Lib.hid v.loads_len
  have HLK : Hid (∀ (k : Nat) (n : Int), v.keep[k]? = some n → v.loads[k]? = some (v.s.take (v.cut n))) := Lib.hid fun k n h => by unfold Ac.loads; rw [List.getElem?_map, h]; rfl
  have HCL := Lib.hid v.cut_le
  have HCR := Lib.hid v.cut_rem
  have hW := hw.size
  have hnil := Lib.hid hv.nil
  clear hv hw
  generalize v.loads = ls at *
  generalize v.cut = ct at *
  obtain ⟨kd, n, s, A, cap, keep⟩ := v
  simp only at HS HLL HLK HCL HCR hs hk
  have hea : (encA ⟨kd, n, s, A, cap, keep⟩).toArray = #[.int .i64 kd, .int .i64 n, .string (txt s), .slice A keep.length cap] := rfl
  rw [hea]
  show Calls _ _ _ _ fun e w' => ∃ a c, e = .returned (.slice a keep.length c) ∧ _
  have HB0 := Lib.hid ((Below.refl w.heap.size w).alloc (Nat.le_refl _) (.cells #[.int .i64 kd, .int .i64 n, .string (txt s), .slice A keep.length cap] 44))
  have HW0 := Lib.hid (Whole.fresh w 44 #[.int .i64 kd, .int .i64 n, .string (txt s), .slice A keep.length cap])
  go_enter Try.func37, Try.ntmps37
  go_wp2_with fail
  go_loopw [3, 4] (fun u i wr => ∃ (k : Nat) (a0 : Option Addr) (c0 : Nat), k ≤ keep.length ∧ i = .int .i64 (k : Int) ∧ u = .slice a0 k c0 ∧ (a0 = none → c0 = 0) ∧ wr.ownsRow (w.heap.size + 1) 9 1 (.slice a0 k c0) k (strs (ls.take k)) ∧ Below w.heap.size w wr ∧ Whole wr w.heap.size 44 #[.int .i64 kd, .int .i64 n, .string (txt s), .slice A keep.length cap]) (fun _ i _ => keep.length - (intOf i).toNat)
  case atStart =>
    exact ⟨0, some ⟨w.heap.size + 1, 0, none⟩, 0, by omega, rfl, by simp, (fun h => by cases h), by simpa [strs] using own_empty (w.alloc (.cells #[.int .i64 kd, .int .i64 n, .string (txt s), .slice A keep.length cap] 44)) 9 1, HB0.out.alloc (by simp) _, HW0.out.alloc _⟩
  case round =>
    obtain ⟨k, a0, c0, hk1, rfl, rfl, hc0, ho, hb, hwh⟩ := hrel
    have HO := Lib.hid ho
    have HB := Lib.hid hb
    have HW := Lib.hid hwh
    have b2 := hwh.cell 2
    have b3 := hwh.cell 3
    simp only [List.getElem?_toArray, List.getElem?_cons_succ, List.getElem?_cons_zero] at b2 b3
    clear ho hb hwh
    by_cases hlt : k < keep.length
    · obtain ⟨m, hm⟩ : ∃ m, keep[k]? = some m := ⟨_, List.getElem?_eq_getElem hlt⟩
      obtain ⟨b, off, rfl, hbB, hat⟩ := (HS.out.below (HB.out.mono hW)).2 (by omega)
      have g0 := hat k _ (ints_at keep k m hm)
      have hl1 := HLK.out k m hm
      have HTK : Hid (ls.take (k + 1) = ls.take k ++ [s.take (ct m)]) := Lib.hid (by rw [List.take_add_one, hl1]; rfl)
      have hkl : (k : Int) < (keep.length : Int) := by omega
      have HG : Hid (∀ z, Below w.heap.size w z → z.cell? ⟨b, off + k, none⟩ = some (.int .i64 m)) := Lib.hid fun z hz => (by
        obtain ⟨b', off', e, hb', hat'⟩ := (HS.out.below (hz.mono hW)).2 (by omega)
        injection e with e
        injection e with e1 e2
        subst e1 e2
        exact hat' k _ (ints_at keep k m hm))
      have ea := Lib.hid (i64_and1023 m)
      have er := Lib.hid (HCR.out m)
      have hct := HCL.out m
      have et := Lib.hid (txt_take s (ct m) hct)
      have hsz : (txt s).size = s.length := txt_size s
      have hzr := HB.out.size
      clear hat hm hl1
      go_wp2_with fail
      clear g0 b2 b3
      refine Iv.region (fun f aa z => ∃ q v3, aa = ⟨#[.agg #[.int .i64 kd, .int .i64 n, .string (txt s), .slice (some ⟨b, off, none⟩) keep.length cap], .pointer (some ⟨w.heap.size, 0, none⟩), .slice none 0 0, so (f 17) (v3) (.slice a0 k c0), .int .i64 (k : Int), .slice (some ⟨w.heap.size + 1, 0, none⟩) 0 0, .int .i64 (k : Int), .pointer (some ⟨w.heap.size, 3, none⟩), .slice (some ⟨b, off, none⟩) keep.length cap, .int .i64 (keep.length : Int), .bool true, u11, u12, so (f 0) (.slice a0 k c0) u13, so (f 1) (.pointer (some ⟨w.heap.size, 2, none⟩)) u14, so (f 2) (.string (txt s)) u15, so (f 3) (.pointer (some ⟨w.heap.size, 3, none⟩)) u16, so (f 4) (.slice (some ⟨b, off, none⟩) keep.length cap) u17, so (f 5) (.int .i64 (k : Int)) u18, so (f 6) (.pointer (some ⟨b, off + k, none⟩)) u19, so (f 7) (.int .i64 m) u20, so (f 8) (.int .i64 (m % 1024)) u21, so (f 9) (.pointer (some ⟨w.heap.size, 2, none⟩)) u22, so (f 10) (.string (txt s)) u23, so (f 11) (.int .i64 (s.length : Int)) u24, so (f 12) (.int .i64 ((s.length : Int) + 1)) u25, so (f 13) (.int .i64 ((ct m : Nat) : Int)) u26, so (f 14) (.string (txt (s.take (ct m)))) u27, so (f 15) (.slice (some ⟨q, 0, none⟩) 1 1) u28, so (f 16) (v3) u29, undef], []⟩ ∧ Below w.heap.size w z ∧ Whole z w.heap.size 44 #[.int .i64 kd, .int .i64 n, .string (txt s), .slice (some ⟨b, off, none⟩) keep.length cap] ∧ (f 16 = false → Below wr.heap.size wr z ∧ (f 15 = true → Whole z q 9 #[.string (txt (s.take (ct m)))] ∧ wr.heap.size ≤ q)) ∧ (f 16 = true → z.ownsRow (w.heap.size + 1) 9 1 v3 (k + 1) (strs (ls.take (k + 1)))) ∧ (f 16 = true → f 15 = true) ∧ (f 17 = true → f 0 = true ∧ f 16 = true)) (by kernel_rfl) (by kernel_rfl) ?_ ?_ ?_
      · exact ⟨0, undef, rfl, (HB.out.trans ((drew_below wr 1).mono HB.out.size)), (HW.out.below (drew_below wr 1) HW.out.lt), (fun _ => ⟨drew_below wr 1, fun h => by cases h⟩), (fun h => by cases h), (fun h => by cases h), fun h => by cases h⟩
      · refine ⟨?_, ?_, ?_, ?_, ?_, ?_, ?_, ?_, ?_, ?_, ?_, ?_, ?_, ?_, ?_, ?_, ?_, ?_, trivial⟩
        · rintro f a0 z Q' ⟨q, v3, rfl, hw⟩ hi hd hQ
          replace hQ := Lib.hid hQ
          simp [Iv.depsB, Region.binds] at hd
          try simp only [hi, hd, sl_true, sl_false, so_true, so_false]
          try simp only [hi, sl_true, sl_false, so_true, so_false]
          have h17 : f 17 = false := by
            cases e5 : f 17 with
            | false => rfl
            | true => have := (hw.2.2.2.2.2 e5).1; simp [hi] at this
          try simp only [h17, so_false, sl_false]
          have HWW := Lib.hid hw
          clear hw
          go_wp2_with fail
          refine hQ.out _ _ ⟨q, v3, ?_, ?_⟩
          · simp [Iv.upd, hi, hd, h17, sl_true, sl_false, so_true, so_false]
          · simpa [Iv.upd, hi, hd, h17] using HWW.out
        · rintro f a0 z Q' ⟨q, v3, rfl, hw⟩ hi hd hQ
          replace hQ := Lib.hid hQ
          simp [Iv.depsB, Region.binds] at hd
          try simp only [hi, hd, sl_true, sl_false, so_true, so_false]
          try simp only [hi, sl_true, sl_false, so_true, so_false]
          have HWW := Lib.hid hw
          clear hw
          go_wp2_with fail
          refine hQ.out _ _ ⟨q, v3, ?_, ?_⟩
          · simp [Iv.upd, hi, hd, sl_true, sl_false, so_true, so_false]
          · simpa [Iv.upd, hi, hd] using HWW.out
        · rintro f a0 z Q' ⟨q, v3, rfl, hw⟩ hi hd hQ
          replace hQ := Lib.hid hQ
          simp [Iv.depsB, Region.binds] at hd
          try simp only [hi, hd, sl_true, sl_false, so_true, so_false]
          try simp only [hi, sl_true, sl_false, so_true, so_false]
          have b2 := hw.2.1.cell 2
          simp only [List.getElem?_toArray, List.getElem?_cons_succ, List.getElem?_cons_zero] at b2
          have HWW := Lib.hid hw
          clear hw
          go_wp2_with fail
          refine hQ.out _ _ ⟨q, v3, ?_, ?_⟩
          · simp [Iv.upd, hi, hd, sl_true, sl_false, so_true, so_false]
          · simpa [Iv.upd, hi, hd] using HWW.out
        · rintro f a0 z Q' ⟨q, v3, rfl, hw⟩ hi hd hQ
          replace hQ := Lib.hid hQ
          simp [Iv.depsB, Region.binds] at hd
          try simp only [hi, hd, sl_true, sl_false, so_true, so_false]
          try simp only [hi, sl_true, sl_false, so_true, so_false]
          have HWW := Lib.hid hw
          clear hw
          go_wp2_with fail
          refine hQ.out _ _ ⟨q, v3, ?_, ?_⟩
          · simp [Iv.upd, hi, hd, sl_true, sl_false, so_true, so_false]
          · simpa [Iv.upd, hi, hd] using HWW.out
        · rintro f a0 z Q' ⟨q, v3, rfl, hw⟩ hi hd hQ
          replace hQ := Lib.hid hQ
          simp [Iv.depsB, Region.binds] at hd
          try simp only [hi, hd, sl_true, sl_false, so_true, so_false]
          try simp only [hi, sl_true, sl_false, so_true, so_false]
          have b3 := hw.2.1.cell 3
          simp only [List.getElem?_toArray, List.getElem?_cons_succ, List.getElem?_cons_zero] at b3
          have HWW := Lib.hid hw
          clear hw
          go_wp2_with fail
          refine hQ.out _ _ ⟨q, v3, ?_, ?_⟩
          · simp [Iv.upd, hi, hd, sl_true, sl_false, so_true, so_false]
          · simpa [Iv.upd, hi, hd] using HWW.out
        · rintro f a0 z Q' ⟨q, v3, rfl, hw⟩ hi hd hQ
          replace hQ := Lib.hid hQ
          simp [Iv.depsB, Region.binds] at hd
          try simp only [hi, hd, sl_true, sl_false, so_true, so_false]
          try simp only [hi, sl_true, sl_false, so_true, so_false]
          have HWW := Lib.hid hw
          clear hw
          go_wp2_with fail
          refine hQ.out _ _ ⟨q, v3, ?_, ?_⟩
          · simp [Iv.upd, hi, hd, sl_true, sl_false, so_true, so_false]
          · simpa [Iv.upd, hi, hd] using HWW.out
        · rintro f a0 z Q' ⟨q, v3, rfl, hw⟩ hi hd hQ
          replace hQ := Lib.hid hQ
          simp [Iv.depsB, Region.binds] at hd
          try simp only [hi, hd, sl_true, sl_false, so_true, so_false]
          try simp only [hi, sl_true, sl_false, so_true, so_false]
          have d4 : f 4 = true := by simp [hd]
          have d5 : f 5 = true := by simp [hd]
          try simp only [d4, d5, so_true, sl_true]
          have HWW := Lib.hid hw
          clear hw
          go_wp2_with fail
          refine hQ.out _ _ ⟨q, v3, ?_, ?_⟩
          · simp [Iv.upd, hi, hd, d4, d5, sl_true, sl_false, so_true, so_false]
          · simpa [Iv.upd, hi, hd, d4, d5] using HWW.out
        · rintro f a0 z Q' ⟨q, v3, rfl, hw⟩ hi hd hQ
          replace hQ := Lib.hid hQ
          simp [Iv.depsB, Region.binds] at hd
          try simp only [hi, hd, sl_true, sl_false, so_true, so_false]
          try simp only [hi, sl_true, sl_false, so_true, so_false]
          have g0 := HG.out z hw.1
          have d6 : f 6 = true := by simp [hd]
          try simp only [d6, so_true, sl_true]
          have HWW := Lib.hid hw
          clear hw
          go_wp2_with fail
          refine hQ.out _ _ ⟨q, v3, ?_, ?_⟩
          · simp [Iv.upd, hi, hd, d6, sl_true, sl_false, so_true, so_false]
          · simpa [Iv.upd, hi, hd, d6] using HWW.out
        · rintro f a0 z Q' ⟨q, v3, rfl, hw⟩ hi hd hQ
          replace hQ := Lib.hid hQ
          simp [Iv.depsB, Region.binds] at hd
          try simp only [hi, hd, sl_true, sl_false, so_true, so_false]
          try simp only [hi, sl_true, sl_false, so_true, so_false]
          have d7 : f 7 = true := by simp [hd]
          try simp only [d7, so_true, sl_true]
          have e1 := ea.out
          have HWW := Lib.hid hw
          clear hw
          go_wp2_with fail
          refine hQ.out _ _ ⟨q, v3, ?_, ?_⟩
          · simp [Iv.upd, hi, hd, d7, sl_true, sl_false, so_true, so_false]
          · simpa [Iv.upd, hi, hd, d7] using HWW.out
        · rintro f a0 z Q' ⟨q, v3, rfl, hw⟩ hi hd hQ
          replace hQ := Lib.hid hQ
          simp [Iv.depsB, Region.binds] at hd
          try simp only [hi, hd, sl_true, sl_false, so_true, so_false]
          try simp only [hi, sl_true, sl_false, so_true, so_false]
          have HWW := Lib.hid hw
          clear hw
          go_wp2_with fail
          refine hQ.out _ _ ⟨q, v3, ?_, ?_⟩
          · simp [Iv.upd, hi, hd, sl_true, sl_false, so_true, so_false]
          · simpa [Iv.upd, hi, hd] using HWW.out
        · rintro f a0 z Q' ⟨q, v3, rfl, hw⟩ hi hd hQ
          replace hQ := Lib.hid hQ
          simp [Iv.depsB, Region.binds] at hd
          try simp only [hi, hd, sl_true, sl_false, so_true, so_false]
          try simp only [hi, sl_true, sl_false, so_true, so_false]
          have b2 := hw.2.1.cell 2
          simp only [List.getElem?_toArray, List.getElem?_cons_succ, List.getElem?_cons_zero] at b2
          have HWW := Lib.hid hw
          clear hw
          go_wp2_with fail
          refine hQ.out _ _ ⟨q, v3, ?_, ?_⟩
          · simp [Iv.upd, hi, hd, sl_true, sl_false, so_true, so_false]
          · simpa [Iv.upd, hi, hd] using HWW.out
        · rintro f a0 z Q' ⟨q, v3, rfl, hw⟩ hi hd hQ
          replace hQ := Lib.hid hQ
          simp [Iv.depsB, Region.binds] at hd
          try simp only [hi, hd, sl_true, sl_false, so_true, so_false]
          try simp only [hi, sl_true, sl_false, so_true, so_false]
          have d10 : f 10 = true := by simp [hd]
          try simp only [d10, so_true, sl_true]
          have HWW := Lib.hid hw
          clear hw
          go_wp2_with fail
          refine hQ.out _ _ ⟨q, v3, ?_, ?_⟩
          · simp [Iv.upd, hi, hd, d10, sl_true, sl_false, so_true, so_false]
          · simpa [Iv.upd, hi, hd, d10] using HWW.out
        · rintro f a0 z Q' ⟨q, v3, rfl, hw⟩ hi hd hQ
          replace hQ := Lib.hid hQ
          simp [Iv.depsB, Region.binds] at hd
          try simp only [hi, hd, sl_true, sl_false, so_true, so_false]
          try simp only [hi, sl_true, sl_false, so_true, so_false]
          have d11 : f 11 = true := by simp [hd]
          try simp only [d11, so_true, sl_true]
          have HWW := Lib.hid hw
          clear hw
          go_wp2_with fail
          refine hQ.out _ _ ⟨q, v3, ?_, ?_⟩
          · simp [Iv.upd, hi, hd, d11, sl_true, sl_false, so_true, so_false]
          · simpa [Iv.upd, hi, hd, d11] using HWW.out
        · rintro f a0 z Q' ⟨q, v3, rfl, hw⟩ hi hd hQ
          replace hQ := Lib.hid hQ
          simp [Iv.depsB, Region.binds] at hd
          try simp only [hi, hd, sl_true, sl_false, so_true, so_false]
          try simp only [hi, sl_true, sl_false, so_true, so_false]
          have d8 : f 8 = true := by simp [hd]
          have d12 : f 12 = true := by simp [hd]
          try simp only [d8, d12, so_true, sl_true]
          have e1 := er.out
          have HWW := Lib.hid hw
          clear hw
          go_wp2_with fail
          refine hQ.out _ _ ⟨q, v3, ?_, ?_⟩
          · simp [Iv.upd, hi, hd, d8, d12, sl_true, sl_false, so_true, so_false]
          · simpa [Iv.upd, hi, hd, d8, d12] using HWW.out
        · rintro f a0 z Q' ⟨q, v3, rfl, hw⟩ hi hd hQ
          replace hQ := Lib.hid hQ
          simp [Iv.depsB, Region.binds] at hd
          try simp only [hi, hd, sl_true, sl_false, so_true, so_false]
          try simp only [hi, sl_true, sl_false, so_true, so_false]
          have d2 : f 2 = true := by simp [hd]
          have d13 : f 13 = true := by simp [hd]
          try simp only [d2, d13, so_true, sl_true]
          have e1 := et.out
          have HWW := Lib.hid hw
          clear hw
          go_wp2_with fail
          refine hQ.out _ _ ⟨q, v3, ?_, ?_⟩
          · simp [Iv.upd, hi, hd, d2, d13, sl_true, sl_false, so_true, so_false]
          · simpa [Iv.upd, hi, hd, d2, d13] using HWW.out
        · rintro f a0 z Q' ⟨q, v3, rfl, hw⟩ hi hd hQ
          replace hQ := Lib.hid hQ
          simp [Iv.depsB, Region.binds] at hd
          try simp only [hi, hd, sl_true, sl_false, so_true, so_false]
          try simp only [hi, sl_true, sl_false, so_true, so_false]
          have h16 : f 16 = false := by
            cases e5 : f 16 with
            | false => rfl
            | true => have := hw.2.2.2.2.1 e5; simp [hi] at this
          have d14 : f 14 = true := by simp [hd]
          try simp only [d14, so_true, sl_true]
          have h1 := (hw.2.2.1 h16).1
          have hbe := (Below.refl z.heap.size z).alloc (Nat.le_refl _) (.cells #[.string (txt (s.take (ct m)))] 9)
          have HN := Lib.hid (h1.trans (hbe.mono h1.size))
          have hz1 := h1.size
          have HNW := Lib.hid (hw.1.trans (hbe.mono hw.1.size))
          have HNB := Lib.hid (hw.2.1.below hbe hw.2.1.lt)
          have HNF := Lib.hid (Whole.fresh z 9 #[.string (txt (s.take (ct m)))])
          have HNL := Lib.hid hw.2.2.2.2.2
          clear hw hbe h1
          go_wp2_with fail
          refine hQ.out _ _ ⟨z.heap.size, v3, ?_, ?_⟩
          · simp [Iv.upd, hi, hd, h16, d14, sl_true, sl_false, so_true, so_false]
          · exact ⟨HNW.out, HNB.out, fun _ => ⟨HN.out, fun _ => ⟨HNF.out, hz1⟩⟩, (fun e => by simp [Iv.upd, h16] at e), (fun e => by simp [Iv.upd]), fun e => by have := HNL.out (by simpa [Iv.upd] using e); simpa [Iv.upd] using this⟩
        · rintro f a0 z Q' ⟨q, v3, rfl, hw⟩ hi hd hQ
          replace hQ := Lib.hid hQ
          simp [Iv.depsB, Region.binds] at hd
          try simp only [hi, hd, sl_true, sl_false, so_true, so_false]
          try simp only [hi, sl_true, sl_false, so_true, so_false]
          have h17 : f 17 = false := by
            cases e5 : f 17 with
            | false => rfl
            | true => have := (hw.2.2.2.2.2 e5).2; simp [hi] at this
          try simp only [h17, so_false, sl_false]
          have d0 : f 0 = true := by simp [hd]
          have d15 : f 15 = true := by simp [hd]
          try simp only [d0, d15, so_true, sl_true]
          obtain ⟨h1, h2⟩ := hw.2.2.1 hi
          obtain ⟨h3, h4⟩ := h2 d15
          have HZ := Lib.hid h1
          have HZB := Lib.hid hw.1
          have HZW := Lib.hid hw.2.1
          have HOZ := Lib.hid (own_keep HO.out h1 (Nat.le_refl _))
          have HSQ := Lib.hid (sees_str h3)
          have hql := h3.lt
          have hz1 := h1.size
          have HNL := Lib.hid hw.2.2.2.2.2
          clear hw h1 h2 h3
          refine wpList_appAt rfl (.tmp 13) (.tmp 28) 35 9 _ 1 16 rfl info_str Try.underlying35 rfl (by decide) (w.heap.size + 1) (.slice a0 k c0) k (strs (ls.take k)) (by rfl) HOZ.out (q + 1) _ 1 1 (strs [s.take (ct m)]) (by rfl) HSQ.out (fun h => by cases h) (strs_one _) (by omega) (by omega) (by omega) ?_
          intro v4 z4 ho4 hg4 hat4
          rw [← strs_append, ← HTK.out] at ho4
          have HO4 := Lib.hid ho4
          have HB4 : Hid (Below w.heap.size w z4) := Lib.hid (HZB.out.grown hg4 (by omega) fun x hx => by have := (HO.out.lt x hx).1; omega)
          have HW4 : Hid (Whole z4 w.heap.size 44 #[.int .i64 kd, .int .i64 n, .string (txt s), .slice (some ⟨b, off, none⟩) keep.length cap]) := Lib.hid ((hg4.block w.heap.size HZW.out.lt (fun e => by have := (HO.out.lt _ e.symm).1; omega)).trans HZW.out)
          clear ho4 hg4 hat4
          go_wp2_with fail
          refine hQ.out _ _ ⟨q, v4, ?_, ?_⟩
          · simp [Iv.upd, hi, hd, d0, d15, h17, sl_true, sl_false, so_true, so_false]
          · exact ⟨HB4.out, HW4.out, (fun e => by simp [Iv.upd] at e), (fun _ => HO4.out), (fun _ => by simp [Iv.upd, d15]), fun e => by simp [Iv.upd, d0]⟩
        · rintro f a0 z Q' ⟨q, v3, rfl, hw⟩ hi hd hQ
          replace hQ := Lib.hid hQ
          simp [Iv.depsB, Region.binds] at hd
          try simp only [hi, hd, sl_true, sl_false, so_true, so_false]
          try simp only [hi, sl_true, sl_false, so_true, so_false]
          have d0 : f 0 = true := by simp [hd]
          have d16 : f 16 = true := by simp [hd]
          try simp only [d0, d16, so_true, sl_true]
          have HWW := Lib.hid hw
          clear hw
          go_wp2_with fail
          refine hQ.out _ _ ⟨q, v3, ?_, ?_⟩
          · simp [Iv.upd, hi, hd, d0, d16, sl_true, sl_false, so_true, so_false]
          · simpa [Iv.upd, hi, hd] using HWW.out
      · rintro f a0 z ⟨q, v3, rfl, hw⟩ hall
        simp only [hall 0 (by decide), hall 1 (by decide), hall 2 (by decide), hall 3 (by decide), hall 4 (by decide), hall 5 (by decide), hall 6 (by decide), hall 7 (by decide), hall 8 (by decide), hall 9 (by decide), hall 10 (by decide), hall 11 (by decide), hall 12 (by decide), hall 13 (by decide), hall 14 (by decide), hall 15 (by decide), hall 16 (by decide), hall 17 (by decide), sl_true, ↓reduceIte, so_true, so_false] at hw ⊢
        clear hall
        obtain ⟨h1, h2, -, h4, -⟩ := hw
        have ho4 := h4 trivial
        obtain ⟨a3, c3, rfl, h31, h32, h33⟩ := own_slice0 ho4
        have HO4 := Lib.hid ho4
        have HB4 := Lib.hid h1
        have HW4 := Lib.hid h2
        clear h1 h2 h4 ho4
        go_wp2_with fail
        go_roundw
        case rel => exact ⟨k + 1, a3, c3, by omega, by go_num, rfl, h33, HO4.out, HB4.out, HW4.out⟩
        case measure => simp [intOf]; omega
    · obtain rfl : k = keep.length := by omega
      go_wp2_with fail
      refine bodyPost_ret (by simp [results, Try.results37, go_sem]; try rfl) rfl ?_
      refine ⟨a0, c0, rfl, HB.out, ?_, hc0⟩
      have := Sees.own HO.out
      rwa [List.take_of_length_le (by rw [HLL.out]; omega)] at this
end Go.Proofs.Ytlfigbgcackimaa

/- The law's both.does of kind 0 (written by gdo8.py). -/
namespace Go.Proofs.Ytlfigbgcackimaa
open Go.RowKit Go.Fm Go.Dk Go.Wl Go.Iv
set_option linter.unusedVariables false
set_option linter.unusedSimpArgs false
set_option linter.unnecessarySimpa false
set_option maxRecDepth 100000

set_option maxHeartbeats 16000000 in
theorem does0 (W w : World) (y g p : Nat) (F : Nat → Prop) (d : D) (AL : Option Addr) (cL : Nat) (AK : Option Addr) (cK : Nat) (r : Rf) (AV : Option Addr) (cV : Nat) (u : Rw) (x : Ac) (hk : x.kind = 0) (h : Yv W w [] (fun _ => False) y g (some p) F u.wv d AL cL AK cK r AV cV u) (o : Rok r) (hrel : Rel r d) (hlog : W64 u.log) (hul : u.ls.length ≤ 1000000) (hacts : d.acts + 1 ≤ 9223372036854775807) (hall : u.wv.all + 1 ≤ 9223372036854775807) (hs : x.s.length ≤ 1000) :
    Calls Try.prog 15 #[ptr y, .agg (encA x).toArray] w fun e w' => e = .returned (.bool true) ∧ ∃ F' A1 c1 A2 c2 A3 c3, Yv W w' [] (fun _ => False) y g (some p) F' (u.act r 0 [x.s]).2.1.wv (u.wv.append d x.s).1 A1 c1 A2 c2 (u.act r 0 [x.s]).1 A3 c3 (u.act r 0 [x.s]).2.1 := by
  obtain ⟨e1, e2, -⟩ := rel_append hrel u x.s
  have HX := Lib.hid (h.alloc w.heap.size rfl 44 (encA x).toArray)
  have HAP := Lib.hid (fun (w' : World) (X : Nat → Prop) (L : List Row) (hy : Yv W w' L X y g (some p) F u.wv d AL cL AK cK r AV cV u) (A : Option Addr) (cap : Nat) (hin : InB w' A cap x.s) => wappend_any p g u.wv d F hlog A cap x.s hacts hall w' hy.wx hin)
  have HRA := Lib.hid (fun (w' : World) (B : Nat) (hB : Whole w' B 9 #[.string (txt x.s)]) (G : Nat → Prop) (hm2 : IsM G w' AL cL AK cK r) (hw2 : IsW G w' AV cV u) => ract8_any w' r o u G AL cL AK cK AV cV hw2 hul 0 (w64 0 (by omega)) hlog (B + 1) (some ⟨B, 0, none⟩) 1 (fun h => by cases h) [x.s] (sees_str hB) hB.lt (by simp) (fun l hl => by simp at hl; subst hl; omega) (by have := frames_short [x.s] (fun l hl => by simp at hl; subst hl; exact hs); simp at this; omega) hm2)
  rw [e1, e2] at HAP
  simp only [List.length_cons, List.length_nil, Nat.zero_add] at HRA
  have HS := Lib.hid hs
  clear h o hrel e1 e2 hs
  generalize u.act r 0 [x.s] = Q at *
  generalize (u.wv.append d x.s).1 = d' at *
  obtain ⟨kd, n, s, A, cap, keep⟩ := x
  simp only at hk HS HAP HRA
  subst hk
  have hea : ∀ k, (encA ⟨k, n, s, A, cap, keep⟩).toArray = #[.int .i64 k, .int .i64 n, .string (txt s), .slice A keep.length cap] := fun k => rfl
  rw [hea] at HX ⊢
  clear hea
  unfold RActs vM vW at HRA
  have hw1 : Whole (w.alloc (.cells #[.int .i64 0, .int .i64 n, .string (txt s), .slice A keep.length cap] 44)) y 39 _ := HX.out.face
  obtain ⟨c, w2, htr, hin, hb2, ho2⟩ := ours_run s (by have := HS.out; omega) (w.alloc (.cells #[.int .i64 0, .int .i64 n, .string (txt s), .slice A keep.length cap] 44))
  have hX2 := HX.out.withX hb2 _ (Nat.le_refl _) ho2.lt
  simp only [World.size_alloc] at htr hin ho2 hX2
  have HX2 := Lib.hid hX2
  have b0 := (HX.out.knows.at 0 rfl).cell 0
  have b2 := (HX.out.knows.at 0 rfl).cell 2
  have x1 : w2.cell? ⟨y, 1, none⟩ = some (ptr p) := hX2.face.cell 1
  have HIN := Lib.hid hin
  have HOU := Lib.hid ho2
  clear hw1 hin hb2 ho2 hX2
  go_enter Try.func15, Try.ntmps15
  go_wp2_with fail
  refine (HAP.out _ _ _ HX2.out _ _ HIN.out).mono ?_
  rintro e w3 ⟨rfl, hm⟩
  obtain ⟨F1, hy1⟩ := HX2.out.went hm
  have HOU3 := Lib.hid (HOU.out.at (HX2.out.went_same hm (HX2.out.mine _ (.inr rfl)).2.1 HOU.out.lt))
  have HY := Lib.hid hy1
  clear hm hy1 HAP HX HX2 HIN HOU b0 b2 x1 htr
  go_wp2_with fail
  refine Iv.region (fun f aa z => ∃ A1 c1 A2 c2 A3 c3 B, aa = ⟨#[ptr y, Value.agg #[Value.int IntKind.i64 0, Value.int IntKind.i64 n, Value.string (txt s), Value.slice A keep.length cap], undef, Value.pointer (some { block := w.heap.size, off := 0 }), Value.bool false, Value.int IntKind.i64 Q.snd.snd, so (f 24) (.int .i64 Q.2.2) (.int .i64 0), Value.slice (some { block := w.heap.size + 1, off := 0 }) s.length c, undef, Value.pointer (some { block := w.heap.size, off := 0 }), Value.int IntKind.i64 0, undef, undef, Value.bool true, Value.bool true, Value.pointer (some { block := w.heap.size, off := 2 }), Value.string (txt s), Value.slice (some { block := w.heap.size + 1, off := 0 }) s.length c, ptr y, Value.pointer (some { block := y, off := 0 }), Value.pointer (some { block := y, off := 1 }), ptr p, Value.slice (some { block := w.heap.size + 1, off := 0 }) s.length c, Value.int IntKind.i64 Q.snd.snd, sl (f 14) (.tuple #[.agg #[.slice A1 Q.1.logs.length c1, .int .i64 Q.1.acts, .bool Q.1.off, .int .i64 Q.1.armed, .slice A2 Q.1.keep.length c2], .agg #[.int .i64 Q.2.1.log, .slice A3 Q.2.1.ls.length c3, .int .i64 Q.2.1.sure, .bool Q.2.1.dead], .int .i64 Q.2.2]), sl (f 0) (ptr y), sl (f 1) (ptr y), sl (f 2) (ptr y), sl (f 3) (.pointer (some ⟨y, 0, none⟩)), sl (f 4) (.pointer (some ⟨y, 2, none⟩)), sl (f 5) (.agg #[.slice AL r.logs.length cL, .int .i64 r.acts, .bool r.off, .int .i64 r.armed, .slice AK r.keep.length cK]), sl (f 6) (ptr y), sl (f 7) (.pointer (some ⟨y, 0, none⟩)), sl (f 8) (.pointer (some ⟨y, 7, none⟩)), sl (f 9) (.agg #[.int .i64 u.log, .slice AV u.ls.length cV, .int .i64 u.sure, .bool u.dead]), sl (f 10) (.pointer (some ⟨w.heap.size, 2, none⟩)), sl (f 11) (.string (txt s)), sl (f 12) (.slice (some ⟨B, 0, none⟩) 1 1), sl (f 13) (.tuple #[.agg #[.slice A1 Q.1.logs.length c1, .int .i64 Q.1.acts, .bool Q.1.off, .int .i64 Q.1.armed, .slice A2 Q.1.keep.length c2], .agg #[.int .i64 Q.2.1.log, .slice A3 Q.2.1.ls.length c3, .int .i64 Q.2.1.sure, .bool Q.2.1.dead], .int .i64 Q.2.2]), sl (f 15) (.agg #[.slice A1 Q.1.logs.length c1, .int .i64 Q.1.acts, .bool Q.1.off, .int .i64 Q.1.armed, .slice A2 Q.1.keep.length c2]), sl (f 16) (.agg #[.int .i64 Q.2.1.log, .slice A3 Q.2.1.ls.length c3, .int .i64 Q.2.1.sure, .bool Q.2.1.dead]), sl (f 17) (.int .i64 Q.2.2), sl (f 18) (.pointer (some ⟨y, 0, none⟩)), sl (f 19) (.pointer (some ⟨y, 2, none⟩)), sl (f 21) (.pointer (some ⟨y, 0, none⟩)), sl (f 22) (.pointer (some ⟨y, 7, none⟩)), undef, undef, undef, undef, undef, undef, undef, undef, undef, undef, undef, undef, undef, undef, undef, undef, undef, undef, undef, undef, undef, undef, undef, undef, undef, undef, undef, undef, undef, undef, undef, undef, undef, undef, undef, undef, undef, undef, undef, undef, undef, undef, undef, undef, undef, undef, undef, undef, undef, undef, undef, undef, undef, undef, undef, undef, undef, undef, undef, undef, undef, undef, undef, undef, undef, undef, undef, undef, undef, undef, undef, undef, undef, undef, undef, undef, undef, undef, undef, undef, undef, undef, undef, undef, undef, undef, undef, undef, undef, undef, undef, undef, undef, undef, undef, undef, undef, undef, undef, undef, undef, undef, undef, undef, undef, undef, undef, undef, undef, undef, undef, undef, undef, undef, undef, undef, undef, undef, undef, undef, undef, undef, undef, undef, undef, undef, undef, undef, undef, undef, undef, undef, undef, undef, undef, undef, undef, undef, undef, undef, undef, undef, undef, undef, undef, undef, undef, undef, undef, undef, undef, undef], []⟩ ∧ Sg W w3 [(w.heap.size, 44, #[.int .i64 0, .int .i64 n, .string (txt s), .slice A keep.length cap])] (fun c => False ∨ c = w.heap.size + 1) y g p F1 Q.2.1.wv d' AL cL AK cK r AV cV u Q.1 Q.2.1 A1 c1 A2 c2 A3 c3 (f 13) (f 20) (f 23) z ∧ (f 13 = true → f 5 = true ∧ f 9 = true ∧ f 12 = true) ∧ (f 13 = false → f 14 = false ∧ f 15 = false ∧ f 16 = false) ∧ (f 12 = true → f 13 = false → Whole z B 9 #[.string (txt s)]) ∧ (f 12 = true → f 11 = true)) (by kernel_rfl) (by kernel_rfl) ?_ ?_ ?_
  · exact ⟨none, 0, none, 0, none, 0, 0, rfl, Sg.start (HY.out.call (drew_below _ 1)) (fun b hx => (drew_below _ 1).block b (HY.out.mine b hx).1), (fun h => by cases h), fun _ => ⟨rfl, rfl, rfl⟩, (fun h => by cases h), fun h => by cases h⟩
  · refine ⟨?_, ?_, ?_, ?_, ?_, ?_, ?_, ?_, ?_, ?_, ?_, ?_, ?_, ?_, ?_, ?_, ?_, ?_, ?_, ?_, ?_, ?_, ?_, ?_, ?_, trivial⟩
    · rintro f a0 z Q' ⟨A1, c1, A2, c2, A3, c3, B, rfl, hw⟩ hi hd hQ
      replace hQ := Lib.hid hQ
      simp [Iv.depsB, Region.binds] at hd
      try simp only [hi, hd, sl_true, sl_false, so_true, so_false]
      try simp only [hi, sl_true, sl_false, so_true, so_false]
      have HWW := Lib.hid hw
      clear hw
      go_wp2_with fail
      refine hQ.out _ _ ⟨A1, c1, A2, c2, A3, c3, B, ?_, ?_⟩
      · simp [Iv.upd, hi, hd, sl_true, sl_false, so_true, so_false]
      · simpa [Iv.upd, hi, hd] using HWW.out
    · rintro f a0 z Q' ⟨A1, c1, A2, c2, A3, c3, B, rfl, hw⟩ hi hd hQ
      replace hQ := Lib.hid hQ
      simp [Iv.depsB, Region.binds] at hd
      try simp only [hi, hd, sl_true, sl_false, so_true, so_false]
      try simp only [hi, sl_true, sl_false, so_true, so_false]
      have HWW := Lib.hid hw
      clear hw
      go_wp2_with fail
      refine hQ.out _ _ ⟨A1, c1, A2, c2, A3, c3, B, ?_, ?_⟩
      · simp [Iv.upd, hi, hd, sl_true, sl_false, so_true, so_false]
      · simpa [Iv.upd, hi, hd] using HWW.out
    · rintro f a0 z Q' ⟨A1, c1, A2, c2, A3, c3, B, rfl, hw⟩ hi hd hQ
      replace hQ := Lib.hid hQ
      simp [Iv.depsB, Region.binds] at hd
      try simp only [hi, hd, sl_true, sl_false, so_true, so_false]
      try simp only [hi, sl_true, sl_false, so_true, so_false]
      have HWW := Lib.hid hw
      clear hw
      go_wp2_with fail
      refine hQ.out _ _ ⟨A1, c1, A2, c2, A3, c3, B, ?_, ?_⟩
      · simp [Iv.upd, hi, hd, sl_true, sl_false, so_true, so_false]
      · simpa [Iv.upd, hi, hd] using HWW.out
    · rintro f a0 z Q' ⟨A1, c1, A2, c2, A3, c3, B, rfl, hw⟩ hi hd hQ
      replace hQ := Lib.hid hQ
      simp [Iv.depsB, Region.binds] at hd
      try simp only [hi, hd, sl_true, sl_false, so_true, so_false]
      try simp only [hi, sl_true, sl_false, so_true, so_false]
      have HWW := Lib.hid hw
      clear hw
      go_wp2_with fail
      refine hQ.out _ _ ⟨A1, c1, A2, c2, A3, c3, B, ?_, ?_⟩
      · simp [Iv.upd, hi, hd, sl_true, sl_false, so_true, so_false]
      · simpa [Iv.upd, hi, hd] using HWW.out
    · rintro f a0 z Q' ⟨A1, c1, A2, c2, A3, c3, B, rfl, hw⟩ hi hd hQ
      replace hQ := Lib.hid hQ
      simp [Iv.depsB, Region.binds] at hd
      try simp only [hi, hd, sl_true, sl_false, so_true, so_false]
      try simp only [hi, sl_true, sl_false, so_true, so_false]
      have HWW := Lib.hid hw
      clear hw
      go_wp2_with fail
      refine hQ.out _ _ ⟨A1, c1, A2, c2, A3, c3, B, ?_, ?_⟩
      · simp [Iv.upd, hi, hd, sl_true, sl_false, so_true, so_false]
      · simpa [Iv.upd, hi, hd] using HWW.out
    · rintro f a0 z Q' ⟨A1, c1, A2, c2, A3, c3, B, rfl, hw⟩ hi hd hQ
      replace hQ := Lib.hid hQ
      simp [Iv.depsB, Region.binds] at hd
      try simp only [hi, hd, sl_true, sl_false, so_true, so_false]
      try simp only [hi, sl_true, sl_false, so_true, so_false]
      have hc : f 13 = false := by
        cases e5 : f 13 with
        | false => rfl
        | true => have := hw.2.1 e5; simp [hi] at this
      obtain ⟨em, ev, hy⟩ := hw.1.zero hc
      obtain ⟨e14, e15, e16⟩ := hw.2.2.1 hc
      have HYY := Lib.hid hy
      have HSS := Lib.hid hw.1.same
      obtain ⟨⟨x0, x1⟩, ⟨x2, x3, x4, x5, x6⟩, ⟨x7, x8, x9, x10⟩, -⟩ := hy.cells
      have HBB := Lib.hid hw.2.2.2.1
      have HBD := Lib.hid hw.2.2.2.2
      clear hw hy
      go_wp2_with fail
      refine hQ.out _ _ ⟨A1, c1, A2, c2, A3, c3, B, ?_, ?_⟩
      · simp [Iv.upd, hi, hd, hc, em, ev, e14, e15, e16, sl_true, sl_false, so_true, so_false]
      · refine ⟨by simpa [Iv.upd, hi, hd, hc, em, ev] using Sg.start HYY.out HSS.out, by simp [Iv.upd, hi, hd, hc], by simp [Iv.upd, hi, hd, hc, e14, e15, e16], by simpa [Iv.upd, hi, hd, hc] using HBB.out, by simpa [Iv.upd, hi, hd, hc] using HBD.out⟩
    · rintro f a0 z Q' ⟨A1, c1, A2, c2, A3, c3, B, rfl, hw⟩ hi hd hQ
      replace hQ := Lib.hid hQ
      simp [Iv.depsB, Region.binds] at hd
      try simp only [hi, hd, sl_true, sl_false, so_true, so_false]
      try simp only [hi, sl_true, sl_false, so_true, so_false]
      have HWW := Lib.hid hw
      clear hw
      go_wp2_with fail
      refine hQ.out _ _ ⟨A1, c1, A2, c2, A3, c3, B, ?_, ?_⟩
      · simp [Iv.upd, hi, hd, sl_true, sl_false, so_true, so_false]
      · simpa [Iv.upd, hi, hd] using HWW.out
    · rintro f a0 z Q' ⟨A1, c1, A2, c2, A3, c3, B, rfl, hw⟩ hi hd hQ
      replace hQ := Lib.hid hQ
      simp [Iv.depsB, Region.binds] at hd
      try simp only [hi, hd, sl_true, sl_false, so_true, so_false]
      try simp only [hi, sl_true, sl_false, so_true, so_false]
      have HWW := Lib.hid hw
      clear hw
      go_wp2_with fail
      refine hQ.out _ _ ⟨A1, c1, A2, c2, A3, c3, B, ?_, ?_⟩
      · simp [Iv.upd, hi, hd, sl_true, sl_false, so_true, so_false]
      · simpa [Iv.upd, hi, hd] using HWW.out
    · rintro f a0 z Q' ⟨A1, c1, A2, c2, A3, c3, B, rfl, hw⟩ hi hd hQ
      replace hQ := Lib.hid hQ
      simp [Iv.depsB, Region.binds] at hd
      try simp only [hi, hd, sl_true, sl_false, so_true, so_false]
      try simp only [hi, sl_true, sl_false, so_true, so_false]
      have HWW := Lib.hid hw
      clear hw
      go_wp2_with fail
      refine hQ.out _ _ ⟨A1, c1, A2, c2, A3, c3, B, ?_, ?_⟩
      · simp [Iv.upd, hi, hd, sl_true, sl_false, so_true, so_false]
      · simpa [Iv.upd, hi, hd] using HWW.out
    · rintro f a0 z Q' ⟨A1, c1, A2, c2, A3, c3, B, rfl, hw⟩ hi hd hQ
      replace hQ := Lib.hid hQ
      simp [Iv.depsB, Region.binds] at hd
      try simp only [hi, hd, sl_true, sl_false, so_true, so_false]
      try simp only [hi, sl_true, sl_false, so_true, so_false]
      have hc : f 13 = false := by
        cases e5 : f 13 with
        | false => rfl
        | true => have := hw.2.1 e5; simp [hi] at this
      obtain ⟨em, ev, hy⟩ := hw.1.zero hc
      obtain ⟨e14, e15, e16⟩ := hw.2.2.1 hc
      have HYY := Lib.hid hy
      have HSS := Lib.hid hw.1.same
      obtain ⟨⟨x0, x1⟩, ⟨x2, x3, x4, x5, x6⟩, ⟨x7, x8, x9, x10⟩, -⟩ := hy.cells
      have HBB := Lib.hid hw.2.2.2.1
      have HBD := Lib.hid hw.2.2.2.2
      clear hw hy
      go_wp2_with fail
      refine hQ.out _ _ ⟨A1, c1, A2, c2, A3, c3, B, ?_, ?_⟩
      · simp [Iv.upd, hi, hd, hc, em, ev, e14, e15, e16, sl_true, sl_false, so_true, so_false]
      · refine ⟨by simpa [Iv.upd, hi, hd, hc, em, ev] using Sg.start HYY.out HSS.out, by simp [Iv.upd, hi, hd, hc], by simp [Iv.upd, hi, hd, hc, e14, e15, e16], by simpa [Iv.upd, hi, hd, hc] using HBB.out, by simpa [Iv.upd, hi, hd, hc] using HBD.out⟩
    · rintro f a0 z Q' ⟨A1, c1, A2, c2, A3, c3, B, rfl, hw⟩ hi hd hQ
      replace hQ := Lib.hid hQ
      simp [Iv.depsB, Region.binds] at hd
      try simp only [hi, hd, sl_true, sl_false, so_true, so_false]
      try simp only [hi, sl_true, sl_false, so_true, so_false]
      have HWW := Lib.hid hw
      clear hw
      go_wp2_with fail
      refine hQ.out _ _ ⟨A1, c1, A2, c2, A3, c3, B, ?_, ?_⟩
      · simp [Iv.upd, hi, hd, sl_true, sl_false, so_true, so_false]
      · simpa [Iv.upd, hi, hd] using HWW.out
    · rintro f a0 z Q' ⟨A1, c1, A2, c2, A3, c3, B, rfl, hw⟩ hi hd hQ
      replace hQ := Lib.hid hQ
      simp [Iv.depsB, Region.binds] at hd
      try simp only [hi, hd, sl_true, sl_false, so_true, so_false]
      try simp only [hi, sl_true, sl_false, so_true, so_false]
      have hc : f 13 = false := by
        cases e5 : f 13 with
        | false => rfl
        | true => exact absurd (hw.2.2.2.2 (hw.2.1 e5).2.2) (by simp [hi])
      obtain ⟨em, ev, hy⟩ := hw.1.zero hc
      obtain ⟨e14, e15, e16⟩ := hw.2.2.1 hc
      have HYY := Lib.hid hy
      have HSS := Lib.hid hw.1.same
      have b0 := (hy.knows.at 0 rfl).cell 0
      have b1 := (hy.knows.at 0 rfl).cell 1
      have b2 := (hy.knows.at 0 rfl).cell 2
      have b3 := (hy.knows.at 0 rfl).cell 3
      have HBB := Lib.hid hw.2.2.2.1
      have HBD := Lib.hid hw.2.2.2.2
      clear hw hy
      go_wp2_with fail
      refine hQ.out _ _ ⟨A1, c1, A2, c2, A3, c3, B, ?_, ?_⟩
      · simp [Iv.upd, hi, hd, hc, em, ev, e14, e15, e16, sl_true, sl_false, so_true, so_false]
      · refine ⟨by simpa [Iv.upd, hi, hd, hc, em, ev] using Sg.start HYY.out HSS.out, by simp [Iv.upd, hi, hd, hc], by simp [Iv.upd, hi, hd, hc, e14, e15, e16], by simpa [Iv.upd, hi, hd, hc] using HBB.out, by simpa [Iv.upd, hi, hd, hc] using HBD.out⟩
    · rintro f a0 z Q' ⟨A1, c1, A2, c2, A3, c3, B, rfl, hw⟩ hi hd hQ
      replace hQ := Lib.hid hQ
      simp [Iv.depsB, Region.binds] at hd
      try simp only [hi, hd, sl_true, sl_false, so_true, so_false]
      try simp only [hi, sl_true, sl_false, so_true, so_false]
      have hc : f 13 = false := by
        cases e5 : f 13 with
        | false => rfl
        | true => have := hw.2.1 e5; simp [hi] at this
      obtain ⟨em, ev, hy⟩ := hw.1.zero hc
      obtain ⟨e14, e15, e16⟩ := hw.2.2.1 hc
      have HYY := Lib.hid hy
      have HSS := Lib.hid hw.1.same
      have hbe := (Below.refl z.heap.size z).alloc (Nat.le_refl _) (.cells #[.string (txt s)] 9)
      have HY2 := Lib.hid (hy.call hbe)
      have HS2 := Lib.hid (fun b hx => (hbe.block b (hy.mine b hx).1).trans (hw.1.same b hx))
      have HWB := Lib.hid (Whole.fresh z 9 #[.string (txt s)])
      clear hbe
      have d11 : f 11 = true := by simp [hd]
      try simp only [d11, sl_true]
      clear hw hy
      go_wp2_with fail
      refine hQ.out _ _ ⟨A1, c1, A2, c2, A3, c3, z.heap.size, ?_, ?_⟩
      · simp [Iv.upd, hi, hd, hc, em, ev, e14, e15, e16, d11, sl_true, sl_false, so_true, so_false]
      · refine ⟨by simpa [Iv.upd, hi, hd, hc, em, ev] using Sg.start HY2.out HS2.out, by simp [Iv.upd, hi, hd, hc], by simp [Iv.upd, hi, hd, hc, e14, e15, e16], by simpa [Iv.upd, hi, hd, hc] using HWB.out, by simp [Iv.upd, d11]⟩
    · rintro f a0 z Q' ⟨A1, c1, A2, c2, A3, c3, B, rfl, hw⟩ hi hd hQ
      replace hQ := Lib.hid hQ
      simp [Iv.depsB, Region.binds] at hd
      try simp only [hi, hd, sl_true, sl_false, so_true, so_false]
      try simp only [hi, sl_true, sl_false, so_true, so_false]
      obtain ⟨em, ev, hy⟩ := hw.1.zero hi
      obtain ⟨e14, e15, e16⟩ := hw.2.2.1 hi
      have HYY := Lib.hid hy
      have HSS := Lib.hid hw.1.same
      have d5 : f 5 = true := by simp [hd]
      have d9 : f 9 = true := by simp [hd]
      have d12 : f 12 = true := by simp [hd]
      have HWB := Lib.hid (hw.2.2.2.1 d12 hi)
      have HBD := Lib.hid hw.2.2.2.2
      clear hw hy
      try simp only [d5, d9, d12, sl_true]
      have HCC := Lib.hid (HRA.out z B HWB.out _ HYY.out.disk HYY.out.list)
      go_wp2_with fail
      refine HCC.out.mono ?_
      rintro e z1 ⟨B1, e1, B2, e2, B3, e3, rfl, hb3, hmm, hww⟩
      have HO := Lib.hid (Sg.made HYY.out HSS.out hb3 hmm hww)
      clear hb3 hmm hww HCC HSS
      go_wp2_with fail
      refine hQ.out _ _ ⟨B1, e1, B2, e2, B3, e3, B, ?_, ?_⟩
      · simp [Iv.upd, hi, hd, em, ev, e14, e15, e16, d5, d9, d12, sl_true, sl_false, so_true, so_false]
      · refine ⟨by simpa [Iv.upd, hi, hd, em, ev] using HO.out, by simp [Iv.upd, hd, d5, d9, d12], by simp [Iv.upd], by simp [Iv.upd], by simpa [Iv.upd, hi, hd] using HBD.out⟩
    · rintro f a0 z Q' ⟨A1, c1, A2, c2, A3, c3, B, rfl, hw⟩ hi hd hQ
      replace hQ := Lib.hid hQ
      simp [Iv.depsB, Region.binds] at hd
      try simp only [hi, hd, sl_true, sl_false, so_true, so_false]
      try simp only [hi, sl_true, sl_false, so_true, so_false]
      have HWW := Lib.hid hw
      clear hw
      go_wp2_with fail
      refine hQ.out _ _ ⟨A1, c1, A2, c2, A3, c3, B, ?_, ?_⟩
      · simp [Iv.upd, hi, hd, sl_true, sl_false, so_true, so_false]
      · simpa [Iv.upd, hi, hd] using HWW.out
    · rintro f a0 z Q' ⟨A1, c1, A2, c2, A3, c3, B, rfl, hw⟩ hi hd hQ
      replace hQ := Lib.hid hQ
      simp [Iv.depsB, Region.binds] at hd
      try simp only [hi, hd, sl_true, sl_false, so_true, so_false]
      try simp only [hi, sl_true, sl_false, so_true, so_false]
      have HWW := Lib.hid hw
      clear hw
      go_wp2_with fail
      refine hQ.out _ _ ⟨A1, c1, A2, c2, A3, c3, B, ?_, ?_⟩
      · simp [Iv.upd, hi, hd, sl_true, sl_false, so_true, so_false]
      · simpa [Iv.upd, hi, hd] using HWW.out
    · rintro f a0 z Q' ⟨A1, c1, A2, c2, A3, c3, B, rfl, hw⟩ hi hd hQ
      replace hQ := Lib.hid hQ
      simp [Iv.depsB, Region.binds] at hd
      try simp only [hi, hd, sl_true, sl_false, so_true, so_false]
      try simp only [hi, sl_true, sl_false, so_true, so_false]
      have HWW := Lib.hid hw
      clear hw
      go_wp2_with fail
      refine hQ.out _ _ ⟨A1, c1, A2, c2, A3, c3, B, ?_, ?_⟩
      · simp [Iv.upd, hi, hd, sl_true, sl_false, so_true, so_false]
      · simpa [Iv.upd, hi, hd] using HWW.out
    · rintro f a0 z Q' ⟨A1, c1, A2, c2, A3, c3, B, rfl, hw⟩ hi hd hQ
      replace hQ := Lib.hid hQ
      simp [Iv.depsB, Region.binds] at hd
      try simp only [hi, hd, sl_true, sl_false, so_true, so_false]
      try simp only [hi, sl_true, sl_false, so_true, so_false]
      have HWW := Lib.hid hw
      clear hw
      go_wp2_with fail
      refine hQ.out _ _ ⟨A1, c1, A2, c2, A3, c3, B, ?_, ?_⟩
      · simp [Iv.upd, hi, hd, sl_true, sl_false, so_true, so_false]
      · simpa [Iv.upd, hi, hd] using HWW.out
    · rintro f a0 z Q' ⟨A1, c1, A2, c2, A3, c3, B, rfl, hw⟩ hi hd hQ
      replace hQ := Lib.hid hQ
      simp [Iv.depsB, Region.binds] at hd
      try simp only [hi, hd, sl_true, sl_false, so_true, so_false]
      try simp only [hi, sl_true, sl_false, so_true, so_false]
      have HWW := Lib.hid hw
      clear hw
      go_wp2_with fail
      refine hQ.out _ _ ⟨A1, c1, A2, c2, A3, c3, B, ?_, ?_⟩
      · simp [Iv.upd, hi, hd, sl_true, sl_false, so_true, so_false]
      · simpa [Iv.upd, hi, hd] using HWW.out
    · rintro f a0 z Q' ⟨A1, c1, A2, c2, A3, c3, B, rfl, hw⟩ hi hd hQ
      replace hQ := Lib.hid hQ
      simp [Iv.depsB, Region.binds] at hd
      try simp only [hi, hd, sl_true, sl_false, so_true, so_false]
      try simp only [hi, sl_true, sl_false, so_true, so_false]
      have HWW := Lib.hid hw
      clear hw
      go_wp2_with fail
      refine hQ.out _ _ ⟨A1, c1, A2, c2, A3, c3, B, ?_, ?_⟩
      · simp [Iv.upd, hi, hd, sl_true, sl_false, so_true, so_false]
      · simpa [Iv.upd, hi, hd] using HWW.out
    · rintro f a0 z Q' ⟨A1, c1, A2, c2, A3, c3, B, rfl, hw⟩ hi hd hQ
      replace hQ := Lib.hid hQ
      simp [Iv.depsB, Region.binds] at hd
      try simp only [hi, hd, sl_true, sl_false, so_true, so_false]
      try simp only [hi, sl_true, sl_false, so_true, so_false]
      have dc : f 13 = true := by simp [hd]
      have dm : f 15 = true := by simp [hd]
      have da : f 19 = true := by simp [hd]
      obtain ⟨ev, hy, -, -⟩ := hw.1.one dc hi
      have hsg := hw.1
      rw [dc, hi, ev] at hsg
      have HO := Lib.hid hsg.setM
      have HBD := Lib.hid hw.2.2.2.2
      obtain ⟨dl5, dl9, dl12⟩ := hw.2.1 dc
      obtain ⟨⟨x0, x1⟩, ⟨x2, x3, x4, x5, x6⟩, -, ⟨y2, y3, y4, y5, y6⟩, -⟩ := hy.cells
      clear hw hy hsg
      try simp only [dm, da, sl_true]
      go_wp2_with fail
      refine hQ.out _ _ ⟨A1, c1, A2, c2, A3, c3, B, ?_, ?_⟩
      · simp [Iv.upd, hi, hd, dc, dm, da, ev, sl_true, sl_false, so_true, so_false]
      · refine ⟨by simpa [Iv.upd, hi, dc, ev] using HO.out, by simp [Iv.upd, dl5, dl9, dl12], by simp [Iv.upd, dc], by simp [Iv.upd, dc], by simpa [Iv.upd, hi, hd] using HBD.out⟩
    · rintro f a0 z Q' ⟨A1, c1, A2, c2, A3, c3, B, rfl, hw⟩ hi hd hQ
      replace hQ := Lib.hid hQ
      simp [Iv.depsB, Region.binds] at hd
      try simp only [hi, hd, sl_true, sl_false, so_true, so_false]
      try simp only [hi, sl_true, sl_false, so_true, so_false]
      have HWW := Lib.hid hw
      clear hw
      go_wp2_with fail
      refine hQ.out _ _ ⟨A1, c1, A2, c2, A3, c3, B, ?_, ?_⟩
      · simp [Iv.upd, hi, hd, sl_true, sl_false, so_true, so_false]
      · simpa [Iv.upd, hi, hd] using HWW.out
    · rintro f a0 z Q' ⟨A1, c1, A2, c2, A3, c3, B, rfl, hw⟩ hi hd hQ
      replace hQ := Lib.hid hQ
      simp [Iv.depsB, Region.binds] at hd
      try simp only [hi, hd, sl_true, sl_false, so_true, so_false]
      try simp only [hi, sl_true, sl_false, so_true, so_false]
      have HWW := Lib.hid hw
      clear hw
      go_wp2_with fail
      refine hQ.out _ _ ⟨A1, c1, A2, c2, A3, c3, B, ?_, ?_⟩
      · simp [Iv.upd, hi, hd, sl_true, sl_false, so_true, so_false]
      · simpa [Iv.upd, hi, hd] using HWW.out
    · rintro f a0 z Q' ⟨A1, c1, A2, c2, A3, c3, B, rfl, hw⟩ hi hd hQ
      replace hQ := Lib.hid hQ
      simp [Iv.depsB, Region.binds] at hd
      try simp only [hi, hd, sl_true, sl_false, so_true, so_false]
      try simp only [hi, sl_true, sl_false, so_true, so_false]
      have dm : f 20 = true := by simp [hd]
      have dv : f 16 = true := by simp [hd]
      have da : f 22 = true := by simp [hd]
      obtain ⟨hy, -⟩ := hw.1.two dm hi
      have dc : f 13 = true := hw.1.ord dm
      have hsg := hw.1
      rw [dc, hi, dm] at hsg
      have HO := Lib.hid hsg.setV
      have HBD := Lib.hid hw.2.2.2.2
      obtain ⟨dl5, dl9, dl12⟩ := hw.2.1 dc
      obtain ⟨⟨x0, x1⟩, -, ⟨x7, x8, x9, x10⟩, -, ⟨y7, y8, y9, y10⟩⟩ := hy.cells
      clear hw hy hsg
      try simp only [dv, da, sl_true]
      go_wp2_with fail
      refine hQ.out _ _ ⟨A1, c1, A2, c2, A3, c3, B, ?_, ?_⟩
      · simp [Iv.upd, hi, hd, dc, dm, dv, da, sl_true, sl_false, so_true, so_false]
      · refine ⟨by simpa [Iv.upd, hi, dc, dm] using HO.out, by simp [Iv.upd, dl5, dl9, dl12], by simp [Iv.upd, dc], by simp [Iv.upd, dc], by simpa [Iv.upd, hi, hd] using HBD.out⟩
    · rintro f a0 z Q' ⟨A1, c1, A2, c2, A3, c3, B, rfl, hw⟩ hi hd hQ
      replace hQ := Lib.hid hQ
      simp [Iv.depsB, Region.binds] at hd
      try simp only [hi, hd, sl_true, sl_false, so_true, so_false]
      try simp only [hi, sl_true, sl_false, so_true, so_false]
      have HWW := Lib.hid hw
      clear hw
      go_wp2_with fail
      refine hQ.out _ _ ⟨A1, c1, A2, c2, A3, c3, B, ?_, ?_⟩
      · simp [Iv.upd, hi, hd, sl_true, sl_false, so_true, so_false]
      · simpa [Iv.upd, hi, hd] using HWW.out
  · rintro f a0 z ⟨A1, c1, A2, c2, A3, c3, B, rfl, hw⟩ hall
    simp only [hall 0 (by decide), hall 1 (by decide), hall 2 (by decide), hall 3 (by decide), hall 4 (by decide), hall 5 (by decide), hall 6 (by decide), hall 7 (by decide), hall 8 (by decide), hall 9 (by decide), hall 10 (by decide), hall 11 (by decide), hall 12 (by decide), hall 13 (by decide), hall 14 (by decide), hall 15 (by decide), hall 16 (by decide), hall 17 (by decide), hall 18 (by decide), hall 19 (by decide), hall 20 (by decide), hall 21 (by decide), hall 22 (by decide), hall 23 (by decide), hall 24 (by decide), sl_true, ↓reduceIte, so_true, so_false] at hw ⊢
    clear hall
    have HF := Lib.hid (hw.1.three rfl).2
    have HOU5 := Lib.hid (HOU3.out.at (hw.1.same _ (.inr rfl)))
    clear hw HOU3 HRA HY
    have hs := HS.out
    go_wp2_with fail
    go_loopw [8] (fun i wr => ∃ j : Nat, j ≤ s.length ∧ i = .int .i64 (j : Int) ∧ Yv W wr [(w.heap.size, 44, #[.int .i64 0, .int .i64 n, .string (txt s), .slice A keep.length cap])] (fun c => False ∨ c = w.heap.size + 1) y g (some p) F1 Q.2.1.wv d' A1 c1 A2 c2 Q.1 A3 c3 Q.2.1 ∧ Any wr (w.heap.size + 1) s.length) (fun i _ => s.length - (intOf i).toNat)
    case atStart => exact ⟨0, by omega, rfl, HF.out, HOU5.out.any⟩
    case round =>
      obtain ⟨j, hj, rfl, hb6, ha6⟩ := hrel
      have H6 := Lib.hid hb6
      have HA6 := Lib.hid ha6
      clear hb6 ha6 HF HOU5
      by_cases hlt : j < s.length
      · obtain ⟨k, t0, t1, t2, hset⟩ := HA6.out.step hlt
        have HSET := Lib.hid hset
        have hjl : (j : Int) < (s.length : Int) := by omega
        clear hset
        go_wp2_with fail
        go_roundw
        case rel => exact ⟨j + 1, by omega, by go_num, H6.out.setX (.inr rfl) (fun r hr => by simp at hr; subst hr; simp) j _, HSET.out _⟩
        case measure => simp [intOf]; omega
      · obtain rfl : j = s.length := by omega
        have HG := Lib.hid ((H6.out.lessX (Y := fun _ => False) (fun b hb => hb.elim)).few (L' := []) (fun r hr => by cases hr))
        clear H6
        go_wp2_with fail
        go_ret
        exact ⟨rfl, F1, A1, c1, A2, c2, A3, c3, HG.out⟩
end Go.Proofs.Ytlfigbgcackimaa

/- The law's both.does of kind 1 (written by gdo8.py). -/
namespace Go.Proofs.Ytlfigbgcackimaa
open Go.RowKit Go.Fm Go.Dk Go.Wl Go.Iv
set_option linter.unusedVariables false
set_option linter.unusedSimpArgs false
set_option linter.unnecessarySimpa false
set_option maxRecDepth 100000

set_option maxHeartbeats 16000000 in
theorem does1 (W w : World) (y g p : Nat) (F : Nat → Prop) (d : D) (AL : Option Addr) (cL : Nat) (AK : Option Addr) (cK : Nat) (r : Rf) (AV : Option Addr) (cV : Nat) (u : Rw) (x : Ac) (hk : x.kind = 1) (h : Yv W w [] (fun _ => False) y g (some p) F u.wv d AL cL AK cK r AV cV u) (o : Rok r) (hrel : Rel r d) (hlog : W64 u.log) (hul : u.ls.length ≤ 1000000) (hacts : d.acts + 1 ≤ 9223372036854775807)  :
    Calls Try.prog 15 #[ptr y, .agg (encA x).toArray] w fun e w' => e = .returned (.bool true) ∧ ∃ F' A1 c1 A2 c2 A3 c3, Yv W w' [] (fun _ => False) y g (some p) F' (u.act r 1 []).2.1.wv (u.wv.sync d).1 A1 c1 A2 c2 (u.act r 1 []).1 A3 c3 (u.act r 1 []).2.1 := by
  obtain ⟨e1, e2, -⟩ := rel_sync hrel u
  have HX := Lib.hid (h.alloc w.heap.size rfl 44 (encA x).toArray)
  have HSY := Lib.hid (fun (w' : World) (L : List Row) (hy : Yv W w' L (fun _ => False) y g (some p) F u.wv d AL cL AK cK r AV cV u) => wsync_any p g u.wv d F hlog hacts w' hy.wx)
  have HRA := Lib.hid (fun (w' : World) (G : Nat → Prop) (hm2 : IsM G w' AL cL AK cK r) (hw2 : IsW G w' AV cV u) => ract8_any w' r o u G AL cL AK cK AV cV hw2 hul 1 (w64 1 (by omega)) hlog 0 none 0 (fun _ => rfl) [] (Sees.nothing _ _ _ _) (Nat.zero_le _) (by simp) (fun l hl => by cases hl) (by simp [frames]) hm2)
  rw [e1, e2] at HSY
  simp only [List.length_nil] at HRA
  clear h o hrel e1 e2
  generalize u.act r 1 [] = Q at *
  generalize (u.wv.sync d).1 = d' at *
  obtain ⟨kd, n, s, A, cap, keep⟩ := x
  simp only at hk
  subst hk
  have hea : ∀ k, (encA ⟨k, n, s, A, cap, keep⟩).toArray = #[.int .i64 k, .int .i64 n, .string (txt s), .slice A keep.length cap] := fun k => rfl
  rw [hea] at HX ⊢
  clear hea
  unfold RActs vM vW at HRA
  have hw1 : Whole (w.alloc (.cells #[.int .i64 1, .int .i64 n, .string (txt s), .slice A keep.length cap] 44)) y 39 _ := HX.out.face
  have b0 := (HX.out.knows.at 0 rfl).cell 0
  have x1 : (w.alloc (.cells #[.int .i64 1, .int .i64 n, .string (txt s), .slice A keep.length cap] 44)).cell? ⟨y, 1, none⟩ = some (ptr p) := hw1.cell 1
  clear hw1
  go_enter Try.func15, Try.ntmps15
  go_wp2_with fail
  refine (HSY.out _ _ HX.out).mono ?_
  rintro e w1 ⟨rfl, hm⟩
  obtain ⟨F1, hy1⟩ := HX.out.went hm
  have HY := Lib.hid hy1
  clear hm hy1 HSY HX b0 x1
  go_wp2_with fail
  refine Iv.region (fun f aa z => ∃ A1 c1 A2 c2 A3 c3, aa = ⟨#[ptr y, Value.agg #[Value.int IntKind.i64 1, Value.int IntKind.i64 n, Value.string (txt s), Value.slice A keep.length cap], undef, Value.pointer (some { block := w.heap.size, off := 0 }), Value.bool false, Value.int IntKind.i64 Q.snd.snd, so (f 21) (.int .i64 Q.2.2) (.int .i64 0), undef, undef, Value.pointer (some { block := w.heap.size, off := 0 }), Value.int IntKind.i64 1, undef, undef, Value.bool false, Value.bool false, undef, undef, undef, undef, undef, undef, undef, undef, undef, undef, undef, undef, undef, undef, undef, undef, undef, undef, undef, undef, undef, undef, undef, undef, undef, undef, undef, undef, undef, undef, undef, undef, undef, undef, undef, undef, undef, undef, undef, undef, undef, undef, undef, Value.bool true, Value.bool true, ptr y, Value.pointer (some { block := y, off := 0 }), Value.pointer (some { block := y, off := 1 }), ptr p, Value.int IntKind.i64 Q.snd.snd, sl (f 11) (.tuple #[.agg #[.slice A1 Q.1.logs.length c1, .int .i64 Q.1.acts, .bool Q.1.off, .int .i64 Q.1.armed, .slice A2 Q.1.keep.length c2], .agg #[.int .i64 Q.2.1.log, .slice A3 Q.2.1.ls.length c3, .int .i64 Q.2.1.sure, .bool Q.2.1.dead], .int .i64 Q.2.2]), sl (f 0) (ptr y), sl (f 1) (ptr y), sl (f 2) (ptr y), sl (f 3) (.pointer (some ⟨y, 0, none⟩)), sl (f 4) (.pointer (some ⟨y, 2, none⟩)), sl (f 5) (.agg #[.slice AL r.logs.length cL, .int .i64 r.acts, .bool r.off, .int .i64 r.armed, .slice AK r.keep.length cK]), sl (f 6) (ptr y), sl (f 7) (.pointer (some ⟨y, 0, none⟩)), sl (f 8) (.pointer (some ⟨y, 7, none⟩)), sl (f 9) (.agg #[.int .i64 u.log, .slice AV u.ls.length cV, .int .i64 u.sure, .bool u.dead]), sl (f 10) (.tuple #[.agg #[.slice A1 Q.1.logs.length c1, .int .i64 Q.1.acts, .bool Q.1.off, .int .i64 Q.1.armed, .slice A2 Q.1.keep.length c2], .agg #[.int .i64 Q.2.1.log, .slice A3 Q.2.1.ls.length c3, .int .i64 Q.2.1.sure, .bool Q.2.1.dead], .int .i64 Q.2.2]), sl (f 12) (.agg #[.slice A1 Q.1.logs.length c1, .int .i64 Q.1.acts, .bool Q.1.off, .int .i64 Q.1.armed, .slice A2 Q.1.keep.length c2]), sl (f 13) (.agg #[.int .i64 Q.2.1.log, .slice A3 Q.2.1.ls.length c3, .int .i64 Q.2.1.sure, .bool Q.2.1.dead]), sl (f 14) (.int .i64 Q.2.2), sl (f 15) (.pointer (some ⟨y, 0, none⟩)), sl (f 16) (.pointer (some ⟨y, 2, none⟩)), sl (f 18) (.pointer (some ⟨y, 0, none⟩)), sl (f 19) (.pointer (some ⟨y, 7, none⟩)), undef, undef, undef, undef, undef, undef, undef, undef, undef, undef, undef, undef, undef, undef, undef, undef, undef, undef, undef, undef, undef, undef, undef, undef, undef, undef, undef, undef, undef, undef, undef, undef, undef, undef, undef, undef, undef, undef, undef, undef, undef, undef, undef, undef, undef, undef, undef, undef, undef, undef, undef, undef, undef, undef, undef, undef, undef, undef, undef, undef, undef, undef, undef, undef, undef, undef, undef, undef, undef, undef, undef, undef, undef, undef, undef, undef, undef, undef, undef, undef, undef, undef, undef, undef, undef, undef, undef, undef, undef, undef, undef, undef, undef, undef, undef, undef, undef, undef, undef, undef, undef, undef, undef, undef, undef, undef, undef, undef, undef, undef, undef, undef, undef, undef], []⟩ ∧ Sg W w1 [(w.heap.size, 44, #[.int .i64 1, .int .i64 n, .string (txt s), .slice A keep.length cap])] (fun _ => False) y g p F1 Q.2.1.wv d' AL cL AK cK r AV cV u Q.1 Q.2.1 A1 c1 A2 c2 A3 c3 (f 10) (f 17) (f 20) z ∧ (f 10 = true → f 5 = true ∧ f 9 = true) ∧ (f 10 = false → f 11 = false ∧ f 12 = false ∧ f 13 = false)) (by kernel_rfl) (by kernel_rfl) ?_ ?_ ?_
  · exact ⟨none, 0, none, 0, none, 0, rfl, Sg.start (HY.out.call (drew_below _ 1)) (fun b hx => (drew_below _ 1).block b (HY.out.mine b hx).1), (fun h => by cases h), fun _ => ⟨rfl, rfl, rfl⟩⟩
  · refine ⟨?_, ?_, ?_, ?_, ?_, ?_, ?_, ?_, ?_, ?_, ?_, ?_, ?_, ?_, ?_, ?_, ?_, ?_, ?_, ?_, ?_, ?_, trivial⟩
    · rintro f a0 z Q' ⟨A1, c1, A2, c2, A3, c3, rfl, hw⟩ hi hd hQ
      replace hQ := Lib.hid hQ
      simp [Iv.depsB, Region.binds] at hd
      try simp only [hi, hd, sl_true, sl_false, so_true, so_false]
      try simp only [hi, sl_true, sl_false, so_true, so_false]
      have HWW := Lib.hid hw
      clear hw
      go_wp2_with fail
      refine hQ.out _ _ ⟨A1, c1, A2, c2, A3, c3, ?_, ?_⟩
      · simp [Iv.upd, hi, hd, sl_true, sl_false, so_true, so_false]
      · simpa [Iv.upd, hi, hd] using HWW.out
    · rintro f a0 z Q' ⟨A1, c1, A2, c2, A3, c3, rfl, hw⟩ hi hd hQ
      replace hQ := Lib.hid hQ
      simp [Iv.depsB, Region.binds] at hd
      try simp only [hi, hd, sl_true, sl_false, so_true, so_false]
      try simp only [hi, sl_true, sl_false, so_true, so_false]
      have HWW := Lib.hid hw
      clear hw
      go_wp2_with fail
      refine hQ.out _ _ ⟨A1, c1, A2, c2, A3, c3, ?_, ?_⟩
      · simp [Iv.upd, hi, hd, sl_true, sl_false, so_true, so_false]
      · simpa [Iv.upd, hi, hd] using HWW.out
    · rintro f a0 z Q' ⟨A1, c1, A2, c2, A3, c3, rfl, hw⟩ hi hd hQ
      replace hQ := Lib.hid hQ
      simp [Iv.depsB, Region.binds] at hd
      try simp only [hi, hd, sl_true, sl_false, so_true, so_false]
      try simp only [hi, sl_true, sl_false, so_true, so_false]
      have HWW := Lib.hid hw
      clear hw
      go_wp2_with fail
      refine hQ.out _ _ ⟨A1, c1, A2, c2, A3, c3, ?_, ?_⟩
      · simp [Iv.upd, hi, hd, sl_true, sl_false, so_true, so_false]
      · simpa [Iv.upd, hi, hd] using HWW.out
    · rintro f a0 z Q' ⟨A1, c1, A2, c2, A3, c3, rfl, hw⟩ hi hd hQ
      replace hQ := Lib.hid hQ
      simp [Iv.depsB, Region.binds] at hd
      try simp only [hi, hd, sl_true, sl_false, so_true, so_false]
      try simp only [hi, sl_true, sl_false, so_true, so_false]
      have HWW := Lib.hid hw
      clear hw
      go_wp2_with fail
      refine hQ.out _ _ ⟨A1, c1, A2, c2, A3, c3, ?_, ?_⟩
      · simp [Iv.upd, hi, hd, sl_true, sl_false, so_true, so_false]
      · simpa [Iv.upd, hi, hd] using HWW.out
    · rintro f a0 z Q' ⟨A1, c1, A2, c2, A3, c3, rfl, hw⟩ hi hd hQ
      replace hQ := Lib.hid hQ
      simp [Iv.depsB, Region.binds] at hd
      try simp only [hi, hd, sl_true, sl_false, so_true, so_false]
      try simp only [hi, sl_true, sl_false, so_true, so_false]
      have HWW := Lib.hid hw
      clear hw
      go_wp2_with fail
      refine hQ.out _ _ ⟨A1, c1, A2, c2, A3, c3, ?_, ?_⟩
      · simp [Iv.upd, hi, hd, sl_true, sl_false, so_true, so_false]
      · simpa [Iv.upd, hi, hd] using HWW.out
    · rintro f a0 z Q' ⟨A1, c1, A2, c2, A3, c3, rfl, hw⟩ hi hd hQ
      replace hQ := Lib.hid hQ
      simp [Iv.depsB, Region.binds] at hd
      try simp only [hi, hd, sl_true, sl_false, so_true, so_false]
      try simp only [hi, sl_true, sl_false, so_true, so_false]
      have hc : f 10 = false := by
        cases e5 : f 10 with
        | false => rfl
        | true => have := hw.2.1 e5; simp [hi] at this
      obtain ⟨em, ev, hy⟩ := hw.1.zero hc
      obtain ⟨e11, e12, e13⟩ := hw.2.2 hc
      have HYY := Lib.hid hy
      have HSS := Lib.hid hw.1.same
      obtain ⟨⟨x0, x1⟩, ⟨x2, x3, x4, x5, x6⟩, ⟨x7, x8, x9, x10⟩, -⟩ := hy.cells
      clear hw hy
      go_wp2_with fail
      refine hQ.out _ _ ⟨A1, c1, A2, c2, A3, c3, ?_, ?_⟩
      · simp [Iv.upd, hi, hd, hc, em, ev, e11, e12, e13, sl_true, sl_false, so_true, so_false]
      · refine ⟨by simpa [Iv.upd, hi, hd, hc, em, ev] using Sg.start HYY.out HSS.out, by simp [Iv.upd, hi, hd, hc], by simp [Iv.upd, hi, hd, hc, e11, e12, e13]⟩
    · rintro f a0 z Q' ⟨A1, c1, A2, c2, A3, c3, rfl, hw⟩ hi hd hQ
      replace hQ := Lib.hid hQ
      simp [Iv.depsB, Region.binds] at hd
      try simp only [hi, hd, sl_true, sl_false, so_true, so_false]
      try simp only [hi, sl_true, sl_false, so_true, so_false]
      have HWW := Lib.hid hw
      clear hw
      go_wp2_with fail
      refine hQ.out _ _ ⟨A1, c1, A2, c2, A3, c3, ?_, ?_⟩
      · simp [Iv.upd, hi, hd, sl_true, sl_false, so_true, so_false]
      · simpa [Iv.upd, hi, hd] using HWW.out
    · rintro f a0 z Q' ⟨A1, c1, A2, c2, A3, c3, rfl, hw⟩ hi hd hQ
      replace hQ := Lib.hid hQ
      simp [Iv.depsB, Region.binds] at hd
      try simp only [hi, hd, sl_true, sl_false, so_true, so_false]
      try simp only [hi, sl_true, sl_false, so_true, so_false]
      have HWW := Lib.hid hw
      clear hw
      go_wp2_with fail
      refine hQ.out _ _ ⟨A1, c1, A2, c2, A3, c3, ?_, ?_⟩
      · simp [Iv.upd, hi, hd, sl_true, sl_false, so_true, so_false]
      · simpa [Iv.upd, hi, hd] using HWW.out
    · rintro f a0 z Q' ⟨A1, c1, A2, c2, A3, c3, rfl, hw⟩ hi hd hQ
      replace hQ := Lib.hid hQ
      simp [Iv.depsB, Region.binds] at hd
      try simp only [hi, hd, sl_true, sl_false, so_true, so_false]
      try simp only [hi, sl_true, sl_false, so_true, so_false]
      have HWW := Lib.hid hw
      clear hw
      go_wp2_with fail
      refine hQ.out _ _ ⟨A1, c1, A2, c2, A3, c3, ?_, ?_⟩
      · simp [Iv.upd, hi, hd, sl_true, sl_false, so_true, so_false]
      · simpa [Iv.upd, hi, hd] using HWW.out
    · rintro f a0 z Q' ⟨A1, c1, A2, c2, A3, c3, rfl, hw⟩ hi hd hQ
      replace hQ := Lib.hid hQ
      simp [Iv.depsB, Region.binds] at hd
      try simp only [hi, hd, sl_true, sl_false, so_true, so_false]
      try simp only [hi, sl_true, sl_false, so_true, so_false]
      have hc : f 10 = false := by
        cases e5 : f 10 with
        | false => rfl
        | true => have := hw.2.1 e5; simp [hi] at this
      obtain ⟨em, ev, hy⟩ := hw.1.zero hc
      obtain ⟨e11, e12, e13⟩ := hw.2.2 hc
      have HYY := Lib.hid hy
      have HSS := Lib.hid hw.1.same
      obtain ⟨⟨x0, x1⟩, ⟨x2, x3, x4, x5, x6⟩, ⟨x7, x8, x9, x10⟩, -⟩ := hy.cells
      clear hw hy
      go_wp2_with fail
      refine hQ.out _ _ ⟨A1, c1, A2, c2, A3, c3, ?_, ?_⟩
      · simp [Iv.upd, hi, hd, hc, em, ev, e11, e12, e13, sl_true, sl_false, so_true, so_false]
      · refine ⟨by simpa [Iv.upd, hi, hd, hc, em, ev] using Sg.start HYY.out HSS.out, by simp [Iv.upd, hi, hd, hc], by simp [Iv.upd, hi, hd, hc, e11, e12, e13]⟩
    · rintro f a0 z Q' ⟨A1, c1, A2, c2, A3, c3, rfl, hw⟩ hi hd hQ
      replace hQ := Lib.hid hQ
      simp [Iv.depsB, Region.binds] at hd
      try simp only [hi, hd, sl_true, sl_false, so_true, so_false]
      try simp only [hi, sl_true, sl_false, so_true, so_false]
      obtain ⟨em, ev, hy⟩ := hw.1.zero hi
      obtain ⟨e11, e12, e13⟩ := hw.2.2 hi
      have HYY := Lib.hid hy
      have HSS := Lib.hid hw.1.same
      have d5 : f 5 = true := by simp [hd]
      have d9 : f 9 = true := by simp [hd]
      clear hw hy
      try simp only [d5, d9, sl_true]
      have HCC := Lib.hid (HRA.out z _ HYY.out.disk HYY.out.list)
      go_wp2_with fail
      refine HCC.out.mono ?_
      rintro e z1 ⟨B1, e1, B2, e2, B3, e3, rfl, hb3, hmm, hww⟩
      have HO := Lib.hid (Sg.made HYY.out HSS.out hb3 hmm hww)
      clear hb3 hmm hww HCC HSS
      go_wp2_with fail
      refine hQ.out _ _ ⟨B1, e1, B2, e2, B3, e3, ?_, ?_⟩
      · simp [Iv.upd, hi, hd, em, ev, e11, e12, e13, d5, d9, sl_true, sl_false, so_true, so_false]
      · refine ⟨by simpa [Iv.upd, hi, hd, em, ev] using HO.out, by simp [Iv.upd, hd, d5, d9], by simp [Iv.upd]⟩
    · rintro f a0 z Q' ⟨A1, c1, A2, c2, A3, c3, rfl, hw⟩ hi hd hQ
      replace hQ := Lib.hid hQ
      simp [Iv.depsB, Region.binds] at hd
      try simp only [hi, hd, sl_true, sl_false, so_true, so_false]
      try simp only [hi, sl_true, sl_false, so_true, so_false]
      have HWW := Lib.hid hw
      clear hw
      go_wp2_with fail
      refine hQ.out _ _ ⟨A1, c1, A2, c2, A3, c3, ?_, ?_⟩
      · simp [Iv.upd, hi, hd, sl_true, sl_false, so_true, so_false]
      · simpa [Iv.upd, hi, hd] using HWW.out
    · rintro f a0 z Q' ⟨A1, c1, A2, c2, A3, c3, rfl, hw⟩ hi hd hQ
      replace hQ := Lib.hid hQ
      simp [Iv.depsB, Region.binds] at hd
      try simp only [hi, hd, sl_true, sl_false, so_true, so_false]
      try simp only [hi, sl_true, sl_false, so_true, so_false]
      have HWW := Lib.hid hw
      clear hw
      go_wp2_with fail
      refine hQ.out _ _ ⟨A1, c1, A2, c2, A3, c3, ?_, ?_⟩
      · simp [Iv.upd, hi, hd, sl_true, sl_false, so_true, so_false]
      · simpa [Iv.upd, hi, hd] using HWW.out
    · rintro f a0 z Q' ⟨A1, c1, A2, c2, A3, c3, rfl, hw⟩ hi hd hQ
      replace hQ := Lib.hid hQ
      simp [Iv.depsB, Region.binds] at hd
      try simp only [hi, hd, sl_true, sl_false, so_true, so_false]
      try simp only [hi, sl_true, sl_false, so_true, so_false]
      have HWW := Lib.hid hw
      clear hw
      go_wp2_with fail
      refine hQ.out _ _ ⟨A1, c1, A2, c2, A3, c3, ?_, ?_⟩
      · simp [Iv.upd, hi, hd, sl_true, sl_false, so_true, so_false]
      · simpa [Iv.upd, hi, hd] using HWW.out
    · rintro f a0 z Q' ⟨A1, c1, A2, c2, A3, c3, rfl, hw⟩ hi hd hQ
      replace hQ := Lib.hid hQ
      simp [Iv.depsB, Region.binds] at hd
      try simp only [hi, hd, sl_true, sl_false, so_true, so_false]
      try simp only [hi, sl_true, sl_false, so_true, so_false]
      have HWW := Lib.hid hw
      clear hw
      go_wp2_with fail
      refine hQ.out _ _ ⟨A1, c1, A2, c2, A3, c3, ?_, ?_⟩
      · simp [Iv.upd, hi, hd, sl_true, sl_false, so_true, so_false]
      · simpa [Iv.upd, hi, hd] using HWW.out
    · rintro f a0 z Q' ⟨A1, c1, A2, c2, A3, c3, rfl, hw⟩ hi hd hQ
      replace hQ := Lib.hid hQ
      simp [Iv.depsB, Region.binds] at hd
      try simp only [hi, hd, sl_true, sl_false, so_true, so_false]
      try simp only [hi, sl_true, sl_false, so_true, so_false]
      have HWW := Lib.hid hw
      clear hw
      go_wp2_with fail
      refine hQ.out _ _ ⟨A1, c1, A2, c2, A3, c3, ?_, ?_⟩
      · simp [Iv.upd, hi, hd, sl_true, sl_false, so_true, so_false]
      · simpa [Iv.upd, hi, hd] using HWW.out
    · rintro f a0 z Q' ⟨A1, c1, A2, c2, A3, c3, rfl, hw⟩ hi hd hQ
      replace hQ := Lib.hid hQ
      simp [Iv.depsB, Region.binds] at hd
      try simp only [hi, hd, sl_true, sl_false, so_true, so_false]
      try simp only [hi, sl_true, sl_false, so_true, so_false]
      have HWW := Lib.hid hw
      clear hw
      go_wp2_with fail
      refine hQ.out _ _ ⟨A1, c1, A2, c2, A3, c3, ?_, ?_⟩
      · simp [Iv.upd, hi, hd, sl_true, sl_false, so_true, so_false]
      · simpa [Iv.upd, hi, hd] using HWW.out
    · rintro f a0 z Q' ⟨A1, c1, A2, c2, A3, c3, rfl, hw⟩ hi hd hQ
      replace hQ := Lib.hid hQ
      simp [Iv.depsB, Region.binds] at hd
      try simp only [hi, hd, sl_true, sl_false, so_true, so_false]
      try simp only [hi, sl_true, sl_false, so_true, so_false]
      have dc : f 10 = true := by simp [hd]
      have dm : f 12 = true := by simp [hd]
      have da : f 16 = true := by simp [hd]
      obtain ⟨ev, hy, -, -⟩ := hw.1.one dc hi
      have hsg := hw.1
      rw [dc, hi, ev] at hsg
      have HO := Lib.hid hsg.setM
      obtain ⟨dl5, dl9⟩ := hw.2.1 dc
      obtain ⟨⟨x0, x1⟩, ⟨x2, x3, x4, x5, x6⟩, -, ⟨y2, y3, y4, y5, y6⟩, -⟩ := hy.cells
      clear hw hy hsg
      try simp only [dm, da, sl_true]
      go_wp2_with fail
      refine hQ.out _ _ ⟨A1, c1, A2, c2, A3, c3, ?_, ?_⟩
      · simp [Iv.upd, hi, hd, dc, dm, da, ev, sl_true, sl_false, so_true, so_false]
      · refine ⟨by simpa [Iv.upd, hi, dc, ev] using HO.out, by simp [Iv.upd, dl5, dl9], by simp [Iv.upd, dc]⟩
    · rintro f a0 z Q' ⟨A1, c1, A2, c2, A3, c3, rfl, hw⟩ hi hd hQ
      replace hQ := Lib.hid hQ
      simp [Iv.depsB, Region.binds] at hd
      try simp only [hi, hd, sl_true, sl_false, so_true, so_false]
      try simp only [hi, sl_true, sl_false, so_true, so_false]
      have HWW := Lib.hid hw
      clear hw
      go_wp2_with fail
      refine hQ.out _ _ ⟨A1, c1, A2, c2, A3, c3, ?_, ?_⟩
      · simp [Iv.upd, hi, hd, sl_true, sl_false, so_true, so_false]
      · simpa [Iv.upd, hi, hd] using HWW.out
    · rintro f a0 z Q' ⟨A1, c1, A2, c2, A3, c3, rfl, hw⟩ hi hd hQ
      replace hQ := Lib.hid hQ
      simp [Iv.depsB, Region.binds] at hd
      try simp only [hi, hd, sl_true, sl_false, so_true, so_false]
      try simp only [hi, sl_true, sl_false, so_true, so_false]
      have HWW := Lib.hid hw
      clear hw
      go_wp2_with fail
      refine hQ.out _ _ ⟨A1, c1, A2, c2, A3, c3, ?_, ?_⟩
      · simp [Iv.upd, hi, hd, sl_true, sl_false, so_true, so_false]
      · simpa [Iv.upd, hi, hd] using HWW.out
    · rintro f a0 z Q' ⟨A1, c1, A2, c2, A3, c3, rfl, hw⟩ hi hd hQ
      replace hQ := Lib.hid hQ
      simp [Iv.depsB, Region.binds] at hd
      try simp only [hi, hd, sl_true, sl_false, so_true, so_false]
      try simp only [hi, sl_true, sl_false, so_true, so_false]
      have dm : f 17 = true := by simp [hd]
      have dv : f 13 = true := by simp [hd]
      have da : f 19 = true := by simp [hd]
      obtain ⟨hy, -⟩ := hw.1.two dm hi
      have dc : f 10 = true := hw.1.ord dm
      have hsg := hw.1
      rw [dc, hi, dm] at hsg
      have HO := Lib.hid hsg.setV
      obtain ⟨dl5, dl9⟩ := hw.2.1 dc
      obtain ⟨⟨x0, x1⟩, -, ⟨x7, x8, x9, x10⟩, -, ⟨y7, y8, y9, y10⟩⟩ := hy.cells
      clear hw hy hsg
      try simp only [dv, da, sl_true]
      go_wp2_with fail
      refine hQ.out _ _ ⟨A1, c1, A2, c2, A3, c3, ?_, ?_⟩
      · simp [Iv.upd, hi, hd, dc, dm, dv, da, sl_true, sl_false, so_true, so_false]
      · refine ⟨by simpa [Iv.upd, hi, dc, dm] using HO.out, by simp [Iv.upd, dl5, dl9], by simp [Iv.upd, dc]⟩
    · rintro f a0 z Q' ⟨A1, c1, A2, c2, A3, c3, rfl, hw⟩ hi hd hQ
      replace hQ := Lib.hid hQ
      simp [Iv.depsB, Region.binds] at hd
      try simp only [hi, hd, sl_true, sl_false, so_true, so_false]
      try simp only [hi, sl_true, sl_false, so_true, so_false]
      have HWW := Lib.hid hw
      clear hw
      go_wp2_with fail
      refine hQ.out _ _ ⟨A1, c1, A2, c2, A3, c3, ?_, ?_⟩
      · simp [Iv.upd, hi, hd, sl_true, sl_false, so_true, so_false]
      · simpa [Iv.upd, hi, hd] using HWW.out
  · rintro f a0 z ⟨A1, c1, A2, c2, A3, c3, rfl, hw⟩ hall
    simp only [hall 0 (by decide), hall 1 (by decide), hall 2 (by decide), hall 3 (by decide), hall 4 (by decide), hall 5 (by decide), hall 6 (by decide), hall 7 (by decide), hall 8 (by decide), hall 9 (by decide), hall 10 (by decide), hall 11 (by decide), hall 12 (by decide), hall 13 (by decide), hall 14 (by decide), hall 15 (by decide), hall 16 (by decide), hall 17 (by decide), hall 18 (by decide), hall 19 (by decide), hall 20 (by decide), hall 21 (by decide), sl_true, ↓reduceIte, so_true, so_false] at hw ⊢
    clear hall
    have HF := Lib.hid ((hw.1.three rfl).2.few (L' := []) (fun r hr => by cases hr))
    clear hw
    go_wp2_with fail
    go_ret
    exact ⟨rfl, F1, A1, c1, A2, c2, A3, c3, HF.out⟩
end Go.Proofs.Ytlfigbgcackimaa

/- The law's both.does of kind 2 (written by gdo8.py). -/
namespace Go.Proofs.Ytlfigbgcackimaa
open Go.RowKit Go.Fm Go.Dk Go.Wl Go.Iv
set_option linter.unusedVariables false
set_option linter.unusedSimpArgs false
set_option linter.unnecessarySimpa false
set_option maxRecDepth 100000

set_option maxHeartbeats 16000000 in
theorem does2 (W w : World) (y g p : Nat) (F : Nat → Prop) (d : D) (AL : Option Addr) (cL : Nat) (AK : Option Addr) (cK : Nat) (r : Rf) (AV : Option Addr) (cV : Nat) (u : Rw) (x : Ac) (hk : x.kind = 2) (h : Yv W w [] (fun _ => False) y g (some p) F u.wv d AL cL AK cK r AV cV u) (o : Rok r) (hrel : Rel r d) (hlog : W64 u.log) (hul : u.ls.length ≤ 1000000) (hacts : d.acts + 1 ≤ 9223372036854775807) (hga : GA W x) (hs : x.s.length ≤ 1000) (hkl : x.keep.length ≤ 1000) :
    Calls Try.prog 15 #[ptr y, .agg (encA x).toArray] w fun e w' => e = .returned (.bool true) ∧ ∃ F' A1 c1 A2 c2 A3 c3, Yv W w' [] (fun _ => False) y g (some p) F' (u.act r 2 x.loads).2.1.wv (u.wv.fresh d x.loads).1 A1 c1 A2 c2 (u.act r 2 x.loads).1 A3 c3 (u.act r 2 x.loads).2.1 := by
  obtain ⟨e1, e2, -⟩ := rel_fresh hrel u x.loads
  have hsh := x.loads_short hs
  have hfr : (frames x.loads).length ≤ 4194304 := by have := frames_short x.loads hsh; rw [x.loads_len] at this; omega
  have HX := Lib.hid (h.alloc w.heap.size rfl 44 (encA x).toArray)
  have HFR := Lib.hid (fun (z : World) (hb : Below W.heap.size W z) => fresh8_any W x hga (by omega) hkl z hb)
  have HBY := Lib.hid (fun (z : World) (A : Option Addr) (cap : Nat) (hse : Sees z z.heap.size 1 A x.keep.length (strs x.loads)) => bytes8_any z.heap.size A cap x.loads z (by rw [x.loads_len]; exact hse) (Nat.le_refl _) (by rw [x.loads_len]; omega) (fun l hl => by have := hsh l hl; omega))
  have HFW := Lib.hid (fun (w' : World) (L : List Row) (hy : Yv W w' L (fun _ => False) y g (some p) F u.wv d AL cL AK cK r AV cV u) (A : Option Addr) (cap : Nat) (hsl : ShowsL w' w'.heap.size A x.loads) (hn : ∀ (b off k : Nat) l a c, A = some ⟨b, off, none⟩ → x.loads[k]? = some l → w'.cell? ⟨b, off + k, none⟩ = some (.slice a l.length c) → a = none → c = 0) => wfresh_any p g u.wv d F hlog w'.heap.size A cap x.loads hacts w' hy.wx hsl (Nat.le_refl _) (by rw [x.loads_len]; omega) hn)
  have HRA := Lib.hid (fun (w' : World) (A : Option Addr) (cap : Nat) (hnil : A = none → cap = 0) (hse : Sees w' w'.heap.size 1 A x.loads.length (strs x.loads)) (G : Nat → Prop) (hm2 : IsM G w' AL cL AK cK r) (hw2 : IsW G w' AV cV u) => ract8_any w' r o u G AL cL AK cK AV cV hw2 hul 2 (w64 2 (by omega)) hlog w'.heap.size A cap hnil x.loads hse (Nat.le_refl _) (by rw [x.loads_len]; exact hkl) (fun l hl => by have := hsh l hl; omega) hfr hm2)
  rw [e1, e2] at HFW
  simp only [Ac.loads_len] at HBY HFW HRA
  clear h o hrel e1 e2 hs hkl hsh hfr hga
  generalize u.act r 2 x.loads = Q at *
  generalize (u.wv.fresh d x.loads).1 = d' at *
  generalize x.loads = ls at *
  obtain ⟨kd, n, s, A, cap, keep⟩ := x
  simp only at hk HBY HFW HRA HFR
  subst hk
  have hea : ∀ k, (encA ⟨k, n, s, A, cap, keep⟩).toArray = #[.int .i64 k, .int .i64 n, .string (txt s), .slice A keep.length cap] := fun k => rfl
  rw [hea] at HX HFR ⊢
  clear hea
  unfold RActs vM vW at HRA
  have hw1 : Whole (w.alloc (.cells #[.int .i64 2, .int .i64 n, .string (txt s), .slice A keep.length cap] 44)) y 39 _ := HX.out.face
  have b0 := (HX.out.knows.at 0 rfl).cell 0
  clear hw1
  go_enter Try.func15, Try.ntmps15
  go_wp2_with fail
  refine Iv.region (fun f aa z => ∃ a7 c7 a8 c8, aa = ⟨#[ptr y, Value.agg #[Value.int IntKind.i64 2, Value.int IntKind.i64 n, Value.string (txt s), Value.slice A keep.length cap], undef, Value.pointer (some { block := w.heap.size, off := 0 }), Value.bool false, so (f 8) (.int .i64 Q.2.2) (.int .i64 0), Value.int IntKind.i64 0, undef, undef, Value.pointer (some { block := w.heap.size, off := 0 }), Value.int IntKind.i64 2, undef, undef, Value.bool false, Value.bool false, undef, undef, undef, undef, undef, undef, undef, undef, undef, undef, undef, undef, undef, undef, undef, undef, undef, undef, undef, undef, undef, undef, undef, undef, undef, undef, undef, undef, undef, undef, undef, undef, undef, undef, undef, undef, undef, undef, undef, undef, undef, undef, undef, Value.bool false, Value.bool false, undef, undef, undef, undef, undef, undef, undef, undef, undef, undef, undef, undef, undef, undef, undef, undef, undef, undef, undef, undef, undef, undef, undef, undef, Value.bool true, Value.bool true, sl (f 0) (ptr y), sl (f 1) (.pointer (some ⟨y, 0, none⟩)), sl (f 2) (.pointer (some ⟨y, 1, none⟩)), sl (f 3) (ptr p), sl (f 4) (.agg #[.int .i64 2, .int .i64 n, .string (txt s), .slice A keep.length cap]), sl (f 5) (.slice a7 keep.length c7), sl (f 6) (.slice a8 keep.length c8), sl (f 7) (.int .i64 Q.2.2), undef, undef, undef, undef, undef, undef, undef, undef, undef, undef, undef, undef, undef, undef, undef, undef, undef, undef, undef, undef, undef, undef, undef, undef, undef, undef, undef, undef, undef, undef, undef, undef, undef, undef, undef, undef, undef, undef, undef, undef, undef, undef, undef, undef, undef, undef, undef, undef, undef, undef, undef, undef, undef, undef, undef, undef, undef, undef, undef, undef, undef, undef, undef, undef, undef, undef, undef, undef, undef, undef, undef, undef, undef, undef, undef, undef, undef, undef, undef, undef, undef, undef, undef, undef, undef, undef, undef, undef, undef, undef, undef, undef, undef, undef, undef, undef, undef, undef, undef, undef, undef, undef, undef, undef], []⟩ ∧ (f 7 = false → Yv W z [(w.heap.size, 44, #[.int .i64 2, .int .i64 n, .string (txt s), .slice A keep.length cap])] (fun _ => False) y g (some p) F u.wv d AL cL AK cK r AV cV u) ∧ (f 5 = true → f 6 = false → Sees z z.heap.size 1 a7 keep.length (strs ls)) ∧ (f 6 = true → f 7 = false → ShowsL z z.heap.size a8 ls ∧ ∀ (b off k : Nat) l a c, a8 = some ⟨b, off, none⟩ → ls[k]? = some l → z.cell? ⟨b, off + k, none⟩ = some (.slice a l.length c) → a = none → c = 0) ∧ (f 7 = true → ∃ F1, Yv W z [(w.heap.size, 44, #[.int .i64 2, .int .i64 n, .string (txt s), .slice A keep.length cap])] (fun _ => False) y g (some p) F1 Q.2.1.wv d' AL cL AK cK r AV cV u) ∧ (f 5 = true → f 4 = true) ∧ (f 6 = true → f 5 = true) ∧ (f 7 = true → f 6 = true ∧ f 3 = true)) (by kernel_rfl) (by kernel_rfl) ?_ ?_ ?_
  · exact ⟨none, 0, none, 0, rfl, (fun _ => HX.out.call (drew_below _ 1)), (fun h => by cases h), (fun h => by cases h), (fun h => by cases h), (fun h => by cases h), (fun h => by cases h), fun h => by cases h⟩
  · refine ⟨?_, ?_, ?_, ?_, ?_, ?_, ?_, ?_, ?_, trivial⟩
    · rintro f a0 z Q' ⟨a7, c7, a8, c8, rfl, hw⟩ hi hd hQ
      replace hQ := Lib.hid hQ
      simp [Iv.depsB, Region.binds] at hd
      try simp only [hi, hd, sl_true, sl_false, so_true, so_false]
      try simp only [hi, sl_true, sl_false, so_true, so_false]
      have HWW := Lib.hid hw
      clear hw
      go_wp2_with fail
      refine hQ.out _ _ ⟨a7, c7, a8, c8, ?_, ?_⟩
      · simp [Iv.upd, hi, hd, sl_true, sl_false, so_true, so_false]
      · simpa [Iv.upd, hi, hd] using HWW.out
    · rintro f a0 z Q' ⟨a7, c7, a8, c8, rfl, hw⟩ hi hd hQ
      replace hQ := Lib.hid hQ
      simp [Iv.depsB, Region.binds] at hd
      try simp only [hi, hd, sl_true, sl_false, so_true, so_false]
      try simp only [hi, sl_true, sl_false, so_true, so_false]
      have HWW := Lib.hid hw
      clear hw
      go_wp2_with fail
      refine hQ.out _ _ ⟨a7, c7, a8, c8, ?_, ?_⟩
      · simp [Iv.upd, hi, hd, sl_true, sl_false, so_true, so_false]
      · simpa [Iv.upd, hi, hd] using HWW.out
    · rintro f a0 z Q' ⟨a7, c7, a8, c8, rfl, hw⟩ hi hd hQ
      replace hQ := Lib.hid hQ
      simp [Iv.depsB, Region.binds] at hd
      try simp only [hi, hd, sl_true, sl_false, so_true, so_false]
      try simp only [hi, sl_true, sl_false, so_true, so_false]
      have HWW := Lib.hid hw
      clear hw
      go_wp2_with fail
      refine hQ.out _ _ ⟨a7, c7, a8, c8, ?_, ?_⟩
      · simp [Iv.upd, hi, hd, sl_true, sl_false, so_true, so_false]
      · simpa [Iv.upd, hi, hd] using HWW.out
    · rintro f a0 z Q' ⟨a7, c7, a8, c8, rfl, hw⟩ hi hd hQ
      replace hQ := Lib.hid hQ
      simp [Iv.depsB, Region.binds] at hd
      try simp only [hi, hd, sl_true, sl_false, so_true, so_false]
      try simp only [hi, sl_true, sl_false, so_true, so_false]
      have h7 : f 7 = false := by
        cases e5 : f 7 with
        | false => rfl
        | true => exact absurd ((hw.2.2.2.2.2.2 e5).2) (by simp [hi])
      have x1 : z.cell? ⟨y, 1, none⟩ = some (ptr p) := (hw.1 h7).cells.1.2
      have HWW := Lib.hid hw
      clear hw
      go_wp2_with fail
      refine hQ.out _ _ ⟨a7, c7, a8, c8, ?_, ?_⟩
      · simp [Iv.upd, hi, hd, h7, sl_true, sl_false, so_true, so_false]
      · simpa [Iv.upd, hi, hd, h7] using HWW.out
    · rintro f a0 z Q' ⟨a7, c7, a8, c8, rfl, hw⟩ hi hd hQ
      replace hQ := Lib.hid hQ
      simp [Iv.depsB, Region.binds] at hd
      try simp only [hi, hd, sl_true, sl_false, so_true, so_false]
      try simp only [hi, sl_true, sl_false, so_true, so_false]
      have h7 : f 7 = false := by
        cases e5 : f 7 with
        | false => rfl
        | true => exact absurd (hw.2.2.2.2.1 (hw.2.2.2.2.2.1 (hw.2.2.2.2.2.2 e5).1)) (by simp [hi])
      have hkw := (hw.1 h7).knows.at 0 rfl
      have b0 := hkw.cell 0
      have b1 := hkw.cell 1
      have b2 := hkw.cell 2
      have b3 := hkw.cell 3
      have HWW := Lib.hid hw
      clear hw
      go_wp2_with fail
      refine hQ.out _ _ ⟨a7, c7, a8, c8, ?_, ?_⟩
      · simp [Iv.upd, hi, hd, h7, sl_true, sl_false, so_true, so_false]
      · exact ⟨by simpa [Iv.upd] using HWW.out.1, by simpa [Iv.upd] using HWW.out.2.1, by simpa [Iv.upd] using HWW.out.2.2.1, by simpa [Iv.upd] using HWW.out.2.2.2.1, fun _ => by simp [Iv.upd], by simpa [Iv.upd] using HWW.out.2.2.2.2.2.1, by simpa [Iv.upd] using HWW.out.2.2.2.2.2.2⟩
    · rintro f a0 z Q' ⟨a7, c7, a8, c8, rfl, hw⟩ hi hd hQ
      replace hQ := Lib.hid hQ
      simp [Iv.depsB, Region.binds] at hd
      try simp only [hi, hd, sl_true, sl_false, so_true, so_false]
      try simp only [hi, sl_true, sl_false, so_true, so_false]
      have h6 : f 6 = false := by
        cases e5 : f 6 with
        | false => rfl
        | true => exact absurd (hw.2.2.2.2.2.1 e5) (by simp [hi])
      have h7 : f 7 = false := by
        cases e5 : f 7 with
        | false => rfl
        | true => have := (hw.2.2.2.2.2.2 e5).1; simp [h6] at this
      have d4 : f 4 = true := by simp [hd]
      have HYY := Lib.hid (hw.1 h7)
      have HC := Lib.hid hw.2.2.2.2
      clear hw
      try simp only [d4, sl_true]
      have HCF := Lib.hid (HFR.out z HYY.out.below)
      go_wp2_with fail
      refine HCF.out.mono ?_
      rintro e z1 ⟨a2, c2, rfl, hb3, hse, hnl⟩
      have HSE := Lib.hid hse
      have HY2 := Lib.hid (HYY.out.call hb3)
      clear hb3 hse hnl HCF
      go_wp2_with fail
      refine hQ.out _ _ ⟨a2, c2, a8, c8, ?_, ?_⟩
      · simp [Iv.upd, hi, hd, h6, h7, d4, sl_true, sl_false, so_true, so_false]
      · exact ⟨fun _ => HY2.out, fun _ _ => HSE.out, (fun e => by simp [Iv.upd, h6] at e), (fun e => by simp [Iv.upd, h7] at e), (fun _ => by simp [Iv.upd, d4]), (fun e => by simp [Iv.upd]), fun e => by simp [Iv.upd, h7] at e⟩
    · rintro f a0 z Q' ⟨a7, c7, a8, c8, rfl, hw⟩ hi hd hQ
      replace hQ := Lib.hid hQ
      simp [Iv.depsB, Region.binds] at hd
      try simp only [hi, hd, sl_true, sl_false, so_true, so_false]
      try simp only [hi, sl_true, sl_false, so_true, so_false]
      have h7 : f 7 = false := by
        cases e5 : f 7 with
        | false => rfl
        | true => have := (hw.2.2.2.2.2.2 e5).1; simp [hi] at this
      have d5 : f 5 = true := by simp [hd]
      have HYY := Lib.hid (hw.1 h7)
      have HC := Lib.hid hw.2.2.2.2.1
      have HSE := Lib.hid (hw.2.1 d5 hi)
      clear hw
      try simp only [d5, sl_true]
      have HCF := Lib.hid (HBY.out z a7 c7 HSE.out)
      go_wp2_with fail
      refine HCF.out.mono ?_
      rintro e z1 ⟨a2, c2, rfl, hb3, hsl, hnn⟩
      have HSL := Lib.hid hsl
      have HNN := Lib.hid hnn
      have HY2 := Lib.hid (HYY.out.call hb3)
      clear hb3 hsl hnn HCF HSE
      go_wp2_with fail
      refine hQ.out _ _ ⟨a7, c7, a2, c2, ?_, ?_⟩
      · simp [Iv.upd, hi, hd, h7, d5, sl_true, sl_false, so_true, so_false]
      · exact ⟨fun _ => HY2.out, (fun _ e => by simp [Iv.upd] at e), fun _ _ => ⟨HSL.out, HNN.out⟩, (fun e => by simp [Iv.upd, h7] at e), (fun _ => by simpa [Iv.upd] using HC.out d5), (fun e => by simp [Iv.upd, d5]), fun e => by simp [Iv.upd, h7] at e⟩
    · rintro f a0 z Q' ⟨a7, c7, a8, c8, rfl, hw⟩ hi hd hQ
      replace hQ := Lib.hid hQ
      simp [Iv.depsB, Region.binds] at hd
      try simp only [hi, hd, sl_true, sl_false, so_true, so_false]
      try simp only [hi, sl_true, sl_false, so_true, so_false]
      have d3 : f 3 = true := by simp [hd]
      have d6 : f 6 = true := by simp [hd]
      have HYY := Lib.hid (hw.1 hi)
      have HC := Lib.hid hw.2.2.2.2.1
      have HC2 := Lib.hid hw.2.2.2.2.2.1
      have HSE := Lib.hid (hw.2.2.1 d6 hi)
      clear hw
      try simp only [d3, d6, sl_true]
      have HCF := Lib.hid (HFW.out z _ HYY.out a8 c8 HSE.out.1 HSE.out.2)
      go_wp2_with fail
      refine HCF.out.mono ?_
      rintro e z1 ⟨rfl, hm⟩
      obtain ⟨F1, hy1⟩ := HYY.out.went hm
      have HY2 := Lib.hid hy1
      clear hm hy1 HCF HSE
      go_wp2_with fail
      refine hQ.out _ _ ⟨a7, c7, a8, c8, ?_, ?_⟩
      · simp [Iv.upd, hi, hd, d3, d6, sl_true, sl_false, so_true, so_false]
      · exact ⟨(fun e => by simp [Iv.upd] at e), (fun _ e => by simp [Iv.upd, d6] at e), (fun _ e => by simp [Iv.upd] at e), fun _ => ⟨F1, HY2.out⟩, (fun e => by have := HC.out (by simpa [Iv.upd] using e); simpa [Iv.upd] using this), (fun e => by have := HC2.out (by simpa [Iv.upd] using e); simpa [Iv.upd] using this), fun _ => by simp [Iv.upd, d3, d6]⟩
    · rintro f a0 z Q' ⟨a7, c7, a8, c8, rfl, hw⟩ hi hd hQ
      replace hQ := Lib.hid hQ
      simp [Iv.depsB, Region.binds] at hd
      try simp only [hi, hd, sl_true, sl_false, so_true, so_false]
      try simp only [hi, sl_true, sl_false, so_true, so_false]
      have HWW := Lib.hid hw
      clear hw
      go_wp2_with fail
      refine hQ.out _ _ ⟨a7, c7, a8, c8, ?_, ?_⟩
      · simp [Iv.upd, hi, hd, sl_true, sl_false, so_true, so_false]
      · simpa [Iv.upd, hi, hd] using HWW.out
  · rintro f a0 w3 ⟨a7, c7, a8, c8, rfl, hw⟩ hall
    simp only [hall 0 (by decide), hall 1 (by decide), hall 2 (by decide), hall 3 (by decide), hall 4 (by decide), hall 5 (by decide), hall 6 (by decide), hall 7 (by decide), hall 8 (by decide), sl_true, ↓reduceIte, so_true, so_false] at hw ⊢
    clear hall
    obtain ⟨F1, hy1⟩ := hw.2.2.2.1 trivial
    have HY := Lib.hid hy1
    clear hw hy1 HFW HBY HX b0
    go_wp2_with fail
    refine Iv.region (fun f aa z => ∃ A1 c1 A2 c2 A3 c3 a5 c5, aa = ⟨#[ptr y, Value.agg #[Value.int IntKind.i64 2, Value.int IntKind.i64 n, Value.string (txt s), Value.slice A keep.length cap], undef, Value.pointer (some { block := w.heap.size, off := 0 }), Value.bool false, Value.int IntKind.i64 Q.snd.snd, so (f 23) (.int .i64 Q.2.2) (.int .i64 0), undef, undef, Value.pointer (some { block := w.heap.size, off := 0 }), Value.int IntKind.i64 2, undef, undef, Value.bool false, Value.bool false, undef, undef, undef, undef, undef, undef, undef, undef, undef, undef, undef, undef, undef, undef, undef, undef, undef, undef, undef, undef, undef, undef, undef, undef, undef, undef, undef, undef, undef, undef, undef, undef, undef, undef, undef, undef, undef, undef, undef, undef, undef, undef, undef, Value.bool false, Value.bool false, undef, undef, undef, undef, undef, undef, undef, undef, undef, undef, undef, undef, undef, undef, undef, undef, undef, undef, undef, undef, undef, undef, undef, undef, Value.bool true, Value.bool true, ptr y, Value.pointer (some { block := y, off := 0 }), Value.pointer (some { block := y, off := 1 }), ptr p, Value.agg #[Value.int IntKind.i64 2, Value.int IntKind.i64 n, Value.string (txt s), Value.slice A keep.length cap], Value.slice a7 keep.length c7, Value.slice a8 keep.length c8, Value.int IntKind.i64 Q.snd.snd, sl (f 13) (.tuple #[.agg #[.slice A1 Q.1.logs.length c1, .int .i64 Q.1.acts, .bool Q.1.off, .int .i64 Q.1.armed, .slice A2 Q.1.keep.length c2], .agg #[.int .i64 Q.2.1.log, .slice A3 Q.2.1.ls.length c3, .int .i64 Q.2.1.sure, .bool Q.2.1.dead], .int .i64 Q.2.2]), sl (f 0) (ptr y), sl (f 1) (ptr y), sl (f 2) (ptr y), sl (f 3) (.pointer (some ⟨y, 0, none⟩)), sl (f 4) (.pointer (some ⟨y, 2, none⟩)), sl (f 5) (.agg #[.slice AL r.logs.length cL, .int .i64 r.acts, .bool r.off, .int .i64 r.armed, .slice AK r.keep.length cK]), sl (f 6) (ptr y), sl (f 7) (.pointer (some ⟨y, 0, none⟩)), sl (f 8) (.pointer (some ⟨y, 7, none⟩)), sl (f 9) (.agg #[.int .i64 u.log, .slice AV u.ls.length cV, .int .i64 u.sure, .bool u.dead]), sl (f 10) (.agg #[.int .i64 2, .int .i64 n, .string (txt s), .slice A keep.length cap]), sl (f 11) (.slice a5 keep.length c5), sl (f 12) (.tuple #[.agg #[.slice A1 Q.1.logs.length c1, .int .i64 Q.1.acts, .bool Q.1.off, .int .i64 Q.1.armed, .slice A2 Q.1.keep.length c2], .agg #[.int .i64 Q.2.1.log, .slice A3 Q.2.1.ls.length c3, .int .i64 Q.2.1.sure, .bool Q.2.1.dead], .int .i64 Q.2.2]), sl (f 14) (.agg #[.slice A1 Q.1.logs.length c1, .int .i64 Q.1.acts, .bool Q.1.off, .int .i64 Q.1.armed, .slice A2 Q.1.keep.length c2]), sl (f 15) (.agg #[.int .i64 Q.2.1.log, .slice A3 Q.2.1.ls.length c3, .int .i64 Q.2.1.sure, .bool Q.2.1.dead]), sl (f 16) (.int .i64 Q.2.2), sl (f 17) (.pointer (some ⟨y, 0, none⟩)), sl (f 18) (.pointer (some ⟨y, 2, none⟩)), sl (f 20) (.pointer (some ⟨y, 0, none⟩)), sl (f 21) (.pointer (some ⟨y, 7, none⟩)), undef, undef, undef, undef, undef, undef, undef, undef, undef, undef, undef, undef, undef, undef, undef, undef, undef, undef, undef, undef, undef, undef, undef, undef, undef, undef, undef, undef, undef, undef, undef, undef, undef, undef, undef, undef, undef, undef, undef, undef, undef, undef, undef, undef, undef, undef, undef, undef, undef, undef, undef, undef, undef, undef, undef, undef, undef, undef, undef, undef, undef, undef, undef, undef, undef, undef, undef, undef, undef, undef, undef, undef, undef, undef, undef, undef, undef, undef, undef, undef, undef, undef, undef], []⟩ ∧ Sg W w3 [(w.heap.size, 44, #[.int .i64 2, .int .i64 n, .string (txt s), .slice A keep.length cap])] (fun _ => False) y g p F1 Q.2.1.wv d' AL cL AK cK r AV cV u Q.1 Q.2.1 A1 c1 A2 c2 A3 c3 (f 12) (f 19) (f 22) z ∧ (f 12 = true → f 5 = true ∧ f 9 = true ∧ f 11 = true) ∧ (f 12 = false → f 13 = false ∧ f 14 = false ∧ f 15 = false) ∧ (f 11 = true → f 12 = false → Sees z z.heap.size 1 a5 keep.length (strs ls) ∧ (a5 = none → c5 = 0)) ∧ (f 11 = true → f 10 = true)) (by kernel_rfl) (by kernel_rfl) ?_ ?_ ?_
    · exact ⟨none, 0, none, 0, none, 0, none, 0, rfl, Sg.start (HY.out.call (drew_below _ 1)) (fun b hx => (drew_below _ 1).block b (HY.out.mine b hx).1), (fun h => by cases h), fun _ => ⟨rfl, rfl, rfl⟩, (fun h => by cases h), fun h => by cases h⟩
    · refine ⟨?_, ?_, ?_, ?_, ?_, ?_, ?_, ?_, ?_, ?_, ?_, ?_, ?_, ?_, ?_, ?_, ?_, ?_, ?_, ?_, ?_, ?_, ?_, ?_, trivial⟩
      · rintro f a0 z Q' ⟨A1, c1, A2, c2, A3, c3, a5, c5, rfl, hw⟩ hi hd hQ
        replace hQ := Lib.hid hQ
        simp [Iv.depsB, Region.binds] at hd
        try simp only [hi, hd, sl_true, sl_false, so_true, so_false]
        try simp only [hi, sl_true, sl_false, so_true, so_false]
        have HWW := Lib.hid hw
        clear hw
        go_wp2_with fail
        refine hQ.out _ _ ⟨A1, c1, A2, c2, A3, c3, a5, c5, ?_, ?_⟩
        · simp [Iv.upd, hi, hd, sl_true, sl_false, so_true, so_false]
        · simpa [Iv.upd, hi, hd] using HWW.out
      · rintro f a0 z Q' ⟨A1, c1, A2, c2, A3, c3, a5, c5, rfl, hw⟩ hi hd hQ
        replace hQ := Lib.hid hQ
        simp [Iv.depsB, Region.binds] at hd
        try simp only [hi, hd, sl_true, sl_false, so_true, so_false]
        try simp only [hi, sl_true, sl_false, so_true, so_false]
        have HWW := Lib.hid hw
        clear hw
        go_wp2_with fail
        refine hQ.out _ _ ⟨A1, c1, A2, c2, A3, c3, a5, c5, ?_, ?_⟩
        · simp [Iv.upd, hi, hd, sl_true, sl_false, so_true, so_false]
        · simpa [Iv.upd, hi, hd] using HWW.out
      · rintro f a0 z Q' ⟨A1, c1, A2, c2, A3, c3, a5, c5, rfl, hw⟩ hi hd hQ
        replace hQ := Lib.hid hQ
        simp [Iv.depsB, Region.binds] at hd
        try simp only [hi, hd, sl_true, sl_false, so_true, so_false]
        try simp only [hi, sl_true, sl_false, so_true, so_false]
        have HWW := Lib.hid hw
        clear hw
        go_wp2_with fail
        refine hQ.out _ _ ⟨A1, c1, A2, c2, A3, c3, a5, c5, ?_, ?_⟩
        · simp [Iv.upd, hi, hd, sl_true, sl_false, so_true, so_false]
        · simpa [Iv.upd, hi, hd] using HWW.out
      · rintro f a0 z Q' ⟨A1, c1, A2, c2, A3, c3, a5, c5, rfl, hw⟩ hi hd hQ
        replace hQ := Lib.hid hQ
        simp [Iv.depsB, Region.binds] at hd
        try simp only [hi, hd, sl_true, sl_false, so_true, so_false]
        try simp only [hi, sl_true, sl_false, so_true, so_false]
        have HWW := Lib.hid hw
        clear hw
        go_wp2_with fail
        refine hQ.out _ _ ⟨A1, c1, A2, c2, A3, c3, a5, c5, ?_, ?_⟩
        · simp [Iv.upd, hi, hd, sl_true, sl_false, so_true, so_false]
        · simpa [Iv.upd, hi, hd] using HWW.out
      · rintro f a0 z Q' ⟨A1, c1, A2, c2, A3, c3, a5, c5, rfl, hw⟩ hi hd hQ
        replace hQ := Lib.hid hQ
        simp [Iv.depsB, Region.binds] at hd
        try simp only [hi, hd, sl_true, sl_false, so_true, so_false]
        try simp only [hi, sl_true, sl_false, so_true, so_false]
        have HWW := Lib.hid hw
        clear hw
        go_wp2_with fail
        refine hQ.out _ _ ⟨A1, c1, A2, c2, A3, c3, a5, c5, ?_, ?_⟩
        · simp [Iv.upd, hi, hd, sl_true, sl_false, so_true, so_false]
        · simpa [Iv.upd, hi, hd] using HWW.out
      · rintro f a0 z Q' ⟨A1, c1, A2, c2, A3, c3, a5, c5, rfl, hw⟩ hi hd hQ
        replace hQ := Lib.hid hQ
        simp [Iv.depsB, Region.binds] at hd
        try simp only [hi, hd, sl_true, sl_false, so_true, so_false]
        try simp only [hi, sl_true, sl_false, so_true, so_false]
        have hc : f 12 = false := by
          cases e5 : f 12 with
          | false => rfl
          | true => have := hw.2.1 e5; simp [hi] at this
        obtain ⟨em, ev, hy⟩ := hw.1.zero hc
        obtain ⟨e13, e14, e15⟩ := hw.2.2.1 hc
        have HYY := Lib.hid hy
        have HSS := Lib.hid hw.1.same
        obtain ⟨⟨x0, x1⟩, ⟨x2, x3, x4, x5, x6⟩, ⟨x7, x8, x9, x10⟩, -⟩ := hy.cells
        have HBB := Lib.hid hw.2.2.2.1
        have HBD := Lib.hid hw.2.2.2.2
        clear hw hy
        go_wp2_with fail
        refine hQ.out _ _ ⟨A1, c1, A2, c2, A3, c3, a5, c5, ?_, ?_⟩
        · simp [Iv.upd, hi, hd, hc, em, ev, e13, e14, e15, sl_true, sl_false, so_true, so_false]
        · refine ⟨by simpa [Iv.upd, hi, hd, hc, em, ev] using Sg.start HYY.out HSS.out, by simp [Iv.upd, hi, hd, hc], by simp [Iv.upd, hi, hd, hc, e13, e14, e15], by simpa [Iv.upd, hi, hd, hc] using HBB.out, by simpa [Iv.upd, hi, hd, hc] using HBD.out⟩
      · rintro f a0 z Q' ⟨A1, c1, A2, c2, A3, c3, a5, c5, rfl, hw⟩ hi hd hQ
        replace hQ := Lib.hid hQ
        simp [Iv.depsB, Region.binds] at hd
        try simp only [hi, hd, sl_true, sl_false, so_true, so_false]
        try simp only [hi, sl_true, sl_false, so_true, so_false]
        have HWW := Lib.hid hw
        clear hw
        go_wp2_with fail
        refine hQ.out _ _ ⟨A1, c1, A2, c2, A3, c3, a5, c5, ?_, ?_⟩
        · simp [Iv.upd, hi, hd, sl_true, sl_false, so_true, so_false]
        · simpa [Iv.upd, hi, hd] using HWW.out
      · rintro f a0 z Q' ⟨A1, c1, A2, c2, A3, c3, a5, c5, rfl, hw⟩ hi hd hQ
        replace hQ := Lib.hid hQ
        simp [Iv.depsB, Region.binds] at hd
        try simp only [hi, hd, sl_true, sl_false, so_true, so_false]
        try simp only [hi, sl_true, sl_false, so_true, so_false]
        have HWW := Lib.hid hw
        clear hw
        go_wp2_with fail
        refine hQ.out _ _ ⟨A1, c1, A2, c2, A3, c3, a5, c5, ?_, ?_⟩
        · simp [Iv.upd, hi, hd, sl_true, sl_false, so_true, so_false]
        · simpa [Iv.upd, hi, hd] using HWW.out
      · rintro f a0 z Q' ⟨A1, c1, A2, c2, A3, c3, a5, c5, rfl, hw⟩ hi hd hQ
        replace hQ := Lib.hid hQ
        simp [Iv.depsB, Region.binds] at hd
        try simp only [hi, hd, sl_true, sl_false, so_true, so_false]
        try simp only [hi, sl_true, sl_false, so_true, so_false]
        have HWW := Lib.hid hw
        clear hw
        go_wp2_with fail
        refine hQ.out _ _ ⟨A1, c1, A2, c2, A3, c3, a5, c5, ?_, ?_⟩
        · simp [Iv.upd, hi, hd, sl_true, sl_false, so_true, so_false]
        · simpa [Iv.upd, hi, hd] using HWW.out
      · rintro f a0 z Q' ⟨A1, c1, A2, c2, A3, c3, a5, c5, rfl, hw⟩ hi hd hQ
        replace hQ := Lib.hid hQ
        simp [Iv.depsB, Region.binds] at hd
        try simp only [hi, hd, sl_true, sl_false, so_true, so_false]
        try simp only [hi, sl_true, sl_false, so_true, so_false]
        have hc : f 12 = false := by
          cases e5 : f 12 with
          | false => rfl
          | true => have := hw.2.1 e5; simp [hi] at this
        obtain ⟨em, ev, hy⟩ := hw.1.zero hc
        obtain ⟨e13, e14, e15⟩ := hw.2.2.1 hc
        have HYY := Lib.hid hy
        have HSS := Lib.hid hw.1.same
        obtain ⟨⟨x0, x1⟩, ⟨x2, x3, x4, x5, x6⟩, ⟨x7, x8, x9, x10⟩, -⟩ := hy.cells
        have HBB := Lib.hid hw.2.2.2.1
        have HBD := Lib.hid hw.2.2.2.2
        clear hw hy
        go_wp2_with fail
        refine hQ.out _ _ ⟨A1, c1, A2, c2, A3, c3, a5, c5, ?_, ?_⟩
        · simp [Iv.upd, hi, hd, hc, em, ev, e13, e14, e15, sl_true, sl_false, so_true, so_false]
        · refine ⟨by simpa [Iv.upd, hi, hd, hc, em, ev] using Sg.start HYY.out HSS.out, by simp [Iv.upd, hi, hd, hc], by simp [Iv.upd, hi, hd, hc, e13, e14, e15], by simpa [Iv.upd, hi, hd, hc] using HBB.out, by simpa [Iv.upd, hi, hd, hc] using HBD.out⟩
      · rintro f a0 z Q' ⟨A1, c1, A2, c2, A3, c3, a5, c5, rfl, hw⟩ hi hd hQ
        replace hQ := Lib.hid hQ
        simp [Iv.depsB, Region.binds] at hd
        try simp only [hi, hd, sl_true, sl_false, so_true, so_false]
        try simp only [hi, sl_true, sl_false, so_true, so_false]
        have hc : f 12 = false := by
          cases e5 : f 12 with
          | false => rfl
          | true => exact absurd (hw.2.2.2.2 (hw.2.1 e5).2.2) (by simp [hi])
        obtain ⟨em, ev, hy⟩ := hw.1.zero hc
        obtain ⟨e13, e14, e15⟩ := hw.2.2.1 hc
        have HYY := Lib.hid hy
        have HSS := Lib.hid hw.1.same
        have b0 := (hy.knows.at 0 rfl).cell 0
        have b1 := (hy.knows.at 0 rfl).cell 1
        have b2 := (hy.knows.at 0 rfl).cell 2
        have b3 := (hy.knows.at 0 rfl).cell 3
        have HBB := Lib.hid hw.2.2.2.1
        have HBD := Lib.hid hw.2.2.2.2
        clear hw hy
        go_wp2_with fail
        refine hQ.out _ _ ⟨A1, c1, A2, c2, A3, c3, a5, c5, ?_, ?_⟩
        · simp [Iv.upd, hi, hd, hc, em, ev, e13, e14, e15, sl_true, sl_false, so_true, so_false]
        · refine ⟨by simpa [Iv.upd, hi, hd, hc, em, ev] using Sg.start HYY.out HSS.out, by simp [Iv.upd, hi, hd, hc], by simp [Iv.upd, hi, hd, hc, e13, e14, e15], by simpa [Iv.upd, hi, hd, hc] using HBB.out, by simpa [Iv.upd, hi, hd, hc] using HBD.out⟩
      · rintro f a0 z Q' ⟨A1, c1, A2, c2, A3, c3, a5, c5, rfl, hw⟩ hi hd hQ
        replace hQ := Lib.hid hQ
        simp [Iv.depsB, Region.binds] at hd
        try simp only [hi, hd, sl_true, sl_false, so_true, so_false]
        try simp only [hi, sl_true, sl_false, so_true, so_false]
        have hc : f 12 = false := by
          cases e5 : f 12 with
          | false => rfl
          | true => have := hw.2.1 e5; simp [hi] at this
        obtain ⟨em, ev, hy⟩ := hw.1.zero hc
        obtain ⟨e13, e14, e15⟩ := hw.2.2.1 hc
        have HYY := Lib.hid hy
        have HSS := Lib.hid hw.1.same
        have HCF := Lib.hid (HFR.out z hy.below)
        have d10 : f 10 = true := by simp [hd]
        try simp only [d10, sl_true]
        clear hw hy
        go_wp2_with fail
        refine HCF.out.mono ?_
        rintro e z1 ⟨a6, c6, rfl, hb3, hse, hnl⟩
        have HWB := Lib.hid (And.intro hse hnl)
        have HY2 := Lib.hid (HYY.out.call hb3)
        have HS2 := Lib.hid (fun b hx => (hb3.block b (HYY.out.mine b hx).1).trans (HSS.out b hx))
        clear hb3 HCF
        go_wp2_with fail
        refine hQ.out _ _ ⟨A1, c1, A2, c2, A3, c3, a6, c6, ?_, ?_⟩
        · simp [Iv.upd, hi, hd, hc, em, ev, e13, e14, e15, d10, sl_true, sl_false, so_true, so_false]
        · refine ⟨by simpa [Iv.upd, hi, hd, hc, em, ev] using Sg.start HY2.out HS2.out, by simp [Iv.upd, hi, hd, hc], by simp [Iv.upd, hi, hd, hc, e13, e14, e15], by simpa [Iv.upd, hi, hd, hc] using HWB.out, by simp [Iv.upd, d10]⟩
      · rintro f a0 z Q' ⟨A1, c1, A2, c2, A3, c3, a5, c5, rfl, hw⟩ hi hd hQ
        replace hQ := Lib.hid hQ
        simp [Iv.depsB, Region.binds] at hd
        try simp only [hi, hd, sl_true, sl_false, so_true, so_false]
        try simp only [hi, sl_true, sl_false, so_true, so_false]
        obtain ⟨em, ev, hy⟩ := hw.1.zero hi
        obtain ⟨e13, e14, e15⟩ := hw.2.2.1 hi
        have HYY := Lib.hid hy
        have HSS := Lib.hid hw.1.same
        have d5 : f 5 = true := by simp [hd]
        have d9 : f 9 = true := by simp [hd]
        have d11 : f 11 = true := by simp [hd]
        have HWB := Lib.hid (hw.2.2.2.1 d11 hi)
        have HBD := Lib.hid hw.2.2.2.2
        clear hw hy
        try simp only [d5, d9, d11, sl_true]
        have HCC := Lib.hid (HRA.out z a5 c5 HWB.out.2 HWB.out.1 _ HYY.out.disk HYY.out.list)
        go_wp2_with fail
        refine HCC.out.mono ?_
        rintro e z1 ⟨B1, e1, B2, e2, B3, e3, rfl, hb3, hmm, hww⟩
        have HO := Lib.hid (Sg.made HYY.out HSS.out hb3 hmm hww)
        clear hb3 hmm hww HCC HSS
        go_wp2_with fail
        refine hQ.out _ _ ⟨B1, e1, B2, e2, B3, e3, a5, c5, ?_, ?_⟩
        · simp [Iv.upd, hi, hd, em, ev, e13, e14, e15, d5, d9, d11, sl_true, sl_false, so_true, so_false]
        · refine ⟨by simpa [Iv.upd, hi, hd, em, ev] using HO.out, by simp [Iv.upd, hd, d5, d9, d11], by simp [Iv.upd], by simp [Iv.upd], by simpa [Iv.upd, hi, hd] using HBD.out⟩
      · rintro f a0 z Q' ⟨A1, c1, A2, c2, A3, c3, a5, c5, rfl, hw⟩ hi hd hQ
        replace hQ := Lib.hid hQ
        simp [Iv.depsB, Region.binds] at hd
        try simp only [hi, hd, sl_true, sl_false, so_true, so_false]
        try simp only [hi, sl_true, sl_false, so_true, so_false]
        have HWW := Lib.hid hw
        clear hw
        go_wp2_with fail
        refine hQ.out _ _ ⟨A1, c1, A2, c2, A3, c3, a5, c5, ?_, ?_⟩
        · simp [Iv.upd, hi, hd, sl_true, sl_false, so_true, so_false]
        · simpa [Iv.upd, hi, hd] using HWW.out
      · rintro f a0 z Q' ⟨A1, c1, A2, c2, A3, c3, a5, c5, rfl, hw⟩ hi hd hQ
        replace hQ := Lib.hid hQ
        simp [Iv.depsB, Region.binds] at hd
        try simp only [hi, hd, sl_true, sl_false, so_true, so_false]
        try simp only [hi, sl_true, sl_false, so_true, so_false]
        have HWW := Lib.hid hw
        clear hw
        go_wp2_with fail
        refine hQ.out _ _ ⟨A1, c1, A2, c2, A3, c3, a5, c5, ?_, ?_⟩
        · simp [Iv.upd, hi, hd, sl_true, sl_false, so_true, so_false]
        · simpa [Iv.upd, hi, hd] using HWW.out
      · rintro f a0 z Q' ⟨A1, c1, A2, c2, A3, c3, a5, c5, rfl, hw⟩ hi hd hQ
        replace hQ := Lib.hid hQ
        simp [Iv.depsB, Region.binds] at hd
        try simp only [hi, hd, sl_true, sl_false, so_true, so_false]
        try simp only [hi, sl_true, sl_false, so_true, so_false]
        have HWW := Lib.hid hw
        clear hw
        go_wp2_with fail
        refine hQ.out _ _ ⟨A1, c1, A2, c2, A3, c3, a5, c5, ?_, ?_⟩
        · simp [Iv.upd, hi, hd, sl_true, sl_false, so_true, so_false]
        · simpa [Iv.upd, hi, hd] using HWW.out
      · rintro f a0 z Q' ⟨A1, c1, A2, c2, A3, c3, a5, c5, rfl, hw⟩ hi hd hQ
        replace hQ := Lib.hid hQ
        simp [Iv.depsB, Region.binds] at hd
        try simp only [hi, hd, sl_true, sl_false, so_true, so_false]
        try simp only [hi, sl_true, sl_false, so_true, so_false]
        have HWW := Lib.hid hw
        clear hw
        go_wp2_with fail
        refine hQ.out _ _ ⟨A1, c1, A2, c2, A3, c3, a5, c5, ?_, ?_⟩
        · simp [Iv.upd, hi, hd, sl_true, sl_false, so_true, so_false]
        · simpa [Iv.upd, hi, hd] using HWW.out
      · rintro f a0 z Q' ⟨A1, c1, A2, c2, A3, c3, a5, c5, rfl, hw⟩ hi hd hQ
        replace hQ := Lib.hid hQ
        simp [Iv.depsB, Region.binds] at hd
        try simp only [hi, hd, sl_true, sl_false, so_true, so_false]
        try simp only [hi, sl_true, sl_false, so_true, so_false]
        have HWW := Lib.hid hw
        clear hw
        go_wp2_with fail
        refine hQ.out _ _ ⟨A1, c1, A2, c2, A3, c3, a5, c5, ?_, ?_⟩
        · simp [Iv.upd, hi, hd, sl_true, sl_false, so_true, so_false]
        · simpa [Iv.upd, hi, hd] using HWW.out
      · rintro f a0 z Q' ⟨A1, c1, A2, c2, A3, c3, a5, c5, rfl, hw⟩ hi hd hQ
        replace hQ := Lib.hid hQ
        simp [Iv.depsB, Region.binds] at hd
        try simp only [hi, hd, sl_true, sl_false, so_true, so_false]
        try simp only [hi, sl_true, sl_false, so_true, so_false]
        have HWW := Lib.hid hw
        clear hw
        go_wp2_with fail
        refine hQ.out _ _ ⟨A1, c1, A2, c2, A3, c3, a5, c5, ?_, ?_⟩
        · simp [Iv.upd, hi, hd, sl_true, sl_false, so_true, so_false]
        · simpa [Iv.upd, hi, hd] using HWW.out
      · rintro f a0 z Q' ⟨A1, c1, A2, c2, A3, c3, a5, c5, rfl, hw⟩ hi hd hQ
        replace hQ := Lib.hid hQ
        simp [Iv.depsB, Region.binds] at hd
        try simp only [hi, hd, sl_true, sl_false, so_true, so_false]
        try simp only [hi, sl_true, sl_false, so_true, so_false]
        have dc : f 12 = true := by simp [hd]
        have dm : f 14 = true := by simp [hd]
        have da : f 18 = true := by simp [hd]
        obtain ⟨ev, hy, -, -⟩ := hw.1.one dc hi
        have hsg := hw.1
        rw [dc, hi, ev] at hsg
        have HO := Lib.hid hsg.setM
        have HBD := Lib.hid hw.2.2.2.2
        obtain ⟨dl5, dl9, dl11⟩ := hw.2.1 dc
        obtain ⟨⟨x0, x1⟩, ⟨x2, x3, x4, x5, x6⟩, -, ⟨y2, y3, y4, y5, y6⟩, -⟩ := hy.cells
        clear hw hy hsg
        try simp only [dm, da, sl_true]
        go_wp2_with fail
        refine hQ.out _ _ ⟨A1, c1, A2, c2, A3, c3, a5, c5, ?_, ?_⟩
        · simp [Iv.upd, hi, hd, dc, dm, da, ev, sl_true, sl_false, so_true, so_false]
        · refine ⟨by simpa [Iv.upd, hi, dc, ev] using HO.out, by simp [Iv.upd, dl5, dl9, dl11], by simp [Iv.upd, dc], by simp [Iv.upd, dc], by simpa [Iv.upd, hi, hd] using HBD.out⟩
      · rintro f a0 z Q' ⟨A1, c1, A2, c2, A3, c3, a5, c5, rfl, hw⟩ hi hd hQ
        replace hQ := Lib.hid hQ
        simp [Iv.depsB, Region.binds] at hd
        try simp only [hi, hd, sl_true, sl_false, so_true, so_false]
        try simp only [hi, sl_true, sl_false, so_true, so_false]
        have HWW := Lib.hid hw
        clear hw
        go_wp2_with fail
        refine hQ.out _ _ ⟨A1, c1, A2, c2, A3, c3, a5, c5, ?_, ?_⟩
        · simp [Iv.upd, hi, hd, sl_true, sl_false, so_true, so_false]
        · simpa [Iv.upd, hi, hd] using HWW.out
      · rintro f a0 z Q' ⟨A1, c1, A2, c2, A3, c3, a5, c5, rfl, hw⟩ hi hd hQ
        replace hQ := Lib.hid hQ
        simp [Iv.depsB, Region.binds] at hd
        try simp only [hi, hd, sl_true, sl_false, so_true, so_false]
        try simp only [hi, sl_true, sl_false, so_true, so_false]
        have HWW := Lib.hid hw
        clear hw
        go_wp2_with fail
        refine hQ.out _ _ ⟨A1, c1, A2, c2, A3, c3, a5, c5, ?_, ?_⟩
        · simp [Iv.upd, hi, hd, sl_true, sl_false, so_true, so_false]
        · simpa [Iv.upd, hi, hd] using HWW.out
      · rintro f a0 z Q' ⟨A1, c1, A2, c2, A3, c3, a5, c5, rfl, hw⟩ hi hd hQ
        replace hQ := Lib.hid hQ
        simp [Iv.depsB, Region.binds] at hd
        try simp only [hi, hd, sl_true, sl_false, so_true, so_false]
        try simp only [hi, sl_true, sl_false, so_true, so_false]
        have dm : f 19 = true := by simp [hd]
        have dv : f 15 = true := by simp [hd]
        have da : f 21 = true := by simp [hd]
        obtain ⟨hy, -⟩ := hw.1.two dm hi
        have dc : f 12 = true := hw.1.ord dm
        have hsg := hw.1
        rw [dc, hi, dm] at hsg
        have HO := Lib.hid hsg.setV
        have HBD := Lib.hid hw.2.2.2.2
        obtain ⟨dl5, dl9, dl11⟩ := hw.2.1 dc
        obtain ⟨⟨x0, x1⟩, -, ⟨x7, x8, x9, x10⟩, -, ⟨y7, y8, y9, y10⟩⟩ := hy.cells
        clear hw hy hsg
        try simp only [dv, da, sl_true]
        go_wp2_with fail
        refine hQ.out _ _ ⟨A1, c1, A2, c2, A3, c3, a5, c5, ?_, ?_⟩
        · simp [Iv.upd, hi, hd, dc, dm, dv, da, sl_true, sl_false, so_true, so_false]
        · refine ⟨by simpa [Iv.upd, hi, dc, dm] using HO.out, by simp [Iv.upd, dl5, dl9, dl11], by simp [Iv.upd, dc], by simp [Iv.upd, dc], by simpa [Iv.upd, hi, hd] using HBD.out⟩
      · rintro f a0 z Q' ⟨A1, c1, A2, c2, A3, c3, a5, c5, rfl, hw⟩ hi hd hQ
        replace hQ := Lib.hid hQ
        simp [Iv.depsB, Region.binds] at hd
        try simp only [hi, hd, sl_true, sl_false, so_true, so_false]
        try simp only [hi, sl_true, sl_false, so_true, so_false]
        have HWW := Lib.hid hw
        clear hw
        go_wp2_with fail
        refine hQ.out _ _ ⟨A1, c1, A2, c2, A3, c3, a5, c5, ?_, ?_⟩
        · simp [Iv.upd, hi, hd, sl_true, sl_false, so_true, so_false]
        · simpa [Iv.upd, hi, hd] using HWW.out
    · rintro f a0 z ⟨A1, c1, A2, c2, A3, c3, a5, c5, rfl, hw⟩ hall
      simp only [hall 0 (by decide), hall 1 (by decide), hall 2 (by decide), hall 3 (by decide), hall 4 (by decide), hall 5 (by decide), hall 6 (by decide), hall 7 (by decide), hall 8 (by decide), hall 9 (by decide), hall 10 (by decide), hall 11 (by decide), hall 12 (by decide), hall 13 (by decide), hall 14 (by decide), hall 15 (by decide), hall 16 (by decide), hall 17 (by decide), hall 18 (by decide), hall 19 (by decide), hall 20 (by decide), hall 21 (by decide), hall 22 (by decide), hall 23 (by decide), sl_true, ↓reduceIte, so_true, so_false] at hw ⊢
      clear hall
      have HF := Lib.hid ((hw.1.three rfl).2.few (L' := []) (fun r hr => by cases hr))
      clear hw
      go_wp2_with fail
      go_ret
      exact ⟨rfl, F1, A1, c1, A2, c2, A3, c3, HF.out⟩
end Go.Proofs.Ytlfigbgcackimaa

/- The pair's disks under Arm, Crash, Up and Append; both opened anew, told at once. -/
namespace Go.Proofs.Ytlfigbgcackimaa
open Go.RowKit Go.Fm Go.Dk Go.Wl Go.Iv
set_option linter.unusedVariables false
set_option linter.unusedSimpArgs false
set_option maxRecDepth 100000

abbrev No : Nat → Prop := fun _ => False
/-- Where 'b.m = f(b.m, ..)' stands, a: the new disk has come, b: it has been put into the pair. -/
structure Sh (W : World) (L : List Row) (y g : Nat) (q : Option Nat) (F : Nat → Prop) (v : Wv) (d : D) (AL : Option Addr) (cL : Nat) (AK : Option Addr) (cK : Nat) (r : Rf) (AV : Option Addr) (cV : Nat) (u : Rw) (r' : Rf) (A1 : Option Addr) (c1 : Nat) (A2 : Option Addr) (c2 : Nat) (a b : Bool) (z : World) : Prop where
  zero : a = false → b = false ∧ Yv W z L No y g q F v d AL cL AK cK r AV cV u
  one : a = true → b = false → Yv W z L No y g q F v d AL cL AK cK r AV cV u ∧ IsM (Ox F y q No) z A1 c1 A2 c2 r'
  two : b = true → a = true ∧ Yv W z L No y g q F v d A1 c1 A2 c2 r' AV cV u
section
variable {W w z : World} {L : List Row} {y g : Nat} {q : Option Nat} {F : Nat → Prop} {v : Wv} {d : D} {AL : Option Addr} {cL : Nat} {AK : Option Addr} {cK : Nat} {r : Rf} {AV : Option Addr} {cV : Nat} {u : Rw} {r' : Rf} {A1 : Option Addr} {c1 : Nat} {A2 : Option Addr} {c2 : Nat}
theorem Sh.start (h : Yv W w L No y g q F v d AL cL AK cK r AV cV u) : Sh W L y g q F v d AL cL AK cK r AV cV u r' A1 c1 A2 c2 false false w :=
  ⟨fun _ => ⟨rfl, h⟩, (fun h => by cases h), fun h => by cases h⟩
theorem Sh.made (h : Yv W w L No y g q F v d AL cL AK cK r AV cV u) (hb : Below w.heap.size w z) (hm : IsM (Ox F y q No) z A1 c1 A2 c2 r') : Sh W L y g q F v d AL cL AK cK r AV cV u r' A1 c1 A2 c2 true false z :=
  ⟨(fun h => by cases h), (fun _ _ => ⟨h.call hb, hm⟩), fun h => by cases h⟩
theorem Sh.call {z' : World} (h : Sh W L y g q F v d AL cL AK cK r AV cV u r' A1 c1 A2 c2 true false z) (hb : Below z.heap.size z z') : Sh W L y g q F v d AL cL AK cK r AV cV u r' A1 c1 A2 c2 true false z' := by
  obtain ⟨h1, h2⟩ := h.one rfl rfl
  exact ⟨(fun h => by cases h), (fun _ _ => ⟨h1.call hb, h2.call hb⟩), fun h => by cases h⟩
theorem Sh.setM (h : Sh W L y g q F v d AL cL AK cK r AV cV u r' A1 c1 A2 c2 true false z) :
    Sh W L y g q F v d AL cL AK cK r AV cV u r' A1 c1 A2 c2 true true (((((z.setCell ⟨y, 2, none⟩ (.slice A1 r'.logs.length c1)).setCell ⟨y, 3, none⟩ (.int .i64 r'.acts)).setCell ⟨y, 4, none⟩ (.bool r'.off)).setCell ⟨y, 5, none⟩ (.int .i64 r'.armed)).setCell ⟨y, 6, none⟩ (.slice A2 r'.keep.length c2)) := by
  obtain ⟨h1, h2⟩ := h.one rfl rfl
  exact ⟨(fun h => by cases h), (fun _ h => by cases h), (fun _ => ⟨rfl, h1.setM h2⟩)⟩
theorem IsM.up {G : Nat → Prop} (h : IsM G w A1 c1 A2 c2 r) : IsM G w A1 c1 A2 c2 r.up := ⟨h.logs, h.keep⟩
theorem Yv.besideN (h : Yv W w L No y g q F v d AL cL AK cK r AV cV u) (hm : IsM (fun b => w.heap.size ≤ b) z A1 c1 A2 c2 r') : IsM (Ox F y q No) z A1 c1 A2 c2 r' := hm.mono fun b _ hb => h.ox_new hb
theorem Yv.keepF (h : Yv W w L No y g q F v d AL cL AK cK r AV cV u) {x : Ac} (hga : GA W x) : 0 < x.keep.length → ∀ a, x.A = some a → ¬ F a.block := fun h0 a ha hf => by
  obtain ⟨b, off, e, hb, -⟩ := hga.sees.2 h0
  rw [ha] at e
  injection e with e
  have := h.new.2.2 _ hf
  rw [e] at this
  exact absurd hb (by simpa using this)
theorem Yv.arm (h : Yv W w L No y g q F v d AL cL AK cK r AV cV u) {x : Ac} (hga : GA W x) :
    Calls Try.prog 31 #[ptr g, .int .i64 x.n, .slice x.A x.keep.length x.cap] w fun e w' => e = .returned (.tuple #[]) ∧ ∃ F', Yv W w' L No y g q F' v (d.arm x.n x.keep) AL cL AK cK r AV cV u :=
  (arm_any g d F W.heap.size x.A x.cap x.n hga.n x.keep w h.dsk (hga.sees.below h.below) h.below.size (h.keepF hga) hga.range).mono fun e w' ⟨h1, h2⟩ => ⟨h1, h.moved h2⟩
theorem Yv.crash (h : Yv W w L No y g q F v d AL cL AK cK r AV cV u) {x : Ac} (hga : GA W x) :
    Calls Try.prog 32 #[ptr g, .slice x.A x.keep.length x.cap] w fun e w' => e = .returned (.tuple #[]) ∧ ∃ F', Yv W w' L No y g q F' v (d.crash x.keep) AL cL AK cK r AV cV u :=
  (crash_any g d F W.heap.size x.A x.cap x.keep w h.dsk (hga.sees.below h.below) h.below.size (h.keepF hga) hga.range (by have := hga.room; have := hga.top; omega)).mono fun e w' ⟨h1, h2⟩ => ⟨h1, h.moved h2⟩
theorem Yv.up (h : Yv W w L No y g q F v d AL cL AK cK r AV cV u) :
    Calls Try.prog 13 #[ptr g] w fun e w' => e = .returned (.tuple #[]) ∧ ∃ F', Yv W w' L No y g q F' v d.up AL cL AK cK r AV cV u :=
  (up_any g d F w h.dsk).mono fun e w' ⟨h1, h2⟩ => ⟨h1, h.moved h2⟩
theorem Yv.append (h : Yv W w L No y g q F v d AL cL AK cK r AV cV u) {A : Option Addr} {cap : Nat} {bs : List UInt8} (hbs : bs.length ≤ 140737488355328) (hacts : d.acts + 1 ≤ 9223372036854775807) (hin : InB w A cap bs) :
    Calls Try.prog 23 #[ptr g, .int .i64 1, .slice A bs.length cap] w fun e w' => e = .returned (.int .i64 (d.append 1 bs).2) ∧ ∃ F', Yv W w' L No y g q F' v (d.append 1 bs).1 AL cL AK cK r AV cV u :=
  (append_any g d F 1 (w64 1 (by omega)) A cap bs hbs hacts w h.dsk hin).mono fun e w' ⟨h1, h2⟩ => ⟨h1, h.moved h2⟩
theorem Yv.rarm (h : Yv W w L No y g q F v d AL cL AK cK r AV cV u) (o : Rok r) {x : Ac} (hga : GA W x) (hkl : x.keep.length ≤ 1000) :
    Calls Try.prog 38 #[vM AL cL AK cK r, .int .i64 x.n, .slice x.A x.keep.length x.cap] w fun e w' => ∃ A1 c1 A2 c2, e = .returned (vM A1 c1 A2 c2 (r.arm x.n x.keep)) ∧ Below w.heap.size w w' ∧ IsM (Ox F y q No) w' A1 c1 A2 c2 (r.arm x.n x.keep) :=
  (rarm_any r o _ AL cL AK cK x.n hga.n x.keep hkl x.A x.cap hga.nil w h.disk W.heap.size h.below.size (hga.sees.below h.below)).mono fun e w' ⟨a, b, c, dd, h1, h2, h3⟩ => ⟨a, b, c, dd, h1, h2, h.besideN h3⟩
theorem Yv.rcrash (h : Yv W w L No y g q F v d AL cL AK cK r AV cV u) (o : Rok r) {x : Ac} (hga : GA W x) :
    Calls Try.prog 39 #[vM AL cL AK cK r, .slice x.A x.keep.length x.cap] w fun e w' => ∃ A1 c1 A2 c2, e = .returned (vM A1 c1 A2 c2 (r.crash x.keep)) ∧ Below w.heap.size w w' ∧ IsM (Ox F y q No) w' A1 c1 A2 c2 (r.crash x.keep) :=
  (rcrash_any r o _ AL cL AK cK x.A x.cap x.keep hga.range (by have := hga.room; have := hga.top; omega) w h.disk W.heap.size h.below.size (hga.sees.below h.below)).mono fun e w' ⟨a, b, c, dd, h1, h2, h3⟩ => ⟨a, b, c, dd, h1, h2, h.besideN h3⟩
theorem Yv.ract (h : Yv W w L No y g q F v d AL cL AK cK r AV cV u) (o : Rok r) {b : List UInt8} (hb : b.length ≤ 4194304) :
    Calls Try.prog 40 #[vM AL cL AK cK r, .int .i64 0, .int .i64 1, .string (txt b)] w fun e w' => ∃ A1 c1 A2 c2, e = .returned (.tuple #[vM A1 c1 A2 c2 (r.act 0 1 b).1, .int .i64 (r.act 0 1 b).2]) ∧ Below w.heap.size w w' ∧ IsM (Ox F y q No) w' A1 c1 A2 c2 (r.act 0 1 b).1 :=
  (ract_any r o _ AL cL AK cK 0 (w64 0 (by omega)) 1 (w64 1 (by omega)) b hb w h.disk).mono fun e w' ⟨a, b, c, dd, h1, h2, h3⟩ => ⟨a, b, c, dd, h1, h2, h.beside h2 h3⟩
end
/-- Both are opened anew. -/
theorem bopen8 (W w : World) (y g : Nat) (q : Option Nat) (F : Nat → Prop) (d : D) (AL : Option Addr) (cL : Nat) (AK : Option Addr) (cK : Nat) (r : Rf) (AV : Option Addr) (cV : Nat) (u : Rw) (h : Yx W w y g q F d AL cL AK cK r AV cV u) (o : Rok r) (hrel : Rel r d) (hlen : 1 < r.logs.length) (hacts : d.acts + 1 ≤ 9223372036854775807) :
    Calls Try.prog 12 #[ptr y] w fun e w' => e = .returned (.bool true) ∧ ∃ q' F' AL' cL' AK' cK' AV' cV', (q' = none ↔ (opens d 1).2 ≠ 0) ∧ Yx W w' y g q' F' (opens d 1).1 AL' cL' AK' cK' (Wl.Rf.opn r 1).1 AV' cV' (Wl.Rf.opn r 1).2.1 := by
  by_cases h0 : (opens d 1).2 = 0
  · refine (bopen_ok W w y g q F d AL cL AK cK r AV cV u h o hrel hlen hacts h0).mono ?_
    rintro e w' ⟨h1, p, F', a1, a2, a3, a4, a5, a6, h2⟩
    exact ⟨h1, some p, F', a1, a2, a3, a4, a5, a6, ⟨(fun e => by cases e), fun e => absurd h0 e⟩, h2⟩
  · refine (bopen_err W w y g q F d AL cL AK cK r AV cV u h o hrel hlen hacts h0).mono ?_
    rintro e w' ⟨h1, F', a1, a2, a3, a4, a5, a6, h2⟩
    exact ⟨h1, none, F', a1, a2, a3, a4, a5, a6, ⟨fun _ => h0, fun _ => rfl⟩, h2⟩
end Go.Proofs.Ytlfigbgcackimaa

/- The law's both.does of kind 3 (written by gdo8b.py). -/
namespace Go.Proofs.Ytlfigbgcackimaa
open Go.RowKit Go.Fm Go.Dk Go.Wl Go.Iv
set_option linter.unusedVariables false
set_option linter.unusedSimpArgs false
set_option linter.unnecessarySimpa false
set_option maxRecDepth 100000

set_option maxHeartbeats 16000000 in
theorem does3 (W w : World) (y g p : Nat) (F : Nat → Prop) (d : D) (AL : Option Addr) (cL : Nat) (AK : Option Addr) (cK : Nat) (r : Rf) (AV : Option Addr) (cV : Nat) (u : Rw) (x : Ac) (hk : x.kind = 3) (h : Yv W w [] No y g (some p) F u.wv d AL cL AK cK r AV cV u) (o : Rok r) (hrel : Rel r d) (hga : GA W x) (hkl : x.keep.length ≤ 1000) :
    Calls Try.prog 15 #[ptr y, .agg (encA x).toArray] w fun e w' => e = .returned (.bool true) ∧ ∃ F' A1 c1 A2 c2, Yv W w' [] No y g (some p) F' u.wv (d.arm x.n x.keep) A1 c1 A2 c2 (r.arm x.n x.keep) AV cV u := by
  have HX := Lib.hid (h.alloc w.heap.size rfl 44 (encA x).toArray)
  have HAR := Lib.hid (fun (z : World) (L : List Row) (F : Nat → Prop) (hy : Yv W z L No y g (some p) F u.wv d AL cL AK cK r AV cV u) => hy.arm hga)
  have HRR := Lib.hid (fun (z : World) (L : List Row) (F : Nat → Prop) (hy : Yv W z L No y g (some p) F u.wv (d.arm x.n x.keep) AL cL AK cK r AV cV u) => hy.rarm o hga hkl)
  clear h o hrel hga hkl
  generalize d.arm x.n x.keep = d' at *
  generalize r.arm x.n x.keep = Q at *
  obtain ⟨kd, n, s, A, cap, keep⟩ := x
  simp only at hk HAR HRR
  subst hk
  have hea : ∀ k, (encA ⟨k, n, s, A, cap, keep⟩).toArray = #[.int .i64 k, .int .i64 n, .string (txt s), .slice A keep.length cap] := fun k => rfl
  rw [hea] at HX ⊢
  clear hea
  unfold vM at *
  have b0 := (HX.out.knows.at 0 rfl).cell 0
  go_enter Try.func15, Try.ntmps15
  go_wp2_with fail
  refine Iv.region (fun f aa z => aa = ⟨#[ptr y, Value.agg #[Value.int IntKind.i64 3, Value.int IntKind.i64 n, Value.string (txt s), Value.slice A keep.length cap], undef, Value.pointer (some { block := w.heap.size, off := 0 }), Value.bool false, Value.int IntKind.i64 0, Value.int IntKind.i64 0, undef, undef, Value.pointer (some { block := w.heap.size, off := 0 }), Value.int IntKind.i64 3, undef, undef, Value.bool false, Value.bool false, undef, undef, undef, undef, undef, undef, undef, undef, undef, undef, undef, undef, undef, undef, undef, undef, undef, undef, undef, undef, undef, undef, undef, undef, undef, undef, undef, undef, undef, undef, undef, undef, undef, undef, undef, undef, undef, undef, undef, undef, undef, undef, undef, Value.bool false, Value.bool false, undef, undef, undef, undef, undef, undef, undef, undef, undef, undef, undef, undef, undef, undef, undef, undef, undef, undef, undef, undef, undef, undef, undef, undef, Value.bool false, Value.bool false, undef, undef, undef, undef, undef, undef, undef, undef, undef, undef, undef, undef, undef, undef, undef, undef, undef, undef, undef, undef, undef, undef, undef, undef, undef, undef, undef, undef, undef, Value.bool true, Value.bool true, sl (f 0) (ptr y), sl (f 1) (.pointer (some ⟨y, 0, none⟩)), sl (f 2) (.pointer (some ⟨y, 0, none⟩)), sl (f 3) (ptr g), sl (f 4) (.pointer (some ⟨w.heap.size, 1, none⟩)), sl (f 5) (.int .i64 n), sl (f 6) (.pointer (some ⟨w.heap.size, 3, none⟩)), sl (f 7) (.slice A keep.length cap), sl (f 8) (.tuple #[]), undef, undef, undef, undef, undef, undef, undef, undef, undef, undef, undef, undef, undef, undef, undef, undef, undef, undef, undef, undef, undef, undef, undef, undef, undef, undef, undef, undef, undef, undef, undef, undef, undef, undef, undef, undef, undef, undef, undef, undef, undef, undef, undef, undef, undef, undef, undef, undef, undef, undef, undef, undef, undef, undef, undef, undef, undef, undef, undef, undef, undef, undef, undef, undef, undef, undef, undef, undef, undef, undef, undef, undef], []⟩ ∧ (f 8 = false → Yv W z [(w.heap.size, 44, #[.int .i64 3, .int .i64 n, .string (txt s), .slice A keep.length cap])] No y g (some p) F u.wv d AL cL AK cK r AV cV u) ∧ (f 8 = true → (f 3 = true ∧ f 5 = true ∧ f 7 = true) ∧ ∃ F9, Yv W z [(w.heap.size, 44, #[.int .i64 3, .int .i64 n, .string (txt s), .slice A keep.length cap])] No y g (some p) F9 u.wv d' AL cL AK cK r AV cV u)) (by kernel_rfl) (by kernel_rfl) ?_ ?_ ?_
  · exact ⟨rfl, (fun _ => HX.out.call (drew_below _ 1)), (fun h => by cases h)⟩
  · refine ⟨?_, ?_, ?_, ?_, ?_, ?_, ?_, ?_, ?_, trivial⟩
    · rintro f a0 z Q' ⟨rfl, hw⟩ hi hd hQ
      replace hQ := Lib.hid hQ
      simp [Iv.depsB, Region.binds] at hd
      try simp only [hi, hd, sl_true, sl_false, so_true, so_false]
      try simp only [hi, sl_true, sl_false, so_true, so_false]
      have HWW := Lib.hid hw
      clear hw
      go_wp2_with fail
      refine hQ.out _ _ ⟨?_, ?_⟩
      · simp [Iv.upd, hi, hd, sl_true, sl_false, so_true, so_false]
      · simpa [Iv.upd, hi, hd] using HWW.out
    · rintro f a0 z Q' ⟨rfl, hw⟩ hi hd hQ
      replace hQ := Lib.hid hQ
      simp [Iv.depsB, Region.binds] at hd
      try simp only [hi, hd, sl_true, sl_false, so_true, so_false]
      try simp only [hi, sl_true, sl_false, so_true, so_false]
      have HWW := Lib.hid hw
      clear hw
      go_wp2_with fail
      refine hQ.out _ _ ⟨?_, ?_⟩
      · simp [Iv.upd, hi, hd, sl_true, sl_false, so_true, so_false]
      · simpa [Iv.upd, hi, hd] using HWW.out
    · rintro f a0 z Q' ⟨rfl, hw⟩ hi hd hQ
      replace hQ := Lib.hid hQ
      simp [Iv.depsB, Region.binds] at hd
      try simp only [hi, hd, sl_true, sl_false, so_true, so_false]
      try simp only [hi, sl_true, sl_false, so_true, so_false]
      have HWW := Lib.hid hw
      clear hw
      go_wp2_with fail
      refine hQ.out _ _ ⟨?_, ?_⟩
      · simp [Iv.upd, hi, hd, sl_true, sl_false, so_true, so_false]
      · simpa [Iv.upd, hi, hd] using HWW.out
    · rintro f a0 z Q' ⟨rfl, hw⟩ hi hd hQ
      replace hQ := Lib.hid hQ
      simp [Iv.depsB, Region.binds] at hd
      try simp only [hi, hd, sl_true, sl_false, so_true, so_false]
      try simp only [hi, sl_true, sl_false, so_true, so_false]
      have hc : f 8 = false := by
        cases e5 : f 8 with
        | false => rfl
        | true => have := (hw.2 e5).1; simp [hi] at this
      obtain ⟨⟨x0, x1⟩, ⟨x2, x3, x4, x5, x6⟩, -, -⟩ := (hw.1 hc).cells
      have hkw := (hw.1 hc).knows.at 0 rfl
      have b0 := hkw.cell 0
      have b1 := hkw.cell 1
      have b2 := hkw.cell 2
      have b3 := hkw.cell 3
      clear hkw
      have HWW := Lib.hid hw
      clear hw
      go_wp2_with fail
      refine hQ.out _ _ ⟨?_, ?_⟩
      · simp [Iv.upd, hi, hd, hc, sl_true, sl_false, so_true, so_false]
      · simpa [Iv.upd, hi, hd, hc] using HWW.out
    · rintro f a0 z Q' ⟨rfl, hw⟩ hi hd hQ
      replace hQ := Lib.hid hQ
      simp [Iv.depsB, Region.binds] at hd
      try simp only [hi, hd, sl_true, sl_false, so_true, so_false]
      try simp only [hi, sl_true, sl_false, so_true, so_false]
      have HWW := Lib.hid hw
      clear hw
      go_wp2_with fail
      refine hQ.out _ _ ⟨?_, ?_⟩
      · simp [Iv.upd, hi, hd, sl_true, sl_false, so_true, so_false]
      · simpa [Iv.upd, hi, hd] using HWW.out
    · rintro f a0 z Q' ⟨rfl, hw⟩ hi hd hQ
      replace hQ := Lib.hid hQ
      simp [Iv.depsB, Region.binds] at hd
      try simp only [hi, hd, sl_true, sl_false, so_true, so_false]
      try simp only [hi, sl_true, sl_false, so_true, so_false]
      have hc : f 8 = false := by
        cases e5 : f 8 with
        | false => rfl
        | true => have := (hw.2 e5).1; simp [hi] at this
      obtain ⟨⟨x0, x1⟩, ⟨x2, x3, x4, x5, x6⟩, -, -⟩ := (hw.1 hc).cells
      have hkw := (hw.1 hc).knows.at 0 rfl
      have b0 := hkw.cell 0
      have b1 := hkw.cell 1
      have b2 := hkw.cell 2
      have b3 := hkw.cell 3
      clear hkw
      have HWW := Lib.hid hw
      clear hw
      go_wp2_with fail
      refine hQ.out _ _ ⟨?_, ?_⟩
      · simp [Iv.upd, hi, hd, hc, sl_true, sl_false, so_true, so_false]
      · simpa [Iv.upd, hi, hd, hc] using HWW.out
    · rintro f a0 z Q' ⟨rfl, hw⟩ hi hd hQ
      replace hQ := Lib.hid hQ
      simp [Iv.depsB, Region.binds] at hd
      try simp only [hi, hd, sl_true, sl_false, so_true, so_false]
      try simp only [hi, sl_true, sl_false, so_true, so_false]
      have HWW := Lib.hid hw
      clear hw
      go_wp2_with fail
      refine hQ.out _ _ ⟨?_, ?_⟩
      · simp [Iv.upd, hi, hd, sl_true, sl_false, so_true, so_false]
      · simpa [Iv.upd, hi, hd] using HWW.out
    · rintro f a0 z Q' ⟨rfl, hw⟩ hi hd hQ
      replace hQ := Lib.hid hQ
      simp [Iv.depsB, Region.binds] at hd
      try simp only [hi, hd, sl_true, sl_false, so_true, so_false]
      try simp only [hi, sl_true, sl_false, so_true, so_false]
      have hc : f 8 = false := by
        cases e5 : f 8 with
        | false => rfl
        | true => have := (hw.2 e5).1; simp [hi] at this
      obtain ⟨⟨x0, x1⟩, ⟨x2, x3, x4, x5, x6⟩, -, -⟩ := (hw.1 hc).cells
      have hkw := (hw.1 hc).knows.at 0 rfl
      have b0 := hkw.cell 0
      have b1 := hkw.cell 1
      have b2 := hkw.cell 2
      have b3 := hkw.cell 3
      clear hkw
      have HWW := Lib.hid hw
      clear hw
      go_wp2_with fail
      refine hQ.out _ _ ⟨?_, ?_⟩
      · simp [Iv.upd, hi, hd, hc, sl_true, sl_false, so_true, so_false]
      · simpa [Iv.upd, hi, hd, hc] using HWW.out
    · rintro f a0 z Q' ⟨rfl, hw⟩ hi hd hQ
      replace hQ := Lib.hid hQ
      simp [Iv.depsB, Region.binds] at hd
      try simp only [hi, hd, sl_true, sl_false, so_true, so_false]
      try simp only [hi, sl_true, sl_false, so_true, so_false]
      have d3 : f 3 = true := by simp [hd]
      have d5 : f 5 = true := by simp [hd]
      have d7 : f 7 = true := by simp [hd]
      try simp only [d3, d5, d7, sl_true, so_true]
      have HYY := Lib.hid (hw.1 hi)
      clear hw
      have HCC := Lib.hid (HAR.out z _ _ HYY.out)
      go_wp2_with fail
      refine HCC.out.mono ?_
      rintro e z1 ⟨rfl, F9, hy9⟩
      have HY2 := Lib.hid hy9
      clear hy9 HCC HYY
      go_wp2_with fail
      refine hQ.out _ _ ⟨?_, ?_⟩
      · simp [Iv.upd, hi, hd, d3, d5, d7, sl_true, sl_false, so_true, so_false]
      · exact ⟨(fun e => by simp [Iv.upd] at e), fun _ => ⟨by simp [Iv.upd, d3, d5, d7], F9, HY2.out⟩⟩
  · rintro f a0 z ⟨rfl, hw⟩ hall
    simp only [hall 0 (by decide), hall 1 (by decide), hall 2 (by decide), hall 3 (by decide), hall 4 (by decide), hall 5 (by decide), hall 6 (by decide), hall 7 (by decide), hall 8 (by decide), sl_true, ↓reduceIte, so_true, so_false] at hw ⊢
    clear hall
    obtain ⟨F1, hy9⟩ := (hw.2 trivial).2
    have HZ := Lib.hid hy9
    clear hw hy9 HX
    go_wp2_with fail
    refine Iv.region (fun f aa z => ∃ A1 c1 A2 c2, aa = ⟨#[ptr y, Value.agg #[Value.int IntKind.i64 3, Value.int IntKind.i64 n, Value.string (txt s), Value.slice A keep.length cap], undef, Value.pointer (some { block := w.heap.size, off := 0 }), Value.bool false, Value.int IntKind.i64 0, Value.int IntKind.i64 0, undef, undef, Value.pointer (some { block := w.heap.size, off := 0 }), Value.int IntKind.i64 3, undef, undef, Value.bool false, Value.bool false, undef, undef, undef, undef, undef, undef, undef, undef, undef, undef, undef, undef, undef, undef, undef, undef, undef, undef, undef, undef, undef, undef, undef, undef, undef, undef, undef, undef, undef, undef, undef, undef, undef, undef, undef, undef, undef, undef, undef, undef, undef, undef, undef, Value.bool false, Value.bool false, undef, undef, undef, undef, undef, undef, undef, undef, undef, undef, undef, undef, undef, undef, undef, undef, undef, undef, undef, undef, undef, undef, undef, undef, Value.bool false, Value.bool false, undef, undef, undef, undef, undef, undef, undef, undef, undef, undef, undef, undef, undef, undef, undef, undef, undef, undef, undef, undef, undef, undef, undef, undef, undef, undef, undef, undef, undef, Value.bool true, Value.bool true, ptr y, Value.pointer (some { block := y, off := 0 }), Value.pointer (some { block := y, off := 0 }), ptr g, Value.pointer (some { block := w.heap.size, off := 1 }), Value.int IntKind.i64 n, Value.pointer (some { block := w.heap.size, off := 3 }), Value.slice A keep.length cap, Value.tuple #[], sl (f 0) (ptr y), sl (f 1) (ptr y), sl (f 2) (.pointer (some ⟨y, 0, none⟩)), sl (f 3) (.pointer (some ⟨y, 2, none⟩)), sl (f 4) (.agg #[.slice AL r.logs.length cL, .int .i64 r.acts, .bool r.off, .int .i64 r.armed, .slice AK r.keep.length cK]), sl (f 5) (.pointer (some ⟨w.heap.size, 1, none⟩)), sl (f 6) (.int .i64 n), sl (f 7) (.pointer (some ⟨w.heap.size, 3, none⟩)), sl (f 8) (.slice A keep.length cap), sl (f 9) (.agg #[.slice A1 Q.logs.length c1, .int .i64 Q.acts, .bool Q.off, .int .i64 Q.armed, .slice A2 Q.keep.length c2]), sl (f 10) (.pointer (some ⟨y, 0, none⟩)), sl (f 11) (.pointer (some ⟨y, 2, none⟩)), undef, undef, undef, undef, undef, undef, undef, undef, undef, undef, undef, undef, undef, undef, undef, undef, undef, undef, undef, undef, undef, undef, undef, undef, undef, undef, undef, undef, undef, undef, undef, undef, undef, undef, undef, undef, undef, undef, undef, undef, undef, undef, undef, undef, undef, undef, undef, undef, undef, undef, undef, undef, undef, undef, undef, undef, undef, undef, undef, undef], []⟩ ∧ Sh W [(w.heap.size, 44, #[.int .i64 3, .int .i64 n, .string (txt s), .slice A keep.length cap])] y g (some p) F1 u.wv d' AL cL AK cK r AV cV u Q A1 c1 A2 c2 (f 9) (f 12) z ∧ (f 9 = true → f 4 = true ∧ f 6 = true ∧ f 8 = true) ∧ (f 9 = false → True)) (by kernel_rfl) (by kernel_rfl) ?_ ?_ ?_
    · exact ⟨none, 0, none, 0, rfl, Sh.start (HZ.out.call (drew_below _ 1)), (fun h => by cases h), (fun _ => trivial)⟩
    · refine ⟨?_, ?_, ?_, ?_, ?_, ?_, ?_, ?_, ?_, ?_, ?_, ?_, ?_, trivial⟩
      · rintro f a0 z Q' ⟨A1, c1, A2, c2, rfl, hw⟩ hi hd hQ
        replace hQ := Lib.hid hQ
        simp [Iv.depsB, Region.binds] at hd
        try simp only [hi, hd, sl_true, sl_false, so_true, so_false]
        try simp only [hi, sl_true, sl_false, so_true, so_false]
        have HWW := Lib.hid hw
        clear hw
        go_wp2_with fail
        refine hQ.out _ _ ⟨A1, c1, A2, c2, ?_, ?_⟩
        · simp [Iv.upd, hi, hd, sl_true, sl_false, so_true, so_false]
        · simpa [Iv.upd, hi, hd] using HWW.out
      · rintro f a0 z Q' ⟨A1, c1, A2, c2, rfl, hw⟩ hi hd hQ
        replace hQ := Lib.hid hQ
        simp [Iv.depsB, Region.binds] at hd
        try simp only [hi, hd, sl_true, sl_false, so_true, so_false]
        try simp only [hi, sl_true, sl_false, so_true, so_false]
        have HWW := Lib.hid hw
        clear hw
        go_wp2_with fail
        refine hQ.out _ _ ⟨A1, c1, A2, c2, ?_, ?_⟩
        · simp [Iv.upd, hi, hd, sl_true, sl_false, so_true, so_false]
        · simpa [Iv.upd, hi, hd] using HWW.out
      · rintro f a0 z Q' ⟨A1, c1, A2, c2, rfl, hw⟩ hi hd hQ
        replace hQ := Lib.hid hQ
        simp [Iv.depsB, Region.binds] at hd
        try simp only [hi, hd, sl_true, sl_false, so_true, so_false]
        try simp only [hi, sl_true, sl_false, so_true, so_false]
        have HWW := Lib.hid hw
        clear hw
        go_wp2_with fail
        refine hQ.out _ _ ⟨A1, c1, A2, c2, ?_, ?_⟩
        · simp [Iv.upd, hi, hd, sl_true, sl_false, so_true, so_false]
        · simpa [Iv.upd, hi, hd] using HWW.out
      · rintro f a0 z Q' ⟨A1, c1, A2, c2, rfl, hw⟩ hi hd hQ
        replace hQ := Lib.hid hQ
        simp [Iv.depsB, Region.binds] at hd
        try simp only [hi, hd, sl_true, sl_false, so_true, so_false]
        try simp only [hi, sl_true, sl_false, so_true, so_false]
        have HWW := Lib.hid hw
        clear hw
        go_wp2_with fail
        refine hQ.out _ _ ⟨A1, c1, A2, c2, ?_, ?_⟩
        · simp [Iv.upd, hi, hd, sl_true, sl_false, so_true, so_false]
        · simpa [Iv.upd, hi, hd] using HWW.out
      · rintro f a0 z Q' ⟨A1, c1, A2, c2, rfl, hw⟩ hi hd hQ
        replace hQ := Lib.hid hQ
        simp [Iv.depsB, Region.binds] at hd
        try simp only [hi, hd, sl_true, sl_false, so_true, so_false]
        try simp only [hi, sl_true, sl_false, so_true, so_false]
        have hc : f 9 = false := by
          cases e5 : f 9 with
          | false => rfl
          | true => have := hw.2.1 e5; simp [hi] at this
        obtain ⟨es, hy⟩ := hw.1.zero hc
        have hv := hw.2.2 hc
        obtain ⟨⟨x0, x1⟩, ⟨x2, x3, x4, x5, x6⟩, -, -⟩ := hy.cells
        have hkw := hy.knows.at 0 rfl
        have b0 := hkw.cell 0
        have b1 := hkw.cell 1
        have b2 := hkw.cell 2
        have b3 := hkw.cell 3
        clear hkw
        clear hy
        have HWW := Lib.hid hw
        clear hw
        go_wp2_with fail
        refine hQ.out _ _ ⟨A1, c1, A2, c2, ?_, ?_⟩
        · simp [Iv.upd, hi, hd, hc, es, hv, sl_true, sl_false, so_true, so_false]
        · exact ⟨by simpa [Iv.upd, hc, es] using HWW.out.1, (fun e => by simp [Iv.upd, hc] at e), (fun e => by simpa [Iv.upd] using hv)⟩
      · rintro f a0 z Q' ⟨A1, c1, A2, c2, rfl, hw⟩ hi hd hQ
        replace hQ := Lib.hid hQ
        simp [Iv.depsB, Region.binds] at hd
        try simp only [hi, hd, sl_true, sl_false, so_true, so_false]
        try simp only [hi, sl_true, sl_false, so_true, so_false]
        have HWW := Lib.hid hw
        clear hw
        go_wp2_with fail
        refine hQ.out _ _ ⟨A1, c1, A2, c2, ?_, ?_⟩
        · simp [Iv.upd, hi, hd, sl_true, sl_false, so_true, so_false]
        · simpa [Iv.upd, hi, hd] using HWW.out
      · rintro f a0 z Q' ⟨A1, c1, A2, c2, rfl, hw⟩ hi hd hQ
        replace hQ := Lib.hid hQ
        simp [Iv.depsB, Region.binds] at hd
        try simp only [hi, hd, sl_true, sl_false, so_true, so_false]
        try simp only [hi, sl_true, sl_false, so_true, so_false]
        have hc : f 9 = false := by
          cases e5 : f 9 with
          | false => rfl
          | true => have := hw.2.1 e5; simp [hi] at this
        obtain ⟨es, hy⟩ := hw.1.zero hc
        have hv := hw.2.2 hc
        obtain ⟨⟨x0, x1⟩, ⟨x2, x3, x4, x5, x6⟩, -, -⟩ := hy.cells
        have hkw := hy.knows.at 0 rfl
        have b0 := hkw.cell 0
        have b1 := hkw.cell 1
        have b2 := hkw.cell 2
        have b3 := hkw.cell 3
        clear hkw
        clear hy
        have HWW := Lib.hid hw
        clear hw
        go_wp2_with fail
        refine hQ.out _ _ ⟨A1, c1, A2, c2, ?_, ?_⟩
        · simp [Iv.upd, hi, hd, hc, es, hv, sl_true, sl_false, so_true, so_false]
        · exact ⟨by simpa [Iv.upd, hc, es] using HWW.out.1, (fun e => by simp [Iv.upd, hc] at e), (fun e => by simpa [Iv.upd] using hv)⟩
      · rintro f a0 z Q' ⟨A1, c1, A2, c2, rfl, hw⟩ hi hd hQ
        replace hQ := Lib.hid hQ
        simp [Iv.depsB, Region.binds] at hd
        try simp only [hi, hd, sl_true, sl_false, so_true, so_false]
        try simp only [hi, sl_true, sl_false, so_true, so_false]
        have HWW := Lib.hid hw
        clear hw
        go_wp2_with fail
        refine hQ.out _ _ ⟨A1, c1, A2, c2, ?_, ?_⟩
        · simp [Iv.upd, hi, hd, sl_true, sl_false, so_true, so_false]
        · simpa [Iv.upd, hi, hd] using HWW.out
      · rintro f a0 z Q' ⟨A1, c1, A2, c2, rfl, hw⟩ hi hd hQ
        replace hQ := Lib.hid hQ
        simp [Iv.depsB, Region.binds] at hd
        try simp only [hi, hd, sl_true, sl_false, so_true, so_false]
        try simp only [hi, sl_true, sl_false, so_true, so_false]
        have hc : f 9 = false := by
          cases e5 : f 9 with
          | false => rfl
          | true => have := hw.2.1 e5; simp [hi] at this
        obtain ⟨es, hy⟩ := hw.1.zero hc
        have hv := hw.2.2 hc
        obtain ⟨⟨x0, x1⟩, ⟨x2, x3, x4, x5, x6⟩, -, -⟩ := hy.cells
        have hkw := hy.knows.at 0 rfl
        have b0 := hkw.cell 0
        have b1 := hkw.cell 1
        have b2 := hkw.cell 2
        have b3 := hkw.cell 3
        clear hkw
        clear hy
        have HWW := Lib.hid hw
        clear hw
        go_wp2_with fail
        refine hQ.out _ _ ⟨A1, c1, A2, c2, ?_, ?_⟩
        · simp [Iv.upd, hi, hd, hc, es, hv, sl_true, sl_false, so_true, so_false]
        · exact ⟨by simpa [Iv.upd, hc, es] using HWW.out.1, (fun e => by simp [Iv.upd, hc] at e), (fun e => by simpa [Iv.upd] using hv)⟩
      · rintro f a0 z Q' ⟨A1, c1, A2, c2, rfl, hw⟩ hi hd hQ
        replace hQ := Lib.hid hQ
        simp [Iv.depsB, Region.binds] at hd
        try simp only [hi, hd, sl_true, sl_false, so_true, so_false]
        try simp only [hi, sl_true, sl_false, so_true, so_false]
        have d4 : f 4 = true := by simp [hd]
        have d6 : f 6 = true := by simp [hd]
        have d8 : f 8 = true := by simp [hd]
        try simp only [d4, d6, d8, sl_true, so_true]
        obtain ⟨es, hy⟩ := hw.1.zero hi
        have hv := hw.2.2 hi
        have HYY := Lib.hid hy
        clear hw hy
        have HCC := Lib.hid (HRR.out z _ _ HYY.out)
        go_wp2_with fail
        refine HCC.out.mono ?_
        rintro e z1 ⟨B1, e1, B2, e2, rfl, hb3, hm3⟩
        have HO := Lib.hid (Sh.made HYY.out hb3 hm3)
        clear hb3 hm3 HCC
        go_wp2_with fail
        refine hQ.out _ _ ⟨B1, e1, B2, e2, ?_, ?_⟩
        · simp [Iv.upd, hi, hd, es, hv, d4, d6, d8, sl_true, sl_false, so_true, so_false]
        · exact ⟨by simpa [Iv.upd, hi, es] using HO.out, (fun _ => by simp [Iv.upd, d4, d6, d8]), (fun e => by simp [Iv.upd] at e)⟩
      · rintro f a0 z Q' ⟨A1, c1, A2, c2, rfl, hw⟩ hi hd hQ
        replace hQ := Lib.hid hQ
        simp [Iv.depsB, Region.binds] at hd
        try simp only [hi, hd, sl_true, sl_false, so_true, so_false]
        try simp only [hi, sl_true, sl_false, so_true, so_false]
        have HWW := Lib.hid hw
        clear hw
        go_wp2_with fail
        refine hQ.out _ _ ⟨A1, c1, A2, c2, ?_, ?_⟩
        · simp [Iv.upd, hi, hd, sl_true, sl_false, so_true, so_false]
        · simpa [Iv.upd, hi, hd] using HWW.out
      · rintro f a0 z Q' ⟨A1, c1, A2, c2, rfl, hw⟩ hi hd hQ
        replace hQ := Lib.hid hQ
        simp [Iv.depsB, Region.binds] at hd
        try simp only [hi, hd, sl_true, sl_false, so_true, so_false]
        try simp only [hi, sl_true, sl_false, so_true, so_false]
        have HWW := Lib.hid hw
        clear hw
        go_wp2_with fail
        refine hQ.out _ _ ⟨A1, c1, A2, c2, ?_, ?_⟩
        · simp [Iv.upd, hi, hd, sl_true, sl_false, so_true, so_false]
        · simpa [Iv.upd, hi, hd] using HWW.out
      · rintro f a0 z Q' ⟨A1, c1, A2, c2, rfl, hw⟩ hi hd hQ
        replace hQ := Lib.hid hQ
        simp [Iv.depsB, Region.binds] at hd
        try simp only [hi, hd, sl_true, sl_false, so_true, so_false]
        try simp only [hi, sl_true, sl_false, so_true, so_false]
        have d9 : f 9 = true := by simp [hd]
        have d11 : f 11 = true := by simp [hd]
        try simp only [d9, d11, sl_true, so_true]
        have dc : f 9 = true := by
          cases e5 : f 9 with
          | true => rfl
          | false => simp [e5] at d9
        obtain ⟨hy, -⟩ := hw.1.one dc hi
        have hsg := hw.1
        rw [dc, hi] at hsg
        have HO := Lib.hid hsg.setM
        have HL := Lib.hid hw.2.1
        obtain ⟨-, ⟨x2, x3, x4, x5, x6⟩, -, ⟨y2, y3, y4, y5, y6⟩, -⟩ := hy.cells
        clear hw hy hsg
        go_wp2_with fail
        refine hQ.out _ _ ⟨A1, c1, A2, c2, ?_, ?_⟩
        · simp [Iv.upd, hi, hd, dc, d9, d11, sl_true, sl_false, so_true, so_false]
        · exact ⟨by simpa [Iv.upd, hi, dc] using HO.out, (fun e => by have := HL.out dc; simpa [Iv.upd] using this), (fun e => by simp [Iv.upd, dc] at e)⟩
    · rintro f a0 z ⟨A1, c1, A2, c2, rfl, hw⟩ hall
      simp only [hall 0 (by decide), hall 1 (by decide), hall 2 (by decide), hall 3 (by decide), hall 4 (by decide), hall 5 (by decide), hall 6 (by decide), hall 7 (by decide), hall 8 (by decide), hall 9 (by decide), hall 10 (by decide), hall 11 (by decide), hall 12 (by decide), sl_true, ↓reduceIte, so_true, so_false] at hw ⊢
      clear hall
      have HY := Lib.hid (hw.1.two rfl).2
      clear hw HZ
      obtain ⟨⟨x0, x1⟩, -⟩ := HY.out.cells
      go_wp2_with fail
      go_ret
      exact ⟨rfl, F1, A1, c1, A2, c2, HY.out.few (fun r hr => by cases hr)⟩
end Go.Proofs.Ytlfigbgcackimaa

/- The law's both.does of kind 4 (written by gdo8b.py). -/
namespace Go.Proofs.Ytlfigbgcackimaa
open Go.RowKit Go.Fm Go.Dk Go.Wl Go.Iv
set_option linter.unusedVariables false
set_option linter.unusedSimpArgs false
set_option linter.unnecessarySimpa false
set_option maxRecDepth 100000

set_option maxHeartbeats 16000000 in
theorem does4 (W w : World) (y g p : Nat) (F : Nat → Prop) (d : D) (AL : Option Addr) (cL : Nat) (AK : Option Addr) (cK : Nat) (r : Rf) (AV : Option Addr) (cV : Nat) (u : Rw) (x : Ac) (hk : x.kind = 4) (h : Yv W w [] No y g (some p) F u.wv d AL cL AK cK r AV cV u) (o : Rok r) (hrel : Rel r d) (hga : GA W x) (o2 : Rok (r.crash x.keep).up) (hlen : 1 < (r.crash x.keep).up.logs.length) (hacts : (d.crash x.keep).up.acts + 1 ≤ 9223372036854775807) :
    Calls Try.prog 15 #[ptr y, .agg (encA x).toArray] w fun e w' => e = .returned (.bool true) ∧ ∃ q' F' A1 c1 A2 c2 A3 c3, (q' = none ↔ (opens (d.crash x.keep).up 1).2 ≠ 0) ∧ Yx W w' y g q' F' (opens (d.crash x.keep).up 1).1 A1 c1 A2 c2 (Wl.Rf.opn (r.crash x.keep).up 1).1 A3 c3 (Wl.Rf.opn (r.crash x.keep).up 1).2.1 := by
  have HX := Lib.hid (h.alloc w.heap.size rfl 44 (encA x).toArray)
  have HAR := Lib.hid (fun (z : World) (L : List Row) (F : Nat → Prop) (hy : Yv W z L No y g (some p) F u.wv d AL cL AK cK r AV cV u) => hy.crash hga)
  have HRR := Lib.hid (fun (z : World) (L : List Row) (F : Nat → Prop) (hy : Yv W z L No y g (some p) F u.wv (d.crash x.keep) AL cL AK cK r AV cV u) => (hy.rcrash o hga).mono (R' := fun e w' => ∃ A1 c1 A2 c2, e = .returned (vM A1 c1 A2 c2 (r.crash x.keep)) ∧ Below z.heap.size z w' ∧ IsM (Ox F y (some p) No) w' A1 c1 A2 c2 (r.crash x.keep).up) fun e w' ⟨a, b, c, e2, h1, h2, h3⟩ => ⟨a, b, c, e2, h1, h2, h3.up⟩)
  have HUR := Lib.hid (fun (z : World) (A1 : Option Addr) (c1 : Nat) (A2 : Option Addr) (c2 : Nat) => rup_any (r.crash x.keep) A1 c1 A2 c2 z)
  have HUP := Lib.hid (fun (z : World) (L : List Row) (F : Nat → Prop) (A1 : Option Addr) (c1 : Nat) (A2 : Option Addr) (c2 : Nat) (hy : Yv W z L No y g (some p) F u.wv (d.crash x.keep) A1 c1 A2 c2 (r.crash x.keep).up AV cV u) => hy.up)
  have HOP := Lib.hid (fun (z : World) (L : List Row) (F : Nat → Prop) (A1 : Option Addr) (c1 : Nat) (A2 : Option Addr) (c2 : Nat) (hy : Yv W z L No y g (some p) F u.wv (d.crash x.keep).up A1 c1 A2 c2 (r.crash x.keep).up AV cV u) => bopen8 W z y g (some p) F _ A1 c1 A2 c2 _ AV cV u hy.yx o2 ((hrel.crash x.keep).up) hlen hacts)
  clear h o hrel hga o2 hlen hacts
  generalize (d.crash x.keep).up = d2 at *
  generalize d.crash x.keep = d' at *
  generalize (r.crash x.keep).up = Q2 at *
  generalize r.crash x.keep = Q at *
  obtain ⟨kd, n, s, A, cap, keep⟩ := x
  simp only at hk HAR HRR HUR HUP HOP
  subst hk
  have hea : ∀ k, (encA ⟨k, n, s, A, cap, keep⟩).toArray = #[.int .i64 k, .int .i64 n, .string (txt s), .slice A keep.length cap] := fun k => rfl
  rw [hea] at HX ⊢
  clear hea
  unfold vM at *
  have b0 := (HX.out.knows.at 0 rfl).cell 0
  go_enter Try.func15, Try.ntmps15
  go_wp2_with fail
  refine Iv.region (fun f aa z => aa = ⟨#[ptr y, Value.agg #[Value.int IntKind.i64 4, Value.int IntKind.i64 n, Value.string (txt s), Value.slice A keep.length cap], undef, Value.pointer (some { block := w.heap.size, off := 0 }), Value.bool false, Value.int IntKind.i64 0, Value.int IntKind.i64 0, undef, undef, Value.pointer (some { block := w.heap.size, off := 0 }), Value.int IntKind.i64 4, undef, undef, Value.bool false, Value.bool false, undef, undef, undef, undef, undef, undef, undef, undef, undef, undef, undef, undef, undef, undef, undef, undef, undef, undef, undef, undef, undef, undef, undef, undef, undef, undef, undef, undef, undef, undef, undef, undef, undef, undef, undef, undef, undef, undef, undef, undef, undef, undef, undef, Value.bool false, Value.bool false, undef, undef, undef, undef, undef, undef, undef, undef, undef, undef, undef, undef, undef, undef, undef, undef, undef, undef, undef, undef, undef, undef, undef, undef, Value.bool false, Value.bool false, undef, undef, undef, undef, undef, undef, undef, undef, undef, undef, undef, undef, undef, undef, undef, undef, undef, undef, undef, undef, undef, undef, undef, undef, undef, undef, undef, undef, undef, Value.bool false, Value.bool false, undef, undef, undef, undef, undef, undef, undef, undef, undef, undef, undef, undef, undef, undef, undef, undef, undef, undef, undef, undef, undef, Value.bool true, Value.bool true, sl (f 0) (ptr y), sl (f 1) (.pointer (some ⟨y, 0, none⟩)), sl (f 2) (.pointer (some ⟨y, 0, none⟩)), sl (f 3) (ptr g), sl (f 4) (.pointer (some ⟨w.heap.size, 3, none⟩)), sl (f 5) (.slice A keep.length cap), sl (f 6) (.tuple #[]), undef, undef, undef, undef, undef, undef, undef, undef, undef, undef, undef, undef, undef, undef, undef, undef, undef, undef, undef, undef, undef, undef, undef, undef, undef, undef, undef, undef, undef, undef, undef, undef, undef, undef, undef, undef, undef, undef, undef, undef, undef, undef, undef, undef, undef, undef, undef, undef, undef, undef, undef], []⟩ ∧ (f 6 = false → Yv W z [(w.heap.size, 44, #[.int .i64 4, .int .i64 n, .string (txt s), .slice A keep.length cap])] No y g (some p) F u.wv d AL cL AK cK r AV cV u) ∧ (f 6 = true → (f 3 = true ∧ f 5 = true) ∧ ∃ F9, Yv W z [(w.heap.size, 44, #[.int .i64 4, .int .i64 n, .string (txt s), .slice A keep.length cap])] No y g (some p) F9 u.wv d' AL cL AK cK r AV cV u)) (by kernel_rfl) (by kernel_rfl) ?_ ?_ ?_
  · exact ⟨rfl, (fun _ => HX.out.call (drew_below _ 1)), (fun h => by cases h)⟩
  · refine ⟨?_, ?_, ?_, ?_, ?_, ?_, ?_, trivial⟩
    · rintro f a0 z Q' ⟨rfl, hw⟩ hi hd hQ
      replace hQ := Lib.hid hQ
      simp [Iv.depsB, Region.binds] at hd
      try simp only [hi, hd, sl_true, sl_false, so_true, so_false]
      try simp only [hi, sl_true, sl_false, so_true, so_false]
      have HWW := Lib.hid hw
      clear hw
      go_wp2_with fail
      refine hQ.out _ _ ⟨?_, ?_⟩
      · simp [Iv.upd, hi, hd, sl_true, sl_false, so_true, so_false]
      · simpa [Iv.upd, hi, hd] using HWW.out
    · rintro f a0 z Q' ⟨rfl, hw⟩ hi hd hQ
      replace hQ := Lib.hid hQ
      simp [Iv.depsB, Region.binds] at hd
      try simp only [hi, hd, sl_true, sl_false, so_true, so_false]
      try simp only [hi, sl_true, sl_false, so_true, so_false]
      have HWW := Lib.hid hw
      clear hw
      go_wp2_with fail
      refine hQ.out _ _ ⟨?_, ?_⟩
      · simp [Iv.upd, hi, hd, sl_true, sl_false, so_true, so_false]
      · simpa [Iv.upd, hi, hd] using HWW.out
    · rintro f a0 z Q' ⟨rfl, hw⟩ hi hd hQ
      replace hQ := Lib.hid hQ
      simp [Iv.depsB, Region.binds] at hd
      try simp only [hi, hd, sl_true, sl_false, so_true, so_false]
      try simp only [hi, sl_true, sl_false, so_true, so_false]
      have HWW := Lib.hid hw
      clear hw
      go_wp2_with fail
      refine hQ.out _ _ ⟨?_, ?_⟩
      · simp [Iv.upd, hi, hd, sl_true, sl_false, so_true, so_false]
      · simpa [Iv.upd, hi, hd] using HWW.out
    · rintro f a0 z Q' ⟨rfl, hw⟩ hi hd hQ
      replace hQ := Lib.hid hQ
      simp [Iv.depsB, Region.binds] at hd
      try simp only [hi, hd, sl_true, sl_false, so_true, so_false]
      try simp only [hi, sl_true, sl_false, so_true, so_false]
      have hc : f 6 = false := by
        cases e5 : f 6 with
        | false => rfl
        | true => have := (hw.2 e5).1; simp [hi] at this
      obtain ⟨⟨x0, x1⟩, ⟨x2, x3, x4, x5, x6⟩, -, -⟩ := (hw.1 hc).cells
      have hkw := (hw.1 hc).knows.at 0 rfl
      have b0 := hkw.cell 0
      have b1 := hkw.cell 1
      have b2 := hkw.cell 2
      have b3 := hkw.cell 3
      clear hkw
      have HWW := Lib.hid hw
      clear hw
      go_wp2_with fail
      refine hQ.out _ _ ⟨?_, ?_⟩
      · simp [Iv.upd, hi, hd, hc, sl_true, sl_false, so_true, so_false]
      · simpa [Iv.upd, hi, hd, hc] using HWW.out
    · rintro f a0 z Q' ⟨rfl, hw⟩ hi hd hQ
      replace hQ := Lib.hid hQ
      simp [Iv.depsB, Region.binds] at hd
      try simp only [hi, hd, sl_true, sl_false, so_true, so_false]
      try simp only [hi, sl_true, sl_false, so_true, so_false]
      have HWW := Lib.hid hw
      clear hw
      go_wp2_with fail
      refine hQ.out _ _ ⟨?_, ?_⟩
      · simp [Iv.upd, hi, hd, sl_true, sl_false, so_true, so_false]
      · simpa [Iv.upd, hi, hd] using HWW.out
    · rintro f a0 z Q' ⟨rfl, hw⟩ hi hd hQ
      replace hQ := Lib.hid hQ
      simp [Iv.depsB, Region.binds] at hd
      try simp only [hi, hd, sl_true, sl_false, so_true, so_false]
      try simp only [hi, sl_true, sl_false, so_true, so_false]
      have hc : f 6 = false := by
        cases e5 : f 6 with
        | false => rfl
        | true => have := (hw.2 e5).1; simp [hi] at this
      obtain ⟨⟨x0, x1⟩, ⟨x2, x3, x4, x5, x6⟩, -, -⟩ := (hw.1 hc).cells
      have hkw := (hw.1 hc).knows.at 0 rfl
      have b0 := hkw.cell 0
      have b1 := hkw.cell 1
      have b2 := hkw.cell 2
      have b3 := hkw.cell 3
      clear hkw
      have HWW := Lib.hid hw
      clear hw
      go_wp2_with fail
      refine hQ.out _ _ ⟨?_, ?_⟩
      · simp [Iv.upd, hi, hd, hc, sl_true, sl_false, so_true, so_false]
      · simpa [Iv.upd, hi, hd, hc] using HWW.out
    · rintro f a0 z Q' ⟨rfl, hw⟩ hi hd hQ
      replace hQ := Lib.hid hQ
      simp [Iv.depsB, Region.binds] at hd
      try simp only [hi, hd, sl_true, sl_false, so_true, so_false]
      try simp only [hi, sl_true, sl_false, so_true, so_false]
      have d3 : f 3 = true := by simp [hd]
      have d5 : f 5 = true := by simp [hd]
      try simp only [d3, d5, sl_true, so_true]
      have HYY := Lib.hid (hw.1 hi)
      clear hw
      have HCC := Lib.hid (HAR.out z _ _ HYY.out)
      go_wp2_with fail
      refine HCC.out.mono ?_
      rintro e z1 ⟨rfl, F9, hy9⟩
      have HY2 := Lib.hid hy9
      clear hy9 HCC HYY
      go_wp2_with fail
      refine hQ.out _ _ ⟨?_, ?_⟩
      · simp [Iv.upd, hi, hd, d3, d5, sl_true, sl_false, so_true, so_false]
      · exact ⟨(fun e => by simp [Iv.upd] at e), fun _ => ⟨by simp [Iv.upd, d3, d5], F9, HY2.out⟩⟩
  · rintro f a0 z ⟨rfl, hw⟩ hall
    simp only [hall 0 (by decide), hall 1 (by decide), hall 2 (by decide), hall 3 (by decide), hall 4 (by decide), hall 5 (by decide), hall 6 (by decide), sl_true, ↓reduceIte, so_true, so_false] at hw ⊢
    clear hall
    obtain ⟨F1, hy9⟩ := (hw.2 trivial).2
    have HZ := Lib.hid hy9
    clear hw hy9 HX
    go_wp2_with fail
    refine Iv.region (fun f aa z => ∃ A1 c1 A2 c2, aa = ⟨#[ptr y, Value.agg #[Value.int IntKind.i64 4, Value.int IntKind.i64 n, Value.string (txt s), Value.slice A keep.length cap], undef, Value.pointer (some { block := w.heap.size, off := 0 }), Value.bool false, Value.int IntKind.i64 0, Value.int IntKind.i64 0, undef, undef, Value.pointer (some { block := w.heap.size, off := 0 }), Value.int IntKind.i64 4, undef, undef, Value.bool false, Value.bool false, undef, undef, undef, undef, undef, undef, undef, undef, undef, undef, undef, undef, undef, undef, undef, undef, undef, undef, undef, undef, undef, undef, undef, undef, undef, undef, undef, undef, undef, undef, undef, undef, undef, undef, undef, undef, undef, undef, undef, undef, undef, undef, undef, Value.bool false, Value.bool false, undef, undef, undef, undef, undef, undef, undef, undef, undef, undef, undef, undef, undef, undef, undef, undef, undef, undef, undef, undef, undef, undef, undef, undef, Value.bool false, Value.bool false, undef, undef, undef, undef, undef, undef, undef, undef, undef, undef, undef, undef, undef, undef, undef, undef, undef, undef, undef, undef, undef, undef, undef, undef, undef, undef, undef, undef, undef, Value.bool false, Value.bool false, undef, undef, undef, undef, undef, undef, undef, undef, undef, undef, undef, undef, undef, undef, undef, undef, undef, undef, undef, undef, undef, Value.bool true, Value.bool true, ptr y, Value.pointer (some { block := y, off := 0 }), Value.pointer (some { block := y, off := 0 }), ptr g, Value.pointer (some { block := w.heap.size, off := 3 }), Value.slice A keep.length cap, Value.tuple #[], sl (f 0) (ptr y), sl (f 1) (ptr y), sl (f 2) (.pointer (some ⟨y, 0, none⟩)), sl (f 3) (.pointer (some ⟨y, 2, none⟩)), sl (f 4) (.agg #[.slice AL r.logs.length cL, .int .i64 r.acts, .bool r.off, .int .i64 r.armed, .slice AK r.keep.length cK]), sl (f 5) (.pointer (some ⟨w.heap.size, 3, none⟩)), sl (f 6) (.slice A keep.length cap), sl (f 7) (.agg #[.slice A1 Q.logs.length c1, .int .i64 Q.acts, .bool Q.off, .int .i64 Q.armed, .slice A2 Q.keep.length c2]), sl (f 8) (.agg #[.slice A1 Q2.logs.length c1, .int .i64 Q2.acts, .bool Q2.off, .int .i64 Q2.armed, .slice A2 Q2.keep.length c2]), sl (f 9) (.pointer (some ⟨y, 0, none⟩)), sl (f 10) (.pointer (some ⟨y, 2, none⟩)), undef, undef, undef, undef, undef, undef, undef, undef, undef, undef, undef, undef, undef, undef, undef, undef, undef, undef, undef, undef, undef, undef, undef, undef, undef, undef, undef, undef, undef, undef, undef, undef, undef, undef, undef, undef, undef, undef, undef, undef], []⟩ ∧ Sh W [(w.heap.size, 44, #[.int .i64 4, .int .i64 n, .string (txt s), .slice A keep.length cap])] y g (some p) F1 u.wv d' AL cL AK cK r AV cV u Q2 A1 c1 A2 c2 (f 7) (f 11) z ∧ (f 7 = true → f 4 = true ∧ f 6 = true) ∧ (f 7 = false → f 8 = false) ∧ (f 11 = true → f 8 = true)) (by kernel_rfl) (by kernel_rfl) ?_ ?_ ?_
    · exact ⟨none, 0, none, 0, rfl, Sh.start (HZ.out.call (drew_below _ 1)), (fun h => by cases h), (fun _ => rfl), (fun h => by cases h)⟩
    · refine ⟨?_, ?_, ?_, ?_, ?_, ?_, ?_, ?_, ?_, ?_, ?_, ?_, trivial⟩
      · rintro f a0 z Q' ⟨A1, c1, A2, c2, rfl, hw⟩ hi hd hQ
        replace hQ := Lib.hid hQ
        simp [Iv.depsB, Region.binds] at hd
        try simp only [hi, hd, sl_true, sl_false, so_true, so_false]
        try simp only [hi, sl_true, sl_false, so_true, so_false]
        have HWW := Lib.hid hw
        clear hw
        go_wp2_with fail
        refine hQ.out _ _ ⟨A1, c1, A2, c2, ?_, ?_⟩
        · simp [Iv.upd, hi, hd, sl_true, sl_false, so_true, so_false]
        · simpa [Iv.upd, hi, hd] using HWW.out
      · rintro f a0 z Q' ⟨A1, c1, A2, c2, rfl, hw⟩ hi hd hQ
        replace hQ := Lib.hid hQ
        simp [Iv.depsB, Region.binds] at hd
        try simp only [hi, hd, sl_true, sl_false, so_true, so_false]
        try simp only [hi, sl_true, sl_false, so_true, so_false]
        have HWW := Lib.hid hw
        clear hw
        go_wp2_with fail
        refine hQ.out _ _ ⟨A1, c1, A2, c2, ?_, ?_⟩
        · simp [Iv.upd, hi, hd, sl_true, sl_false, so_true, so_false]
        · simpa [Iv.upd, hi, hd] using HWW.out
      · rintro f a0 z Q' ⟨A1, c1, A2, c2, rfl, hw⟩ hi hd hQ
        replace hQ := Lib.hid hQ
        simp [Iv.depsB, Region.binds] at hd
        try simp only [hi, hd, sl_true, sl_false, so_true, so_false]
        try simp only [hi, sl_true, sl_false, so_true, so_false]
        have HWW := Lib.hid hw
        clear hw
        go_wp2_with fail
        refine hQ.out _ _ ⟨A1, c1, A2, c2, ?_, ?_⟩
        · simp [Iv.upd, hi, hd, sl_true, sl_false, so_true, so_false]
        · simpa [Iv.upd, hi, hd] using HWW.out
      · rintro f a0 z Q' ⟨A1, c1, A2, c2, rfl, hw⟩ hi hd hQ
        replace hQ := Lib.hid hQ
        simp [Iv.depsB, Region.binds] at hd
        try simp only [hi, hd, sl_true, sl_false, so_true, so_false]
        try simp only [hi, sl_true, sl_false, so_true, so_false]
        have HWW := Lib.hid hw
        clear hw
        go_wp2_with fail
        refine hQ.out _ _ ⟨A1, c1, A2, c2, ?_, ?_⟩
        · simp [Iv.upd, hi, hd, sl_true, sl_false, so_true, so_false]
        · simpa [Iv.upd, hi, hd] using HWW.out
      · rintro f a0 z Q' ⟨A1, c1, A2, c2, rfl, hw⟩ hi hd hQ
        replace hQ := Lib.hid hQ
        simp [Iv.depsB, Region.binds] at hd
        try simp only [hi, hd, sl_true, sl_false, so_true, so_false]
        try simp only [hi, sl_true, sl_false, so_true, so_false]
        have hc : f 7 = false := by
          cases e5 : f 7 with
          | false => rfl
          | true => have := hw.2.1 e5; simp [hi] at this
        obtain ⟨es, hy⟩ := hw.1.zero hc
        have hv := hw.2.2.1 hc
        obtain ⟨⟨x0, x1⟩, ⟨x2, x3, x4, x5, x6⟩, -, -⟩ := hy.cells
        have hkw := hy.knows.at 0 rfl
        have b0 := hkw.cell 0
        have b1 := hkw.cell 1
        have b2 := hkw.cell 2
        have b3 := hkw.cell 3
        clear hkw
        clear hy
        have HWW := Lib.hid hw
        clear hw
        go_wp2_with fail
        refine hQ.out _ _ ⟨A1, c1, A2, c2, ?_, ?_⟩
        · simp [Iv.upd, hi, hd, hc, es, hv, sl_true, sl_false, so_true, so_false]
        · exact ⟨by simpa [Iv.upd, hc, es] using HWW.out.1, (fun e => by simp [Iv.upd, hc] at e), (fun e => by simpa [Iv.upd] using hv), (fun e => by simp [Iv.upd, es] at e)⟩
      · rintro f a0 z Q' ⟨A1, c1, A2, c2, rfl, hw⟩ hi hd hQ
        replace hQ := Lib.hid hQ
        simp [Iv.depsB, Region.binds] at hd
        try simp only [hi, hd, sl_true, sl_false, so_true, so_false]
        try simp only [hi, sl_true, sl_false, so_true, so_false]
        have HWW := Lib.hid hw
        clear hw
        go_wp2_with fail
        refine hQ.out _ _ ⟨A1, c1, A2, c2, ?_, ?_⟩
        · simp [Iv.upd, hi, hd, sl_true, sl_false, so_true, so_false]
        · simpa [Iv.upd, hi, hd] using HWW.out
      · rintro f a0 z Q' ⟨A1, c1, A2, c2, rfl, hw⟩ hi hd hQ
        replace hQ := Lib.hid hQ
        simp [Iv.depsB, Region.binds] at hd
        try simp only [hi, hd, sl_true, sl_false, so_true, so_false]
        try simp only [hi, sl_true, sl_false, so_true, so_false]
        have hc : f 7 = false := by
          cases e5 : f 7 with
          | false => rfl
          | true => have := hw.2.1 e5; simp [hi] at this
        obtain ⟨es, hy⟩ := hw.1.zero hc
        have hv := hw.2.2.1 hc
        obtain ⟨⟨x0, x1⟩, ⟨x2, x3, x4, x5, x6⟩, -, -⟩ := hy.cells
        have hkw := hy.knows.at 0 rfl
        have b0 := hkw.cell 0
        have b1 := hkw.cell 1
        have b2 := hkw.cell 2
        have b3 := hkw.cell 3
        clear hkw
        clear hy
        have HWW := Lib.hid hw
        clear hw
        go_wp2_with fail
        refine hQ.out _ _ ⟨A1, c1, A2, c2, ?_, ?_⟩
        · simp [Iv.upd, hi, hd, hc, es, hv, sl_true, sl_false, so_true, so_false]
        · exact ⟨by simpa [Iv.upd, hc, es] using HWW.out.1, (fun e => by simp [Iv.upd, hc] at e), (fun e => by simpa [Iv.upd] using hv), (fun e => by simp [Iv.upd, es] at e)⟩
      · rintro f a0 z Q' ⟨A1, c1, A2, c2, rfl, hw⟩ hi hd hQ
        replace hQ := Lib.hid hQ
        simp [Iv.depsB, Region.binds] at hd
        try simp only [hi, hd, sl_true, sl_false, so_true, so_false]
        try simp only [hi, sl_true, sl_false, so_true, so_false]
        have d4 : f 4 = true := by simp [hd]
        have d6 : f 6 = true := by simp [hd]
        try simp only [d4, d6, sl_true, so_true]
        obtain ⟨es, hy⟩ := hw.1.zero hi
        have hv := hw.2.2.1 hi
        have HYY := Lib.hid hy
        clear hw hy
        have HCC := Lib.hid (HRR.out z _ _ HYY.out)
        go_wp2_with fail
        refine HCC.out.mono ?_
        rintro e z1 ⟨B1, e1, B2, e2, rfl, hb3, hm3⟩
        have HO := Lib.hid (Sh.made HYY.out hb3 hm3)
        clear hb3 hm3 HCC
        go_wp2_with fail
        refine hQ.out _ _ ⟨B1, e1, B2, e2, ?_, ?_⟩
        · simp [Iv.upd, hi, hd, es, hv, d4, d6, sl_true, sl_false, so_true, so_false]
        · exact ⟨by simpa [Iv.upd, hi, es] using HO.out, (fun _ => by simp [Iv.upd, d4, d6]), (fun e => by simp [Iv.upd] at e), (fun e => by simp [Iv.upd, es] at e)⟩
      · rintro f a0 z Q' ⟨A1, c1, A2, c2, rfl, hw⟩ hi hd hQ
        replace hQ := Lib.hid hQ
        simp [Iv.depsB, Region.binds] at hd
        try simp only [hi, hd, sl_true, sl_false, so_true, so_false]
        try simp only [hi, sl_true, sl_false, so_true, so_false]
        have d7 : f 7 = true := by simp [hd]
        try simp only [d7, sl_true, so_true]
        have hs2 : f 11 = false := by
          cases e5 : f 11 with
          | false => rfl
          | true => exact absurd (hw.2.2.2 e5) (by simp [hi])
        have hsg := hw.1
        rw [d7, hs2] at hsg
        have HSG := Lib.hid hsg
        have HL := Lib.hid hw.2.1
        clear hw hsg
        have HCC := Lib.hid (HUR.out z A1 c1 A2 c2)
        go_wp2_with fail
        refine HCC.out.mono ?_
        rintro e z1 ⟨rfl, hb3⟩
        have HO := Lib.hid (HSG.out.call hb3)
        clear hb3 HCC
        go_wp2_with fail
        refine hQ.out _ _ ⟨A1, c1, A2, c2, ?_, ?_⟩
        · simp [Iv.upd, hi, hd, hs2, d7, sl_true, sl_false, so_true, so_false]
        · exact ⟨by simpa [Iv.upd, hi, hs2, d7] using HO.out, (fun e => by have := HL.out d7; simpa [Iv.upd] using this), (fun e => by simp [Iv.upd, d7] at e), (fun e => by simp [Iv.upd])⟩
      · rintro f a0 z Q' ⟨A1, c1, A2, c2, rfl, hw⟩ hi hd hQ
        replace hQ := Lib.hid hQ
        simp [Iv.depsB, Region.binds] at hd
        try simp only [hi, hd, sl_true, sl_false, so_true, so_false]
        try simp only [hi, sl_true, sl_false, so_true, so_false]
        have HWW := Lib.hid hw
        clear hw
        go_wp2_with fail
        refine hQ.out _ _ ⟨A1, c1, A2, c2, ?_, ?_⟩
        · simp [Iv.upd, hi, hd, sl_true, sl_false, so_true, so_false]
        · simpa [Iv.upd, hi, hd] using HWW.out
      · rintro f a0 z Q' ⟨A1, c1, A2, c2, rfl, hw⟩ hi hd hQ
        replace hQ := Lib.hid hQ
        simp [Iv.depsB, Region.binds] at hd
        try simp only [hi, hd, sl_true, sl_false, so_true, so_false]
        try simp only [hi, sl_true, sl_false, so_true, so_false]
        have HWW := Lib.hid hw
        clear hw
        go_wp2_with fail
        refine hQ.out _ _ ⟨A1, c1, A2, c2, ?_, ?_⟩
        · simp [Iv.upd, hi, hd, sl_true, sl_false, so_true, so_false]
        · simpa [Iv.upd, hi, hd] using HWW.out
      · rintro f a0 z Q' ⟨A1, c1, A2, c2, rfl, hw⟩ hi hd hQ
        replace hQ := Lib.hid hQ
        simp [Iv.depsB, Region.binds] at hd
        try simp only [hi, hd, sl_true, sl_false, so_true, so_false]
        try simp only [hi, sl_true, sl_false, so_true, so_false]
        have d8 : f 8 = true := by simp [hd]
        have d10 : f 10 = true := by simp [hd]
        try simp only [d8, d10, sl_true, so_true]
        have dc : f 7 = true := by
          cases e5 : f 7 with
          | true => rfl
          | false => have := hw.2.2.1 e5; simp [d8] at this
        obtain ⟨hy, -⟩ := hw.1.one dc hi
        have hsg := hw.1
        rw [dc, hi] at hsg
        have HO := Lib.hid hsg.setM
        have HL := Lib.hid hw.2.1
        obtain ⟨-, ⟨x2, x3, x4, x5, x6⟩, -, ⟨y2, y3, y4, y5, y6⟩, -⟩ := hy.cells
        clear hw hy hsg
        go_wp2_with fail
        refine hQ.out _ _ ⟨A1, c1, A2, c2, ?_, ?_⟩
        · simp [Iv.upd, hi, hd, dc, d8, d10, sl_true, sl_false, so_true, so_false]
        · exact ⟨by simpa [Iv.upd, hi, dc] using HO.out, (fun e => by have := HL.out dc; simpa [Iv.upd] using this), (fun e => by simp [Iv.upd, dc] at e), (fun e => by simp [Iv.upd, d8])⟩
    · rintro f a0 z ⟨A1, c1, A2, c2, rfl, hw⟩ hall
      simp only [hall 0 (by decide), hall 1 (by decide), hall 2 (by decide), hall 3 (by decide), hall 4 (by decide), hall 5 (by decide), hall 6 (by decide), hall 7 (by decide), hall 8 (by decide), hall 9 (by decide), hall 10 (by decide), hall 11 (by decide), sl_true, ↓reduceIte, so_true, so_false] at hw ⊢
      clear hall
      have HY := Lib.hid (hw.1.two rfl).2
      clear hw HZ
      obtain ⟨⟨x0, x1⟩, -⟩ := HY.out.cells
      go_wp2_with fail
      refine (HUP.out _ _ _ _ _ _ _ HY.out).mono ?_
      rintro e z2 ⟨rfl, F2, hy2⟩
      have HY2 := Lib.hid hy2
      clear hy2 HY HUP HUR HRR HAR
      go_wp2_with fail
      refine (HOP.out _ _ _ _ _ _ _ HY2.out).mono ?_
      rintro e z3 ⟨rfl, q', F', B1, e1, B2, e2, B3, e3, hq, hx⟩
      have HE := Lib.hid (And.intro hq hx)
      clear hq hx HOP HY2
      go_wp2_with fail
      go_ret
      exact ⟨rfl, q', F', B1, e1, B2, e2, B3, e3, HE.out.1, HE.out.2⟩
end Go.Proofs.Ytlfigbgcackimaa

/- The law's both.does of kind 5 (written by gdo8b.py). -/
namespace Go.Proofs.Ytlfigbgcackimaa
open Go.RowKit Go.Fm Go.Dk Go.Wl Go.Iv
set_option linter.unusedVariables false
set_option linter.unusedSimpArgs false
set_option linter.unnecessarySimpa false
set_option maxRecDepth 100000

set_option maxHeartbeats 16000000 in
theorem does5 (W w : World) (y g p : Nat) (F : Nat → Prop) (d : D) (AL : Option Addr) (cL : Nat) (AK : Option Addr) (cK : Nat) (r : Rf) (AV : Option Addr) (cV : Nat) (u : Rw) (x : Ac) (hk : x.kind = 5) (h : Yv W w [] No y g (some p) F u.wv d AL cL AK cK r AV cV u) (o : Rok r) (hrel : Rel r d) (hs : x.s.length ≤ 1000) (ha : d.acts + 1 ≤ 9223372036854775807) (o2 : Rok (r.act 0 1 x.s).1) (hlen : 1 < (r.act 0 1 x.s).1.logs.length) (hacts : (d.append 1 x.s).1.acts + 1 ≤ 9223372036854775807) :
    Calls Try.prog 15 #[ptr y, .agg (encA x).toArray] w fun e w' => e = .returned (.bool true) ∧ ∃ q' F' A1 c1 A2 c2 A3 c3, (q' = none ↔ (opens (d.append 1 x.s).1 1).2 ≠ 0) ∧ Yx W w' y g q' F' (opens (d.append 1 x.s).1 1).1 A1 c1 A2 c2 (Wl.Rf.opn (r.act 0 1 x.s).1 1).1 A3 c3 (Wl.Rf.opn (r.act 0 1 x.s).1 1).2.1 := by
  have HX := Lib.hid (h.alloc w.heap.size rfl 44 (encA x).toArray)
  obtain ⟨e1, hrel2⟩ := hrel.append 1 x.s
  have HAR := Lib.hid (fun (z : World) (L : List Row) (F : Nat → Prop) (hy : Yv W z L No y g (some p) F u.wv d AL cL AK cK r AV cV u) (A : Option Addr) (cap : Nat) (hin : InB z A cap x.s) => hy.append (by omega) ha hin)
  have HRR := Lib.hid (fun (z : World) (L : List Row) (F : Nat → Prop) (hy : Yv W z L No y g (some p) F u.wv (d.append 1 x.s).1 AL cL AK cK r AV cV u) => hy.ract o (b := x.s) (by omega))
  have HOP := Lib.hid (fun (z : World) (L : List Row) (F : Nat → Prop) (A1 : Option Addr) (c1 : Nat) (A2 : Option Addr) (c2 : Nat) (hy : Yv W z L No y g (some p) F u.wv (d.append 1 x.s).1 A1 c1 A2 c2 (r.act 0 1 x.s).1 AV cV u) => bopen8 W z y g (some p) F _ A1 c1 A2 c2 _ AV cV u hy.yx o2 hrel2 hlen hacts)
  rw [e1] at HAR
  clear h o hrel hrel2 e1 o2 hlen hacts
  generalize (r.act 0 1 x.s).2 = er at *
  generalize (d.append 1 x.s).1 = d' at *
  generalize (r.act 0 1 x.s).1 = Q at *
  obtain ⟨kd, n, s, A, cap, keep⟩ := x
  simp only at hk hs HAR HRR
  subst hk
  have hea : ∀ k, (encA ⟨k, n, s, A, cap, keep⟩).toArray = #[.int .i64 k, .int .i64 n, .string (txt s), .slice A keep.length cap] := fun k => rfl
  rw [hea] at HX ⊢
  clear hea
  unfold vM at *
  have b0 := (HX.out.knows.at 0 rfl).cell 0
  go_enter Try.func15, Try.ntmps15
  go_wp2_with fail
  refine Iv.region (fun f aa z => ∃ q cq, aa = ⟨#[ptr y, Value.agg #[Value.int IntKind.i64 5, Value.int IntKind.i64 n, Value.string (txt s), Value.slice A keep.length cap], undef, Value.pointer (some { block := w.heap.size, off := 0 }), Value.bool false, so (f 8) (.int .i64 er) (.int .i64 0), Value.int IntKind.i64 0, undef, undef, Value.pointer (some { block := w.heap.size, off := 0 }), Value.int IntKind.i64 5, undef, undef, Value.bool false, Value.bool false, undef, undef, undef, undef, undef, undef, undef, undef, undef, undef, undef, undef, undef, undef, undef, undef, undef, undef, undef, undef, undef, undef, undef, undef, undef, undef, undef, undef, undef, undef, undef, undef, undef, undef, undef, undef, undef, undef, undef, undef, undef, undef, undef, Value.bool false, Value.bool false, undef, undef, undef, undef, undef, undef, undef, undef, undef, undef, undef, undef, undef, undef, undef, undef, undef, undef, undef, undef, undef, undef, undef, undef, Value.bool false, Value.bool false, undef, undef, undef, undef, undef, undef, undef, undef, undef, undef, undef, undef, undef, undef, undef, undef, undef, undef, undef, undef, undef, undef, undef, undef, undef, undef, undef, undef, undef, Value.bool false, Value.bool false, undef, undef, undef, undef, undef, undef, undef, undef, undef, undef, undef, undef, undef, undef, undef, undef, undef, undef, undef, undef, undef, Value.bool false, Value.bool false, undef, undef, undef, undef, undef, undef, undef, undef, undef, undef, undef, undef, undef, undef, undef, undef, undef, undef, undef, undef, undef, undef, undef, undef, undef, Value.bool true, Value.bool true, sl (f 0) (ptr y), sl (f 1) (.pointer (some ⟨y, 0, none⟩)), sl (f 2) (.pointer (some ⟨y, 0, none⟩)), sl (f 3) (ptr g), sl (f 4) (.pointer (some ⟨w.heap.size, 2, none⟩)), sl (f 5) (.string (txt s)), sl (f 6) (.slice (some ⟨q, 0, none⟩) s.length cq), sl (f 7) (.int .i64 er), undef, undef, undef, undef, undef, undef, undef, undef, undef, undef, undef, undef, undef, undef, undef, undef, undef, undef, undef, undef, undef, undef, undef], []⟩ ∧ (f 7 = false → Yv W z [(w.heap.size, 44, #[.int .i64 5, .int .i64 n, .string (txt s), .slice A keep.length cap])] No y g (some p) F u.wv d AL cL AK cK r AV cV u) ∧ (f 7 = true → (f 3 = true ∧ f 6 = true) ∧ ∃ F9, Yv W z [(w.heap.size, 44, #[.int .i64 5, .int .i64 n, .string (txt s), .slice A keep.length cap])] No y g (some p) F9 u.wv d' AL cL AK cK r AV cV u) ∧ (f 6 = true → f 7 = false → InB z (some ⟨q, 0, none⟩) cq s) ∧ (f 6 = true → f 5 = true)) (by kernel_rfl) (by kernel_rfl) ?_ ?_ ?_
  · exact ⟨0, 0, rfl, (fun _ => HX.out.call (drew_below _ 1)), (fun h => by cases h), (fun h => by cases h), fun h => by cases h⟩
  · refine ⟨?_, ?_, ?_, ?_, ?_, ?_, ?_, ?_, ?_, trivial⟩
    · rintro f a0 z Q' ⟨q, cq, rfl, hw⟩ hi hd hQ
      replace hQ := Lib.hid hQ
      simp [Iv.depsB, Region.binds] at hd
      try simp only [hi, hd, sl_true, sl_false, so_true, so_false]
      try simp only [hi, sl_true, sl_false, so_true, so_false]
      have HWW := Lib.hid hw
      clear hw
      go_wp2_with fail
      refine hQ.out _ _ ⟨q, cq, ?_, ?_⟩
      · simp [Iv.upd, hi, hd, sl_true, sl_false, so_true, so_false]
      · simpa [Iv.upd, hi, hd] using HWW.out
    · rintro f a0 z Q' ⟨q, cq, rfl, hw⟩ hi hd hQ
      replace hQ := Lib.hid hQ
      simp [Iv.depsB, Region.binds] at hd
      try simp only [hi, hd, sl_true, sl_false, so_true, so_false]
      try simp only [hi, sl_true, sl_false, so_true, so_false]
      have HWW := Lib.hid hw
      clear hw
      go_wp2_with fail
      refine hQ.out _ _ ⟨q, cq, ?_, ?_⟩
      · simp [Iv.upd, hi, hd, sl_true, sl_false, so_true, so_false]
      · simpa [Iv.upd, hi, hd] using HWW.out
    · rintro f a0 z Q' ⟨q, cq, rfl, hw⟩ hi hd hQ
      replace hQ := Lib.hid hQ
      simp [Iv.depsB, Region.binds] at hd
      try simp only [hi, hd, sl_true, sl_false, so_true, so_false]
      try simp only [hi, sl_true, sl_false, so_true, so_false]
      have HWW := Lib.hid hw
      clear hw
      go_wp2_with fail
      refine hQ.out _ _ ⟨q, cq, ?_, ?_⟩
      · simp [Iv.upd, hi, hd, sl_true, sl_false, so_true, so_false]
      · simpa [Iv.upd, hi, hd] using HWW.out
    · rintro f a0 z Q' ⟨q, cq, rfl, hw⟩ hi hd hQ
      replace hQ := Lib.hid hQ
      simp [Iv.depsB, Region.binds] at hd
      try simp only [hi, hd, sl_true, sl_false, so_true, so_false]
      try simp only [hi, sl_true, sl_false, so_true, so_false]
      have hc : f 7 = false := by
        cases e5 : f 7 with
        | false => rfl
        | true => have := (hw.2.1 e5).1; simp [hi] at this
      obtain ⟨⟨x0, x1⟩, ⟨x2, x3, x4, x5, x6⟩, -, -⟩ := (hw.1 hc).cells
      have hkw := (hw.1 hc).knows.at 0 rfl
      have b0 := hkw.cell 0
      have b1 := hkw.cell 1
      have b2 := hkw.cell 2
      have b3 := hkw.cell 3
      clear hkw
      have HWW := Lib.hid hw
      clear hw
      go_wp2_with fail
      refine hQ.out _ _ ⟨q, cq, ?_, ?_⟩
      · simp [Iv.upd, hi, hd, hc, sl_true, sl_false, so_true, so_false]
      · simpa [Iv.upd, hi, hd, hc] using HWW.out
    · rintro f a0 z Q' ⟨q, cq, rfl, hw⟩ hi hd hQ
      replace hQ := Lib.hid hQ
      simp [Iv.depsB, Region.binds] at hd
      try simp only [hi, hd, sl_true, sl_false, so_true, so_false]
      try simp only [hi, sl_true, sl_false, so_true, so_false]
      have HWW := Lib.hid hw
      clear hw
      go_wp2_with fail
      refine hQ.out _ _ ⟨q, cq, ?_, ?_⟩
      · simp [Iv.upd, hi, hd, sl_true, sl_false, so_true, so_false]
      · simpa [Iv.upd, hi, hd] using HWW.out
    · rintro f a0 z Q' ⟨q, cq, rfl, hw⟩ hi hd hQ
      replace hQ := Lib.hid hQ
      simp [Iv.depsB, Region.binds] at hd
      try simp only [hi, hd, sl_true, sl_false, so_true, so_false]
      try simp only [hi, sl_true, sl_false, so_true, so_false]
      have hc : f 7 = false := by
        cases e5 : f 7 with
        | false => rfl
        | true => have := hw.2.2.2 (by have := (hw.2.1 e5).1; simp [this]); simp [hi] at this
      have hkw := (hw.1 hc).knows.at 0 rfl
      have b0 := hkw.cell 0
      have b1 := hkw.cell 1
      have b2 := hkw.cell 2
      have b3 := hkw.cell 3
      clear hkw
      have HWW := Lib.hid hw
      clear hw
      go_wp2_with fail
      refine hQ.out _ _ ⟨q, cq, ?_, ?_⟩
      · simp [Iv.upd, hi, hd, hc, sl_true, sl_false, so_true, so_false]
      · exact ⟨by simpa [Iv.upd] using HWW.out.1, (fun e => by simp [Iv.upd, hc] at e), (fun e e2 => by have := HWW.out.2.2.1 (by simpa [Iv.upd] using e) (by simpa [Iv.upd] using e2); exact this), fun _ => by simp [Iv.upd]⟩
    · rintro f a0 z Q' ⟨q, cq, rfl, hw⟩ hi hd hQ
      replace hQ := Lib.hid hQ
      simp [Iv.depsB, Region.binds] at hd
      try simp only [hi, hd, sl_true, sl_false, so_true, so_false]
      try simp only [hi, sl_true, sl_false, so_true, so_false]
      have hc : f 7 = false := by
        cases e5 : f 7 with
        | false => rfl
        | true => have := (hw.2.1 e5).1; simp [hi] at this
      have d5 : f 5 = true := by simp [hd]
      try simp only [d5, sl_true, so_true]
      obtain ⟨c9, z1, htr, hin, hb3, -⟩ := ours_run s (by omega) z
      have HIN := Lib.hid hin
      have HY2 := Lib.hid ((hw.1 hc).call hb3)
      clear hw hin hb3
      go_wp2_with fail
      refine hQ.out _ _ ⟨z.heap.size, c9, ?_, ?_⟩
      · simp [Iv.upd, hi, hd, hc, d5, sl_true, sl_false, so_true, so_false]
      · exact ⟨fun _ => HY2.out, (fun e => by simp [Iv.upd, hc] at e), (fun _ _ => HIN.out), fun _ => by simp [Iv.upd, d5]⟩
    · rintro f a0 z Q' ⟨q, cq, rfl, hw⟩ hi hd hQ
      replace hQ := Lib.hid hQ
      simp [Iv.depsB, Region.binds] at hd
      try simp only [hi, hd, sl_true, sl_false, so_true, so_false]
      try simp only [hi, sl_true, sl_false, so_true, so_false]
      have d3 : f 3 = true := by simp [hd]
      have d6 : f 6 = true := by simp [hd]
      try simp only [d3, d6, sl_true, so_true]
      have HYY := Lib.hid (hw.1 hi)
      have HIN := Lib.hid (hw.2.2.1 d6 hi)
      have HCV := Lib.hid hw.2.2.2
      clear hw
      have HCC := Lib.hid (HAR.out z _ _ HYY.out _ _ HIN.out)
      go_wp2_with fail
      refine HCC.out.mono ?_
      rintro e z1 ⟨rfl, F9, hy9⟩
      have HY2 := Lib.hid hy9
      clear hy9 HCC HYY
      go_wp2_with fail
      refine hQ.out _ _ ⟨q, cq, ?_, ?_⟩
      · simp [Iv.upd, hi, hd, d3, d6, sl_true, sl_false, so_true, so_false]
      · exact ⟨(fun e => by simp [Iv.upd] at e), fun _ => ⟨by simp [Iv.upd, d3, d6], F9, HY2.out⟩, (fun _ e => by simp [Iv.upd] at e), (fun e => by have := HCV.out (by simpa [Iv.upd] using e); simpa [Iv.upd] using this)⟩
    · rintro f a0 z Q' ⟨q, cq, rfl, hw⟩ hi hd hQ
      replace hQ := Lib.hid hQ
      simp [Iv.depsB, Region.binds] at hd
      try simp only [hi, hd, sl_true, sl_false, so_true, so_false]
      try simp only [hi, sl_true, sl_false, so_true, so_false]
      have d7 : f 7 = true := by simp [hd]
      try simp only [d7, sl_true, so_true]
      have HWW := Lib.hid hw
      clear hw
      go_wp2_with fail
      refine hQ.out _ _ ⟨q, cq, ?_, ?_⟩
      · simp [Iv.upd, hi, hd, d7, sl_true, sl_false, so_true, so_false]
      · simpa [Iv.upd, hi, hd, d7] using HWW.out
  · rintro f a0 z ⟨q, cq, rfl, hw⟩ hall
    simp only [hall 0 (by decide), hall 1 (by decide), hall 2 (by decide), hall 3 (by decide), hall 4 (by decide), hall 5 (by decide), hall 6 (by decide), hall 7 (by decide), hall 8 (by decide), sl_true, ↓reduceIte, so_true, so_false] at hw ⊢
    clear hall
    obtain ⟨F1, hy9⟩ := (hw.2.1 trivial).2
    have HZ := Lib.hid hy9
    clear hw hy9 HX
    go_wp2_with fail
    refine Iv.region (fun f aa z => ∃ A1 c1 A2 c2, aa = ⟨#[ptr y, Value.agg #[Value.int IntKind.i64 5, Value.int IntKind.i64 n, Value.string (txt s), Value.slice A keep.length cap], undef, Value.pointer (some { block := w.heap.size, off := 0 }), Value.bool false, Value.int IntKind.i64 er, so (f 14) (.int .i64 er) (.int .i64 0), undef, undef, Value.pointer (some { block := w.heap.size, off := 0 }), Value.int IntKind.i64 5, undef, undef, Value.bool false, Value.bool false, undef, undef, undef, undef, undef, undef, undef, undef, undef, undef, undef, undef, undef, undef, undef, undef, undef, undef, undef, undef, undef, undef, undef, undef, undef, undef, undef, undef, undef, undef, undef, undef, undef, undef, undef, undef, undef, undef, undef, undef, undef, undef, undef, Value.bool false, Value.bool false, undef, undef, undef, undef, undef, undef, undef, undef, undef, undef, undef, undef, undef, undef, undef, undef, undef, undef, undef, undef, undef, undef, undef, undef, Value.bool false, Value.bool false, undef, undef, undef, undef, undef, undef, undef, undef, undef, undef, undef, undef, undef, undef, undef, undef, undef, undef, undef, undef, undef, undef, undef, undef, undef, undef, undef, undef, undef, Value.bool false, Value.bool false, undef, undef, undef, undef, undef, undef, undef, undef, undef, undef, undef, undef, undef, undef, undef, undef, undef, undef, undef, undef, undef, Value.bool false, Value.bool false, undef, undef, undef, undef, undef, undef, undef, undef, undef, undef, undef, undef, undef, undef, undef, undef, undef, undef, undef, undef, undef, undef, undef, undef, undef, Value.bool true, Value.bool true, ptr y, Value.pointer (some { block := y, off := 0 }), Value.pointer (some { block := y, off := 0 }), ptr g, Value.pointer (some { block := w.heap.size, off := 2 }), Value.string (txt s), Value.slice (some { block := q, off := 0 }) s.length cq, Value.int IntKind.i64 er, sl (f 8) (.tuple #[.agg #[.slice A1 Q.logs.length c1, .int .i64 Q.acts, .bool Q.off, .int .i64 Q.armed, .slice A2 Q.keep.length c2], .int .i64 er]), sl (f 0) (ptr y), sl (f 1) (ptr y), sl (f 2) (.pointer (some ⟨y, 0, none⟩)), sl (f 3) (.pointer (some ⟨y, 2, none⟩)), sl (f 4) (.agg #[.slice AL r.logs.length cL, .int .i64 r.acts, .bool r.off, .int .i64 r.armed, .slice AK r.keep.length cK]), sl (f 5) (.pointer (some ⟨w.heap.size, 2, none⟩)), sl (f 6) (.string (txt s)), sl (f 7) (.tuple #[.agg #[.slice A1 Q.logs.length c1, .int .i64 Q.acts, .bool Q.off, .int .i64 Q.armed, .slice A2 Q.keep.length c2], .int .i64 er]), sl (f 9) (.agg #[.slice A1 Q.logs.length c1, .int .i64 Q.acts, .bool Q.off, .int .i64 Q.armed, .slice A2 Q.keep.length c2]), sl (f 10) (.int .i64 er), sl (f 11) (.pointer (some ⟨y, 0, none⟩)), sl (f 12) (.pointer (some ⟨y, 2, none⟩)), undef, undef, undef, undef, undef, undef, undef, undef, undef, undef], []⟩ ∧ Sh W [(w.heap.size, 44, #[.int .i64 5, .int .i64 n, .string (txt s), .slice A keep.length cap])] y g (some p) F1 u.wv d' AL cL AK cK r AV cV u Q A1 c1 A2 c2 (f 7) (f 13) z ∧ (f 7 = true → f 4 = true ∧ f 6 = true) ∧ (f 7 = false → f 8 = false ∧ f 9 = false)) (by kernel_rfl) (by kernel_rfl) ?_ ?_ ?_
    · exact ⟨none, 0, none, 0, rfl, Sh.start (HZ.out.call (drew_below _ 1)), (fun h => by cases h), (fun _ => ⟨rfl, rfl⟩)⟩
    · refine ⟨?_, ?_, ?_, ?_, ?_, ?_, ?_, ?_, ?_, ?_, ?_, ?_, ?_, ?_, ?_, trivial⟩
      · rintro f a0 z Q' ⟨A1, c1, A2, c2, rfl, hw⟩ hi hd hQ
        replace hQ := Lib.hid hQ
        simp [Iv.depsB, Region.binds] at hd
        try simp only [hi, hd, sl_true, sl_false, so_true, so_false]
        try simp only [hi, sl_true, sl_false, so_true, so_false]
        have HWW := Lib.hid hw
        clear hw
        go_wp2_with fail
        refine hQ.out _ _ ⟨A1, c1, A2, c2, ?_, ?_⟩
        · simp [Iv.upd, hi, hd, sl_true, sl_false, so_true, so_false]
        · simpa [Iv.upd, hi, hd] using HWW.out
      · rintro f a0 z Q' ⟨A1, c1, A2, c2, rfl, hw⟩ hi hd hQ
        replace hQ := Lib.hid hQ
        simp [Iv.depsB, Region.binds] at hd
        try simp only [hi, hd, sl_true, sl_false, so_true, so_false]
        try simp only [hi, sl_true, sl_false, so_true, so_false]
        have HWW := Lib.hid hw
        clear hw
        go_wp2_with fail
        refine hQ.out _ _ ⟨A1, c1, A2, c2, ?_, ?_⟩
        · simp [Iv.upd, hi, hd, sl_true, sl_false, so_true, so_false]
        · simpa [Iv.upd, hi, hd] using HWW.out
      · rintro f a0 z Q' ⟨A1, c1, A2, c2, rfl, hw⟩ hi hd hQ
        replace hQ := Lib.hid hQ
        simp [Iv.depsB, Region.binds] at hd
        try simp only [hi, hd, sl_true, sl_false, so_true, so_false]
        try simp only [hi, sl_true, sl_false, so_true, so_false]
        have HWW := Lib.hid hw
        clear hw
        go_wp2_with fail
        refine hQ.out _ _ ⟨A1, c1, A2, c2, ?_, ?_⟩
        · simp [Iv.upd, hi, hd, sl_true, sl_false, so_true, so_false]
        · simpa [Iv.upd, hi, hd] using HWW.out
      · rintro f a0 z Q' ⟨A1, c1, A2, c2, rfl, hw⟩ hi hd hQ
        replace hQ := Lib.hid hQ
        simp [Iv.depsB, Region.binds] at hd
        try simp only [hi, hd, sl_true, sl_false, so_true, so_false]
        try simp only [hi, sl_true, sl_false, so_true, so_false]
        have HWW := Lib.hid hw
        clear hw
        go_wp2_with fail
        refine hQ.out _ _ ⟨A1, c1, A2, c2, ?_, ?_⟩
        · simp [Iv.upd, hi, hd, sl_true, sl_false, so_true, so_false]
        · simpa [Iv.upd, hi, hd] using HWW.out
      · rintro f a0 z Q' ⟨A1, c1, A2, c2, rfl, hw⟩ hi hd hQ
        replace hQ := Lib.hid hQ
        simp [Iv.depsB, Region.binds] at hd
        try simp only [hi, hd, sl_true, sl_false, so_true, so_false]
        try simp only [hi, sl_true, sl_false, so_true, so_false]
        have hc : f 7 = false := by
          cases e5 : f 7 with
          | false => rfl
          | true => have := hw.2.1 e5; simp [hi] at this
        obtain ⟨es, hy⟩ := hw.1.zero hc
        have hv := hw.2.2 hc
        obtain ⟨⟨x0, x1⟩, ⟨x2, x3, x4, x5, x6⟩, -, -⟩ := hy.cells
        have hkw := hy.knows.at 0 rfl
        have b0 := hkw.cell 0
        have b1 := hkw.cell 1
        have b2 := hkw.cell 2
        have b3 := hkw.cell 3
        clear hkw
        clear hy
        have HWW := Lib.hid hw
        clear hw
        go_wp2_with fail
        refine hQ.out _ _ ⟨A1, c1, A2, c2, ?_, ?_⟩
        · simp [Iv.upd, hi, hd, hc, es, hv, sl_true, sl_false, so_true, so_false]
        · exact ⟨by simpa [Iv.upd, hc, es] using HWW.out.1, (fun e => by simp [Iv.upd, hc] at e), (fun e => by simpa [Iv.upd] using hv)⟩
      · rintro f a0 z Q' ⟨A1, c1, A2, c2, rfl, hw⟩ hi hd hQ
        replace hQ := Lib.hid hQ
        simp [Iv.depsB, Region.binds] at hd
        try simp only [hi, hd, sl_true, sl_false, so_true, so_false]
        try simp only [hi, sl_true, sl_false, so_true, so_false]
        have HWW := Lib.hid hw
        clear hw
        go_wp2_with fail
        refine hQ.out _ _ ⟨A1, c1, A2, c2, ?_, ?_⟩
        · simp [Iv.upd, hi, hd, sl_true, sl_false, so_true, so_false]
        · simpa [Iv.upd, hi, hd] using HWW.out
      · rintro f a0 z Q' ⟨A1, c1, A2, c2, rfl, hw⟩ hi hd hQ
        replace hQ := Lib.hid hQ
        simp [Iv.depsB, Region.binds] at hd
        try simp only [hi, hd, sl_true, sl_false, so_true, so_false]
        try simp only [hi, sl_true, sl_false, so_true, so_false]
        have hc : f 7 = false := by
          cases e5 : f 7 with
          | false => rfl
          | true => have := hw.2.1 e5; simp [hi] at this
        obtain ⟨es, hy⟩ := hw.1.zero hc
        have hv := hw.2.2 hc
        obtain ⟨⟨x0, x1⟩, ⟨x2, x3, x4, x5, x6⟩, -, -⟩ := hy.cells
        have hkw := hy.knows.at 0 rfl
        have b0 := hkw.cell 0
        have b1 := hkw.cell 1
        have b2 := hkw.cell 2
        have b3 := hkw.cell 3
        clear hkw
        clear hy
        have HWW := Lib.hid hw
        clear hw
        go_wp2_with fail
        refine hQ.out _ _ ⟨A1, c1, A2, c2, ?_, ?_⟩
        · simp [Iv.upd, hi, hd, hc, es, hv, sl_true, sl_false, so_true, so_false]
        · exact ⟨by simpa [Iv.upd, hc, es] using HWW.out.1, (fun e => by simp [Iv.upd, hc] at e), (fun e => by simpa [Iv.upd] using hv)⟩
      · rintro f a0 z Q' ⟨A1, c1, A2, c2, rfl, hw⟩ hi hd hQ
        replace hQ := Lib.hid hQ
        simp [Iv.depsB, Region.binds] at hd
        try simp only [hi, hd, sl_true, sl_false, so_true, so_false]
        try simp only [hi, sl_true, sl_false, so_true, so_false]
        have d4 : f 4 = true := by simp [hd]
        have d6 : f 6 = true := by simp [hd]
        try simp only [d4, d6, sl_true, so_true]
        obtain ⟨es, hy⟩ := hw.1.zero hi
        have hv := hw.2.2 hi
        have HYY := Lib.hid hy
        clear hw hy
        have HCC := Lib.hid (HRR.out z _ _ HYY.out)
        go_wp2_with fail
        refine HCC.out.mono ?_
        rintro e z1 ⟨B1, e1, B2, e2, rfl, hb3, hm3⟩
        have HO := Lib.hid (Sh.made HYY.out hb3 hm3)
        clear hb3 hm3 HCC
        go_wp2_with fail
        refine hQ.out _ _ ⟨B1, e1, B2, e2, ?_, ?_⟩
        · simp [Iv.upd, hi, hd, es, hv, d4, d6, sl_true, sl_false, so_true, so_false]
        · exact ⟨by simpa [Iv.upd, hi, es] using HO.out, (fun _ => by simp [Iv.upd, d4, d6]), (fun e => by simp [Iv.upd] at e)⟩
      · rintro f a0 z Q' ⟨A1, c1, A2, c2, rfl, hw⟩ hi hd hQ
        replace hQ := Lib.hid hQ
        simp [Iv.depsB, Region.binds] at hd
        try simp only [hi, hd, sl_true, sl_false, so_true, so_false]
        try simp only [hi, sl_true, sl_false, so_true, so_false]
        have HWW := Lib.hid hw
        clear hw
        go_wp2_with fail
        refine hQ.out _ _ ⟨A1, c1, A2, c2, ?_, ?_⟩
        · simp [Iv.upd, hi, hd, sl_true, sl_false, so_true, so_false]
        · simpa [Iv.upd, hi, hd] using HWW.out
      · rintro f a0 z Q' ⟨A1, c1, A2, c2, rfl, hw⟩ hi hd hQ
        replace hQ := Lib.hid hQ
        simp [Iv.depsB, Region.binds] at hd
        try simp only [hi, hd, sl_true, sl_false, so_true, so_false]
        try simp only [hi, sl_true, sl_false, so_true, so_false]
        have HWW := Lib.hid hw
        clear hw
        go_wp2_with fail
        refine hQ.out _ _ ⟨A1, c1, A2, c2, ?_, ?_⟩
        · simp [Iv.upd, hi, hd, sl_true, sl_false, so_true, so_false]
        · simpa [Iv.upd, hi, hd] using HWW.out
      · rintro f a0 z Q' ⟨A1, c1, A2, c2, rfl, hw⟩ hi hd hQ
        replace hQ := Lib.hid hQ
        simp [Iv.depsB, Region.binds] at hd
        try simp only [hi, hd, sl_true, sl_false, so_true, so_false]
        try simp only [hi, sl_true, sl_false, so_true, so_false]
        have HWW := Lib.hid hw
        clear hw
        go_wp2_with fail
        refine hQ.out _ _ ⟨A1, c1, A2, c2, ?_, ?_⟩
        · simp [Iv.upd, hi, hd, sl_true, sl_false, so_true, so_false]
        · simpa [Iv.upd, hi, hd] using HWW.out
      · rintro f a0 z Q' ⟨A1, c1, A2, c2, rfl, hw⟩ hi hd hQ
        replace hQ := Lib.hid hQ
        simp [Iv.depsB, Region.binds] at hd
        try simp only [hi, hd, sl_true, sl_false, so_true, so_false]
        try simp only [hi, sl_true, sl_false, so_true, so_false]
        have HWW := Lib.hid hw
        clear hw
        go_wp2_with fail
        refine hQ.out _ _ ⟨A1, c1, A2, c2, ?_, ?_⟩
        · simp [Iv.upd, hi, hd, sl_true, sl_false, so_true, so_false]
        · simpa [Iv.upd, hi, hd] using HWW.out
      · rintro f a0 z Q' ⟨A1, c1, A2, c2, rfl, hw⟩ hi hd hQ
        replace hQ := Lib.hid hQ
        simp [Iv.depsB, Region.binds] at hd
        try simp only [hi, hd, sl_true, sl_false, so_true, so_false]
        try simp only [hi, sl_true, sl_false, so_true, so_false]
        have HWW := Lib.hid hw
        clear hw
        go_wp2_with fail
        refine hQ.out _ _ ⟨A1, c1, A2, c2, ?_, ?_⟩
        · simp [Iv.upd, hi, hd, sl_true, sl_false, so_true, so_false]
        · simpa [Iv.upd, hi, hd] using HWW.out
      · rintro f a0 z Q' ⟨A1, c1, A2, c2, rfl, hw⟩ hi hd hQ
        replace hQ := Lib.hid hQ
        simp [Iv.depsB, Region.binds] at hd
        try simp only [hi, hd, sl_true, sl_false, so_true, so_false]
        try simp only [hi, sl_true, sl_false, so_true, so_false]
        have d9 : f 9 = true := by simp [hd]
        have d12 : f 12 = true := by simp [hd]
        try simp only [d9, d12, sl_true, so_true]
        have dc : f 7 = true := by
          cases e5 : f 7 with
          | true => rfl
          | false => have := hw.2.2 e5; simp [d9] at this
        obtain ⟨hy, -⟩ := hw.1.one dc hi
        have hsg := hw.1
        rw [dc, hi] at hsg
        have HO := Lib.hid hsg.setM
        have HL := Lib.hid hw.2.1
        obtain ⟨-, ⟨x2, x3, x4, x5, x6⟩, -, ⟨y2, y3, y4, y5, y6⟩, -⟩ := hy.cells
        clear hw hy hsg
        go_wp2_with fail
        refine hQ.out _ _ ⟨A1, c1, A2, c2, ?_, ?_⟩
        · simp [Iv.upd, hi, hd, dc, d9, d12, sl_true, sl_false, so_true, so_false]
        · exact ⟨by simpa [Iv.upd, hi, dc] using HO.out, (fun e => by have := HL.out dc; simpa [Iv.upd] using this), (fun e => by simp [Iv.upd, dc] at e)⟩
      · rintro f a0 z Q' ⟨A1, c1, A2, c2, rfl, hw⟩ hi hd hQ
        replace hQ := Lib.hid hQ
        simp [Iv.depsB, Region.binds] at hd
        try simp only [hi, hd, sl_true, sl_false, so_true, so_false]
        try simp only [hi, sl_true, sl_false, so_true, so_false]
        have HWW := Lib.hid hw
        clear hw
        go_wp2_with fail
        refine hQ.out _ _ ⟨A1, c1, A2, c2, ?_, ?_⟩
        · simp [Iv.upd, hi, hd, sl_true, sl_false, so_true, so_false]
        · simpa [Iv.upd, hi, hd] using HWW.out
    · rintro f a0 z ⟨A1, c1, A2, c2, rfl, hw⟩ hall
      simp only [hall 0 (by decide), hall 1 (by decide), hall 2 (by decide), hall 3 (by decide), hall 4 (by decide), hall 5 (by decide), hall 6 (by decide), hall 7 (by decide), hall 8 (by decide), hall 9 (by decide), hall 10 (by decide), hall 11 (by decide), hall 12 (by decide), hall 13 (by decide), hall 14 (by decide), sl_true, ↓reduceIte, so_true, so_false] at hw ⊢
      clear hall
      have HY := Lib.hid (hw.1.two rfl).2
      clear hw HZ
      obtain ⟨⟨x0, x1⟩, -⟩ := HY.out.cells
      go_wp2_with fail
      refine (HOP.out _ _ _ _ _ _ _ HY.out).mono ?_
      rintro e z3 ⟨rfl, q', F', B1, e1, B2, e2, B3, e3, hq, hx⟩
      have HE := Lib.hid (And.intro hq hx)
      clear hq hx HOP HY
      go_wp2_with fail
      go_ret
      exact ⟨rfl, q', F', B1, e1, B2, e2, B3, e3, HE.out.1, HE.out.2⟩
end Go.Proofs.Ytlfigbgcackimaa

/- The law's both.does of kind 6 (written by gdo8b.py). -/
namespace Go.Proofs.Ytlfigbgcackimaa
open Go.RowKit Go.Fm Go.Dk Go.Wl Go.Iv
set_option linter.unusedVariables false
set_option linter.unusedSimpArgs false
set_option linter.unnecessarySimpa false
set_option maxRecDepth 100000

set_option maxHeartbeats 16000000 in
theorem does6 (W w : World) (y g p : Nat) (F : Nat → Prop) (d : D) (AL : Option Addr) (cL : Nat) (AK : Option Addr) (cK : Nat) (r : Rf) (AV : Option Addr) (cV : Nat) (u : Rw) (x : Ac) (hk : x.kind < 0 ∨ 5 < x.kind) (h : Yv W w [] No y g (some p) F u.wv d AL cL AK cK r AV cV u) (o : Rok r) (hrel : Rel r d) (hga : GA W x) (hlen : 1 < r.logs.length) (hacts : d.acts + 1 ≤ 9223372036854775807) :
    Calls Try.prog 15 #[ptr y, .agg (encA x).toArray] w fun e w' => e = .returned (.bool true) ∧ ∃ q' F' A1 c1 A2 c2 A3 c3, (q' = none ↔ (opens d 1).2 ≠ 0) ∧ Yx W w' y g q' F' (opens d 1).1 A1 c1 A2 c2 (Wl.Rf.opn r 1).1 A3 c3 (Wl.Rf.opn r 1).2.1 := by
  have HX := Lib.hid (h.alloc w.heap.size rfl 44 (encA x).toArray)
  have HOP := Lib.hid (fun (z : World) (L : List Row) (hy : Yv W z L No y g (some p) F u.wv d AL cL AK cK r AV cV u) => bopen8 W z y g (some p) F _ AL cL AK cK _ AV cV u hy.yx o hrel hlen hacts)
  have hw64 := hga.kind
  clear h o hrel hga hlen hacts
  obtain ⟨kd, n, s, A, cap, keep⟩ := x
  simp only at hk hw64
  have hea : ∀ k, (encA ⟨k, n, s, A, cap, keep⟩).toArray = #[.int .i64 k, .int .i64 n, .string (txt s), .slice A keep.length cap] := fun k => rfl
  rw [hea] at HX ⊢
  clear hea
  unfold vM at *
  have b0 := (HX.out.knows.at 0 rfl).cell 0
  go_enter Try.func15, Try.ntmps15
  go_wp2_with fail
  refine (HOP.out _ _ HX.out).mono ?_
  rintro e z3 ⟨rfl, q', F', B1, e1, B2, e2, B3, e3, hq, hx⟩
  have HE := Lib.hid (And.intro hq hx)
  clear hq hx HOP
  go_wp2_with fail
  go_ret
  exact ⟨rfl, q', F', B1, e1, B2, e2, B3, e3, HE.out.1, HE.out.2⟩
end Go.Proofs.Ytlfigbgcackimaa

/- A play on both wals, plain: what holds all along. -/
namespace Go.Proofs.Ytlfigbgcackimaa
open Go.RowKit Go.Fm Go.Dk Go.Wl Go.Iv
set_option linter.unusedVariables false
set_option linter.unusedSimpArgs false
set_option maxRecDepth 100000

/-- The disks go together; at most m acts have been counted. -/
structure P8 (r : Rf) (d : D) (u : Rw) (m : Nat) : Prop where
  rel : Rel r d
  acts : r.acts ≤ m
  keep : r.keep.length ≤ 20
  range : ∀ k ∈ r.keep, W64 k
  two : r.logs.length = 2
  ul : u.ls.length ≤ 524288 + m
  log : u.log = 0 ∨ u.log = 1
section
variable {r : Rf} {d : D} {u : Rw} {m n : Nat}
theorem P8.more (h : P8 r d u m) (hm : m ≤ n) : P8 r d u n := ⟨h.rel, by have := h.acts; omega, h.keep, h.range, h.two, by have := h.ul; omega, h.log⟩
theorem P8.rok (h : P8 r d u m) (o : Ok d) (hn : m ≤ 1000) : Rok r :=
  ⟨by have := h.two; omega, by have := h.keep; omega, by have := o.ahead; have := h.rel.armed; omega, by have := h.acts; omega, fun l hl => by
    have := (o.logs l.lg (by rw [h.rel.logs]; exact List.mem_map_of_mem hl)).2
    simpa [Lo.lg] using this, h.range⟩
theorem P8.hacts (h : P8 r d u m) (hn : m ≤ 1000) : d.acts + 1 ≤ 9223372036854775807 := by have := h.acts; have := h.rel.acts; omega
theorem crash8 (r : Rf) (k : List Int) : (r.crash k).acts = r.acts ∧ (r.crash k).keep = r.keep ∧ (r.crash k).logs.length = r.logs.length := by unfold Rf.crash; split <;> simp
theorem act8 (r : Rf) (kind log : Int) (b : List UInt8) : (r.act kind log b).1.acts ≤ r.acts + 1 ∧ (r.act kind log b).1.keep = r.keep ∧ (r.act kind log b).1.logs.length = r.logs.length := by
  unfold Rf.act
  split
  · exact ⟨Nat.le_succ _, rfl, rfl⟩
  · split
    · exact ⟨Nat.le_succ _, rfl, rfl⟩
    · split
      · exact ⟨Nat.le_succ _, rfl, rfl⟩
      · split
        · have := crash8 r r.keep
          exact ⟨by show (r.crash r.keep).acts ≤ _; omega, this.2.1, this.2.2⟩
        · exact ⟨Nat.le_refl _, rfl, by simp [Rf.done]⟩
theorem P8.disk (h : P8 r d u m) {r' : Rf} {d' : D} (hr : Rel r' d') (h1 : r'.acts ≤ n) (h2 : r'.keep = r.keep) (h3 : r'.logs.length = r.logs.length) (hn : m ≤ n) : P8 r' d' u n :=
  ⟨hr, h1, by rw [h2]; exact h.keep, by rw [h2]; exact h.range, by rw [h3]; exact h.two, by have := h.ul; omega, h.log⟩
theorem P8.act (h : P8 r d u m) (kind log : Int) (b : List UInt8) {d' : D} (hr : Rel (r.act kind log b).1 d') : P8 (r.act kind log b).1 d' u (m + 1) := by
  have hk := act8 r kind log b
  have := h.acts
  exact h.disk hr (by omega) hk.2.1 hk.2.2 (by omega)
theorem P8.crash (h : P8 r d u m) (k : List Int) : P8 (r.crash k) (d.crash k) u m := by
  have hk := crash8 r k
  exact h.disk (h.rel.crash k) (by rw [hk.1]; exact h.acts) hk.2.1 hk.2.2 (Nat.le_refl _)
theorem P8.up (h : P8 r d u m) : P8 r.up d.up u m := h.disk h.rel.up h.acts rfl rfl (Nat.le_refl _)
theorem P8.arm (h : P8 r d u m) (n : Int) (k : List Int) (hk : k.length ≤ 20) (hr : ∀ m ∈ k, W64 m) : P8 (r.arm n k) (d.arm n k) u m := ⟨h.rel.arm n k, h.acts, hk, hr, h.two, h.ul, h.log⟩
theorem P8.wal (h : P8 r d u m) {u' : Rw} (h1 : u'.ls.length ≤ 524288 + m) (h2 : u'.log = 0 ∨ u'.log = 1) : P8 r d u' m := ⟨h.rel, h.acts, h.keep, h.range, h.two, h1, h2⟩
theorem P8.wact (h : P8 r d u m) (kind : Int) (ls : List (List UInt8)) (hl : kind = 0 → ls.length ≤ 1) (hl2 : ls.length ≤ 1000) {d' : D} (hr : Rel (u.act r kind ls).1 d') : P8 (u.act r kind ls).1 d' (u.act r kind ls).2.1 (m + 1) := by
  have hu := h.ul
  have hg := h.log
  revert hr
  unfold Rw.act
  by_cases hd : u.dead = true
  · rw [if_pos hd]; intro hr
    exact h.more (by omega) |>.disk hr (by have := h.acts; show r.acts ≤ m + 1; omega) rfl rfl (Nat.le_refl _)
  · rw [if_neg hd]
    by_cases hlo : Long ls
    · rw [if_pos hlo]; intro hr
      exact h.more (by omega) |>.disk hr (by have := h.acts; show r.acts ≤ m + 1; omega) rfl rfl (Nat.le_refl _)
    · rw [if_neg hlo]
      by_cases he : (r.act kind u.log (frames ls)).2 = 0
      · rw [if_pos he]; intro hr
        refine (h.act kind u.log (frames ls) hr).wal ?_ ?_
        · show (u.did kind ls).ls.length ≤ _
          unfold Rw.did
          by_cases h0 : kind = 0
          · rw [if_pos h0]
            have := hl h0
            simp only [List.length_append]; omega
          · rw [if_neg h0]
            by_cases h1 : kind = 1
            · rw [if_pos h1]; show u.ls.length ≤ _; omega
            · rw [if_neg h1]; show ls.length ≤ _; omega
        · show (u.did kind ls).log = 0 ∨ (u.did kind ls).log = 1
          unfold Rw.did
          split
          · exact hg
          · split <;> exact hg
      · rw [if_neg he]; intro hr
        refine (h.act kind u.log (frames ls) hr).wal ?_ ?_
        · show (u.met _).ls.length ≤ _
          unfold Rw.met
          split <;> (show u.ls.length ≤ _; omega)
        · show (u.met _).log = 0 ∨ (u.met _).log = 1
          unfold Rw.met
          split <;> exact hg
theorem scan_few (bs : List UInt8) (h : bs.length ≤ 4194304) : (scan bs).1.length ≤ 524288 := by
  obtain ⟨h1, -, -⟩ := scan_whole bs.length bs (Nat.le_refl _)
  have h2 := frames_many (scan bs).1
  have h3 := congrArg List.length h1
  rw [List.length_append] at h3
  omega
theorem Rok.bytes (o : Rok r) (log : Int) : (r.bytes log).length ≤ 4194304 := by
  unfold Rf.bytes
  split
  · rw [List.length_append]
    unfold Rf.of
    rw [List.getD_eq_getElem?_getD]
    rcases hh : r.logs[log.toNat]? with _ | l
    · exact (by decide : (default : Lo).sure.length + (default : Lo).loose.length ≤ 4194304)
    · exact o.logs l (List.mem_of_getElem? hh)
  · simp
theorem P8.opened (h : P8 r d u m) (o : Rok r) : P8 (Wl.Rf.opn r 1).1 (opens d 1).1 (Wl.Rf.opn r 1).2.1 (m + 1) := by
  obtain ⟨-, hr, -⟩ := rel_opens h.rel (log := 1) ⟨by omega, by have := h.two; omega⟩
  have hb := scan_few _ (o.bytes 1)
  have hac := h.acts
  have hf : (Rw.fresh 1 (scan (r.bytes 1)).1).ls.length ≤ 524288 + (m + 1) ∧ ((Rw.fresh 1 (scan (r.bytes 1)).1).log = 0 ∨ (Rw.fresh 1 (scan (r.bytes 1)).1).log = 1) := ⟨by show (scan (r.bytes 1)).1.length ≤ _; omega, .inr rfl⟩
  have hn : Rw.none.ls.length ≤ 524288 + (m + 1) ∧ (Rw.none.log = 0 ∨ Rw.none.log = 1) := ⟨by show 0 ≤ _; omega, .inl rfl⟩
  revert hr
  unfold Wl.Rf.opn
  split
  · intro hr
    exact ((h.more (by omega)).disk hr (by show r.acts ≤ _; omega) rfl rfl (Nat.le_refl _)).wal hn.1 hn.2
  · split
    · unfold Rf.opn2
      split <;> intro hr
      · exact (h.act 2 1 _ hr).wal hf.1 hf.2
      · exact (h.act 2 1 _ hr).wal hn.1 hn.2
    · split
      · unfold Rf.opn2
        split <;> intro hr
        · exact (h.act 1 1 _ hr).wal hf.1 hf.2
        · exact (h.act 1 1 _ hr).wal hn.1 hn.2
      · intro hr
        exact ((h.more (by omega)).disk hr (by show r.acts ≤ _; omega) rfl rfl (Nat.le_refl _)).wal hf.1 hf.2
end
end Go.Proofs.Ytlfigbgcackimaa

/- The law's both.does, of whatever kind; the law's has. -/
namespace Go.Proofs.Ytlfigbgcackimaa
open Go.RowKit Go.Fm Go.Dk Go.Wl Go.Iv
set_option linter.unusedVariables false
set_option linter.unusedSimpArgs false
set_option maxRecDepth 100000

section
variable {W w : World} {y g : Nat} {q : Option Nat} {F : Nat → Prop} {d : D} {AL : Option Addr} {cL : Nat} {AK : Option Addr} {cK : Nat} {r : Rf} {AV : Option Addr} {cV : Nat} {u : Rw}
theorem Yx.ok (h : Yx W w y g q F d AL cL AK cK r AV cV u) : Ok d := by
  obtain ⟨a, b, c, x⟩ := h.dsk
  exact x.ok
end
/-- The pair goes on, at most m acts counted. -/
def Both (W w : World) (y g m : Nat) : Prop := ∃ q F d AL cL AK cK r AV cV u, Yx W w y g q F d AL cL AK cK r AV cV u ∧ P8 r d u m
theorem does_any8 (W w : World) (y g p m : Nat) (F : Nat → Prop) (d : D) (AL : Option Addr) (cL : Nat) (AK : Option Addr) (cK : Nat) (r : Rf) (AV : Option Addr) (cV : Nat) (u : Rw) (x : Ac) (hga : GA W x) (hs : x.s.length ≤ 1000) (hkl : x.keep.length ≤ 20) (h : Yx W w y g (some p) F d AL cL AK cK r AV cV u) (P : P8 r d u m) (hm : m ≤ 900) :
    Calls Try.prog 15 #[ptr y, .agg (encA x).toArray] w fun e w' => e = .returned (.bool true) ∧ Both W w' y g (m + 2) := by
  have ok := h.ok
  have o := P.rok ok (by omega)
  have ha := P.hacts (by omega)
  have hul : u.ls.length ≤ 1000000 := by have := P.ul; omega
  have hlog : W64 u.log := by
    rcases P.log with e | e <;> rw [e]
    · exact w64 0 (by omega)
    · exact w64 1 (by omega)
  have hv := h.yv
  have key : x.kind = 0 ∨ x.kind = 1 ∨ x.kind = 2 ∨ x.kind = 3 ∨ x.kind = 4 ∨ x.kind = 5 ∨ (x.kind < 0 ∨ 5 < x.kind) := by omega
  rcases key with hk | hk | hk | hk | hk | hk | hk
  · refine (does0 W w y g p F d AL cL AK cK r AV cV u x hk hv o P.rel hlog hul ha (by show u.ls.length + 1 ≤ _; omega) hs).mono ?_
    rintro e w' ⟨rfl, F', A1, c1, A2, c2, A3, c3, h2⟩
    exact ⟨rfl, _, _, _, _, _, _, _, _, _, _, _, h2.yx, (P.wact 0 [x.s] (fun _ => by simp) (by simp) (rel_append P.rel u x.s).2.2).more (by omega)⟩
  · refine (does1 W w y g p F d AL cL AK cK r AV cV u x hk hv o P.rel hlog hul ha).mono ?_
    rintro e w' ⟨rfl, F', A1, c1, A2, c2, A3, c3, h2⟩
    exact ⟨rfl, _, _, _, _, _, _, _, _, _, _, _, h2.yx, (P.wact 1 [] (fun _ => by simp) (by simp) (rel_sync P.rel u).2.2).more (by omega)⟩
  · refine (does2 W w y g p F d AL cL AK cK r AV cV u x hk hv o P.rel hlog hul ha hga hs (by omega)).mono ?_
    rintro e w' ⟨rfl, F', A1, c1, A2, c2, A3, c3, h2⟩
    exact ⟨rfl, _, _, _, _, _, _, _, _, _, _, _, h2.yx, (P.wact 2 x.loads (fun h => by omega) (by rw [x.loads_len]; omega) (rel_fresh P.rel u x.loads).2.2).more (by omega)⟩
  · refine (does3 W w y g p F d AL cL AK cK r AV cV u x hk hv o P.rel hga (by omega)).mono ?_
    rintro e w' ⟨rfl, F', A1, c1, A2, c2, h2⟩
    exact ⟨rfl, _, _, _, _, _, _, _, _, _, _, _, h2.yx, (P.arm x.n x.keep hkl hga.range).more (by omega)⟩
  · have P2 := (P.crash x.keep).up
    have o2 := P2.rok (ok.crash x.keep).up (by omega)
    refine (does4 W w y g p F d AL cL AK cK r AV cV u x hk hv o P.rel hga o2 (by have := P2.two; omega) (P2.hacts (by omega))).mono ?_
    rintro e w' ⟨rfl, q', F', A1, c1, A2, c2, A3, c3, hq, h2⟩
    exact ⟨rfl, _, _, _, _, _, _, _, _, _, _, _, h2, (P2.opened o2).more (by omega)⟩
  · have P2 := P.act 0 1 x.s (P.rel.append 1 x.s).2
    have o2 := P2.rok (ok.append 1 x.s) (by omega)
    refine (does5 W w y g p F d AL cL AK cK r AV cV u x hk hv o P.rel hs ha o2 (by have := P2.two; omega) (P2.hacts (by omega))).mono ?_
    rintro e w' ⟨rfl, q', F', A1, c1, A2, c2, A3, c3, hq, h2⟩
    exact ⟨rfl, _, _, _, _, _, _, _, _, _, _, _, h2, (P2.opened o2).more (by omega)⟩
  · refine (does6 W w y g p F d AL cL AK cK r AV cV u x hk hv o P.rel hga (by have := P.two; omega) ha).mono ?_
    rintro e w' ⟨rfl, q', F', A1, c1, A2, c2, A3, c3, hq, h2⟩
    exact ⟨rfl, _, _, _, _, _, _, _, _, _, _, _, h2, (P.opened o).more (by omega)⟩
end Go.Proofs.Ytlfigbgcackimaa

/- The law's has. -/
namespace Go.Proofs.Ytlfigbgcackimaa
open Go.RowKit Go.Fm Go.Dk Go.Wl Go.Iv
set_option linter.unusedVariables false
set_option linter.unusedSimpArgs false
set_option maxRecDepth 100000

set_option maxHeartbeats 1000000 in
theorem has8 (g : Nat) (d : D) (F : Nat → Prop) (r : Rf) (w : World) (hd : Dsk w g d F) (hrel : Rel r d) (h2 : r.logs.length = 2) (ho : r.off = false) :
    Calls Try.prog 22 #[ptr g, .string (txt (r.bytes 1))] w fun e w' => e = .returned (.bool true) ∧ Below w.heap.size w w' := by
  have hin : (0 : Int) ≤ 1 ∧ (1 : Int) < r.logs.length := by omega
  have hck : d.check 1 = 0 := by rw [hrel.check, if_pos hin, ho]; rfl
  have hrd : d.read 1 = r.bytes 1 := by rw [hrel.read 1 hin ho]; unfold Rf.bytes; rw [if_pos hin]
  have HR := Lib.hid (read_any g d F 1 (w64 1 (by omega)) w hd)
  rw [hck, hrd] at HR
  clear hck hrd hrel hd hin
  generalize r.bytes 1 = bs at *
  go_enter Try.func22, Try.ntmps22
  go_wp2_with fail
  refine HR.out.mono ?_
  rintro e w1 ⟨v, rfl, hob, hb⟩
  obtain ⟨A, cap, rfl, h1, h2, h3⟩ := OwnB.slice0 hob
  have hcv : (convert 52 9 (.slice A bs.length cap)).run Try.prog w1 = .ok (.string (txt bs)) w1 := conv_bytes _ A cap _ w1 (hob.sees rfl)
  have HB := Lib.hid hb
  clear hob hb HR
  go_wp2_with fail
  go_ret
  exact ⟨rfl, HB.out⟩
end Go.Proofs.Ytlfigbgcackimaa

/- A play on both wals: where it starts, what is asked of the pair. -/
namespace Go.Proofs.Ytlfigbgcackimaa
open Go.RowKit Go.Fm Go.Dk Go.Wl Go.Iv
set_option linter.unusedVariables false
set_option linter.unusedSimpArgs false
set_option maxRecDepth 100000

theorem yx_start {w w1 w2 : World} {g : Nat} {F : Nat → Prop} {A : Option Addr} {c : Nat} (hb1 : Below w.heap.size w w1) (hF : ∀ b, F b → w.heap.size ≤ b) (hd : Dsk w1 g (D.new 2) F) (hb2 : Below w1.heap.size w1 w2) (hm : IsM (fun b => w1.heap.size ≤ b) w2 A c none 0 (Rf.new 2)) (o : Obj) :
    Yx w ((w2.alloc o).alloc (.cells (ycells g none A c none 0 (Rf.new 2) none 0 Rw.none) 39)) (w2.heap.size + 1) g none F (D.new 2) A c none 0 (Rf.new 2) none 0 Rw.none := by
  have hz1 := hb1.size
  have hz2 := hb2.size
  have hbo := (Below.refl w2.heap.size w2).alloc (Nat.le_refl _) o
  have hbp := hbo.alloc (by simp) (.cells (ycells g none A c none 0 (Rf.new 2) none 0 Rw.none) 39)
  have hlow : ∀ b, F b → b < w1.heap.size := fun b hb => hd.low hb
  refine ⟨(hb1.trans (hb2.mono hz1)).trans (hbp.mono (by omega)), ?_, (hd.call hb2).call hbp, (fun p hp => by cases hp), ⟨by omega, fun hf => by have := hlow _ hf; omega, hF⟩, ?_, seen_none _ _⟩
  · have := Whole.fresh (w2.alloc o) 39 (ycells g none A c none 0 (Rf.new 2) none 0 Rw.none)
    rwa [show (w2.alloc o).heap.size = w2.heap.size + 1 by simp] at this
  · refine (hm.mono (H := Out F (w2.heap.size + 1) none) fun b hb hg => ⟨fun hf => ?_, fun e => ?_, fun e => by cases e⟩).call hbp
    · have := hlow _ hf; omega
    · omega
theorem P8.start : P8 (Rf.new 2) (D.new 2) Rw.none 0 := ⟨Rel.new 2, Nat.le_refl _, by simp [Rf.new], (fun m hm => by simp [Rf.new] at hm), by simp [Rf.new], by show 0 ≤ _; omega, .inl rfl⟩
section
variable {W w : World} {y g : Nat} {q : Option Nat} {F : Nat → Prop} {d : D} {AL : Option Addr} {cL : Nat} {AK : Option Addr} {cK : Nat} {r : Rf} {AV : Option Addr} {cV : Nat} {u : Rw}
theorem Yx.cells (h : Yx W w y g q F d AL cL AK cK r AV cV u) :
    (w.cell? ⟨y, 0, none⟩ = some (ptr g) ∧ w.cell? ⟨y, 1, none⟩ = some (wptr q)) ∧
    (w.cell? ⟨y, 2, none⟩ = some (.slice AL r.logs.length cL) ∧ w.cell? ⟨y, 3, none⟩ = some (.int .i64 r.acts) ∧ w.cell? ⟨y, 4, none⟩ = some (.bool r.off) ∧ w.cell? ⟨y, 5, none⟩ = some (.int .i64 r.armed) ∧ w.cell? ⟨y, 6, none⟩ = some (.slice AK r.keep.length cK)) ∧
    (w.cell? ⟨y, 7, none⟩ = some (.int .i64 u.log) ∧ w.cell? ⟨y, 8, none⟩ = some (.slice AV u.ls.length cV) ∧ w.cell? ⟨y, 9, none⟩ = some (.int .i64 u.sure) ∧ w.cell? ⟨y, 10, none⟩ = some (.bool u.dead)) ∧
    (w.frozen? ⟨y, 2, none⟩ = false ∧ w.frozen? ⟨y, 3, none⟩ = false ∧ w.frozen? ⟨y, 4, none⟩ = false ∧ w.frozen? ⟨y, 5, none⟩ = false ∧ w.frozen? ⟨y, 6, none⟩ = false) :=
  ⟨⟨h.face.cell 0, h.face.cell 1⟩, ⟨h.face.cell 2, h.face.cell 3, h.face.cell 4, h.face.cell 5, h.face.cell 6⟩, ⟨h.face.cell 7, h.face.cell 8, h.face.cell 9, h.face.cell 10⟩, ⟨h.face.free 2, h.face.free 3, h.face.free 4, h.face.free 5, h.face.free 6⟩⟩
theorem Yx.class (h : Yx W w y g q F d AL cL AK cK r AV cV u) : ∃ C : World → Prop, C w.drew ∧ Hid (∀ a b, C a → Below a.heap.size a b → C b) ∧ Hid (∀ a, C a → Yx W a y g q F d AL cL AK cK r AV cV u) :=
  ⟨fun a => Yx W a y g q F d AL cL AK cK r AV cV u, h.call (drew_below w 1), Lib.hid fun a b ha hb => ha.call hb, Lib.hid fun a ha => ha⟩
/-- The document's disk is put on, with the program's. -/
theorem Yx.ups (h : Yx W w y g none F d AL cL AK cK r AV cV u) :
    Calls Try.prog 13 #[ptr g] w fun e w' => e = .returned (.tuple #[]) ∧ ∃ F', Yx W w' y g none F' d.up AL cL AK cK r AV cV u := by
  refine (up_any g d F w h.dsk).mono ?_
  rintro e w' ⟨h1, h2⟩
  obtain ⟨F', h3⟩ := h.yv.moved h2
  exact ⟨h1, F', h3.yx⟩
theorem Yx.setUp (h : Yx W w y g q F d AL cL AK cK r AV cV u) {w' : World} (hb : Below w.heap.size w w') : Yx W (((((w'.setCell ⟨y, 2, none⟩ (.slice AL r.up.logs.length cL)).setCell ⟨y, 3, none⟩ (.int .i64 r.up.acts)).setCell ⟨y, 4, none⟩ (.bool r.up.off)).setCell ⟨y, 5, none⟩ (.int .i64 r.up.armed)).setCell ⟨y, 6, none⟩ (.slice AK r.up.keep.length cK)) y g q F d AL cL AK cK r.up AV cV u :=
  ((h.call hb).yv.setM ((h.call hb).yv.disk.up)).yx
theorem Yx.len (h : Yx W w y g q F d AL cL AK cK r AV cV u) {p : Nat} (hq : q = some p) : Calls Try.prog 17 #[ptr p] w fun e w' => e = .returned (.int .i64 u.ls.length) ∧ w' = w := len_any p g u.wv w (h.wal p hq).1
theorem Yx.sure (h : Yx W w y g q F d AL cL AK cK r AV cV u) {p : Nat} (hq : q = some p) : Calls Try.prog 18 #[ptr p] w fun e w' => e = .returned (.int .i64 u.sure) ∧ w' = w := wsure_any p g u.wv w (h.wal p hq).1
theorem Yx.down (h : Yx W w y g q F d AL cL AK cK r AV cV u) (hr : Rel r d) : Calls Try.prog 20 #[ptr g] w fun e w' => e = .returned (.bool r.off) ∧ w' = w := by rw [← hr.off]; exact down_any g d F w h.dsk
theorem Yx.acts (h : Yx W w y g q F d AL cL AK cK r AV cV u) (hr : Rel r d) : Calls Try.prog 21 #[ptr g] w fun e w' => e = .returned (.int .i64 r.acts) ∧ w' = w := by rw [← hr.acts]; exact acts_any g d F w h.dsk
end
end Go.Proofs.Ytlfigbgcackimaa
