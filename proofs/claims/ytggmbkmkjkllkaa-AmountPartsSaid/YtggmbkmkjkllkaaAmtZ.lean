/- Arguments opened at layer 4: a list of numbers, a charge; and the contract of awake. -/
import Derived.Test.YtggmbkmkjkllkaaAmtX
namespace Go.Proofs.Ytggmbkmkjkllkaa
open Go.ChangeShapes Go.WideShapes Go.ChangeAt Go.RowKit Go.Am Go.Fl
set_option linter.unusedVariables false
set_option linter.unusedSimpArgs false

section
variable {H : Type} {enc : TypeId × Value → H} {W : World} {base fuel : Nat} {spare : Nat → Bool} {held : Bool}

theorem float_of {P : Program} {t : TypeId} {cs : List Value} {x : DataW H × List MemPlace} {k : FloatKind} (ht : P.underlying t = some (.float k)) (h : DataW.trod enc P W base spare held fuel t cs = some x) :
    ∃ n, cs = [.float k n] ∧ (Lit.float k n).wf = true := by
  cases fuel with
  | zero => simp [DataW.trod] at h
  | succ n =>
    unfold DataW.trod at h
    rw [ht] at h
    split at h <;> simp_all
theorem list2 {α : Type} {l : List α} (h : l.length = 2) : ∃ a b, l = [a, b] := by
  match l, h with
  | [a, b], _ => exact ⟨a, b, rfl⟩

theorem open_charge {r : Reach} {b0 : Nat} {v : Value} {d : DataW H} {p : List MemPlace} (hv : Value.okWide Try.prog W r b0 44 v) (h : DataW.Trod enc Try.prog W base spare held 44 v d p) :
    ∃ (a : Int) (f : Nat), v = .agg #[.int .i64 a, .float .f64 f] ∧ (-9223372036854775808 ≤ a ∧ a < 9223372036854775808) ∧ f < 18446744073709551616 := by
  obtain ⟨cs, rfl, hsz⟩ := okWide_struct Try.underlying44 hv
  obtain ⟨m, hm⟩ := h
  obtain ⟨xs, n, -, -, hl, hxl, hf⟩ := DataW.trod_struct Try.underlying44 hm
  rw [show Try.prog.cellsOf 44 = 2 by kernel_rfl] at hl
  obtain ⟨c0, c1, hcs⟩ := list2 hl
  obtain ⟨y0, y1, rfl⟩ := list2 (l := xs) (by simpa using hxl)
  rw [hcs] at hf
  have h0 : DataW.trod enc Try.prog W base spare held n 2 (([c0, c1].drop 0).take (Try.prog.cellsOf 2)) = some y0 := hf 0 _ rfl
  have h1 : DataW.trod enc Try.prog W base spare held n 38 (([c0, c1].drop 1).take (Try.prog.cellsOf 38)) = some y1 := hf 1 _ rfl
  rw [show Try.prog.cellsOf 2 = 1 by kernel_rfl] at h0
  rw [show Try.prog.cellsOf 38 = 1 by kernel_rfl] at h1
  obtain ⟨a, e0, -, w0⟩ := DataW.trod_int Try.underlying2 h0
  obtain ⟨f, e1, w1⟩ := float_of (k := .f64) Try.underlying38 h1
  simp only [List.drop_succ_cons, List.drop_zero, List.take_succ_cons, List.take_zero, List.cons.injEq, and_true] at e0 e1
  subst e0 e1
  have b0 := bounds_i64 w0
  have b1 : f < 18446744073709551616 := by simpa [Lit.wf] using w1
  refine ⟨a, f, ?_, by omega, b1⟩
  have : cs.toList = [.int .i64 a, .float .f64 f] := by simpa [Value.cells] using hcs
  cases cs
  simp at this
  rw [this]

/-- What a list of numbers that came in is like. -/
def IsN (w : World) (A : Option Addr) (len cap : Nat) (l : List Int) : Prop :=
  l.length = len ∧ Sees w w.heap.size 1 A len (vals l) ∧ len ≤ cap ∧ cap ≤ 9223372036854775807 ∧ (A = none → cap = 0) ∧ ∀ n ∈ l, -9223372036854775808 ≤ n ∧ n < 9223372036854775808

theorem open_nums {A : Option Addr} {len cap : Nat} {d : DataW H} {p : List MemPlace} (h : DataW.Trod enc Try.prog W 0 (fun _ => true) held 27 (.slice A len cap) d p) : ∃ l, IsN W A len cap l := by
  obtain ⟨m, hm⟩ := h
  rcases Deep.open_slice Try.underlying27 hm with ⟨hcs, _⟩ | ⟨a, l, c, k, n, D, Pl, hcs, _, hl, hc, hk, _, hi⟩
  · simp [Value.cells] at hcs
    obtain ⟨rfl, rfl, rfl⟩ := hcs
    exact ⟨[], rfl, Sees.nothing _ _ _ _, by omega, by omega, fun _ => rfl, fun l h => by simp at h⟩
  · simp [Value.cells] at hcs
    obtain ⟨rfl, rfl, rfl⟩ := hcs
    have hkc : k = cap := by simpa using hk
    subst hkc
    rw [show Try.prog.cellsOf 2 = 1 by kernel_rfl] at hi
    have each : ∀ i, i < k → ∃ v : Int, (-9223372036854775808 ≤ v ∧ v < 9223372036854775808) ∧ W.cell? (a.add (i * 1)) = some (.int .i64 v) := by
      intro i hik
      obtain ⟨cs', h1, h2⟩ := hi i hik
      obtain ⟨s, hs, _, hsl⟩ := DataW.trod_int Try.underlying2 h2
      subst hs
      have hb := bounds_i64 hsl
      refine ⟨s, by omega, ?_⟩
      obtain ⟨_, _, hat⟩ := World.cells?_some h1
      have := hat 0 (by omega)
      simpa [Addr.add] using this
    obtain ⟨f, hf⟩ := Deep.choose_lt (α := Int) (p := fun i v => (-9223372036854775808 ≤ v ∧ v < 9223372036854775808) ∧ W.cell? (a.add (i * 1)) = some (.int .i64 v)) each
    refine ⟨(List.range len).map f, by simp, ?_, hl, by unfold maxLen at hc; omega, (fun h => by cases h), ?_⟩
    · refine ⟨by rw [vals_length]; simp, fun h0 => ?_⟩
      obtain ⟨b, off, spot⟩ := a
      have hc0 := (hf 0 (by omega)).2
      rw [show ((⟨b, off, spot⟩ : Addr).add (0 * 1)) = ⟨b, off, spot⟩ by simp [Addr.add]] at hc0
      have hspot : spot = none := by simpa [Addr.add] using World.cell?_spot hc0
      subst hspot
      have hb := World.block_lt_of_cell? W ⟨b, off, none⟩ hc0
      refine ⟨b, off, rfl, hb, fun j u hu => ?_⟩
      have hj : j < len := by
        have := (List.getElem?_eq_some_iff.1 hu).1
        rw [vals_length, List.length_map, List.length_range] at this
        exact this
      have hat := vals_at ((List.range len).map f) j (f j) (by rw [List.getElem?_map, List.getElem?_range hj]; rfl)
      rw [hat] at hu
      have := (hf j (by omega)).2
      rw [hu] at this
      rw [Nat.mul_one, add_at] at this
      exact this
    · intro l hl'
      obtain ⟨i, hi, rfl⟩ := List.mem_map.1 hl'
      exact (hf i (by have := List.mem_range.1 hi; omega)).1
end

theorem aw_add : totV [3, 4] = 7 ∧ totE [3, 4] = 0 := by decide +kernel
theorem aw_sub : subE 1 2 = 41 := by decide +kernel
theorem aw_split : splitE 7 3 = 0 ∧ splitV 7 3 = [3, 2, 2] := by decide +kernel
theorem aw_total : totV [1, 2, 3] = 6 ∧ totE [1, 2, 3] = 0 := by decide +kernel
theorem aw_check : chkE (-1) = 40 := by decide +kernel
theorem aw_rate : rateE 4611686018427387904 = 43 := by decide +kernel
theorem aw_fee : feeV 199 4576918229304087675 = 1 ∧ feeE 199 4576918229304087675 = 0 := by decide +kernel

set_option maxRecDepth 100000 in
set_option maxHeartbeats 1000000 in
theorem awake_any (w : World) : Calls Try.prog 15 #[] w fun e w' => e = .returned (.bool true) ∧ Below w.heap.size w w' := by
  have A1 := Lib.hid aw_add
  have A2 := Lib.hid aw_sub
  have A3 := Lib.hid aw_split
  have A4 := Lib.hid aw_fee
  have A5 := Lib.hid aw_total
  have A6 := Lib.hid aw_check
  have A7 := Lib.hid aw_rate
  go_enter Try.func15, Try.ntmps15
  go_wp2_with fail
  refine (add_any 3 4 (by omega) (by omega) _).mono ?_
  rintro e w1 ⟨rfl, hb1⟩
  rw [A1.out.1, A1.out.2]
  have HB1 := Lib.hid hb1
  clear hb1
  go_wp2_with fail
  refine (sub_any 1 2 (by omega) (by omega) _).mono ?_
  rintro e w2 ⟨rfl, hb2⟩
  rw [A2.out]
  have HB2 := Lib.hid (HB1.out.trans (hb2.mono HB1.out.size))
  clear hb2
  generalize subV 1 2 = q at *
  go_wp2_with fail
  refine (asplit_any 7 3 _).mono ?_
  rintro e w3 ⟨v3, rfl, ho3, hb3⟩
  rw [A3.out.1]
  rw [A3.out.2] at ho3
  obtain ⟨a3, c3, rfl, hc31, hc32, -⟩ := own_slice0 ho3
  have hse := ho3.sees rfl
  have HB3 := Lib.hid (HB2.out.trans (hb3.mono HB2.out.size))
  have HS3 := Lib.hid hse
  clear hb3 ho3 hse
  go_wp2_with fail
  refine (fee_any 199 4576918229304087675 (by omega) (by omega) _).mono ?_
  rintro e w4 ⟨rfl, hb4⟩
  rw [A4.out.1, A4.out.2]
  have HB4 := Lib.hid (HB3.out.trans (hb4.mono HB3.out.size))
  have HS4 := Lib.hid (HS3.out.below hb4)
  have hz4 := hb4.size
  clear hb4
  go_wp2_with fail
  have hs5 : Sees (w4.alloc (.cells #[.int .i64 1, .int .i64 2, .int .i64 3] 2)) (w4.heap.size + 1) 1 (some ⟨w4.heap.size, 0, none⟩) 3 (vals [1, 2, 3]) :=
    ⟨rfl, fun _ => ⟨w4.heap.size, 0, rfl, by omega, fun j u hu => by rw [Nat.zero_add, (Whole.fresh w4 2 _).cell j]; simpa [vals] using hu⟩⟩
  refine (total_any _ _ 3 [1, 2, 3] _ hs5 (by simp) (by simp) (by intro n hn; simp at hn; omega)).mono ?_
  rintro e w5 ⟨rfl, hb5⟩
  rw [A5.out.1, A5.out.2]
  have HB5 := Lib.hid ((HB4.out.alloc HB4.out.size _).trans (hb5.mono (by have := HB4.out.size; simp; omega)))
  have hs35 := HS4.out.below (((Below.refl w4.heap.size w4).alloc (Nat.le_refl _) _).trans (hb5.mono (by simp)) |>.mono hz4)
  obtain ⟨b3, o3, rfl, hb3, hc3⟩ := hs35.2 (by simp)
  have g0 := hc3 0 _ rfl
  rw [Nat.add_zero] at g0
  clear hb5 hs35 hc3
  go_wp2_with fail
  refine (check_any (-1) _).mono ?_
  rintro e w6 ⟨rfl, hb6⟩
  rw [A6.out]
  have HB6 := Lib.hid (HB5.out.trans (hb6.mono HB5.out.size))
  clear hb6
  go_wp2_with fail
  refine (rate_any 4611686018427387904 (by omega) _).mono ?_
  rintro e w7 ⟨rfl, hb7⟩
  rw [A7.out]
  have HB7 := Lib.hid (HB6.out.trans (hb7.mono HB6.out.size))
  clear hb7
  go_wp2_with fail
  go_ret
  exact ⟨rfl, HB7.out⟩
theorem tot_cases (l : List Int) : (totE l = 0 ∧ totOk l = true ∧ Fit l ∧ totV l = sum l) ∨ (totE l = 40 ∧ totOk l = false ∧ ¬ Fit l ∧ totV l = 0) := by
  unfold totE totOk totV
  by_cases h : Fit l
  · rw [if_pos h, if_pos h, decide_eq_true h]; exact .inl ⟨rfl, rfl, h, rfl⟩
  · rw [if_neg h, if_neg h, decide_eq_false h]; exact .inr ⟨rfl, rfl, h, rfl⟩
end Go.Proofs.Ytggmbkmkjkllkaa
