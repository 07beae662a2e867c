/- Arguments opened at layer 5: a span, a list of spans, a Time; and the contract of awake. -/
import Derived.Test.YtaoldfndidngbaaSpanX
namespace Go.Proofs.Ytaoldfndidngbaa
open Go.ChangeShapes Go.WideShapes Go.ChangeAt Go.RowKit Go.Sp Go.Fl
set_option linter.unusedVariables false
set_option linter.unusedSimpArgs false

section
variable {H : Type} {enc : TypeId × Value → H} {W : World} {base fuel : Nat} {spare : Nat → Bool} {held : Bool}

theorem float_of {P : Program} {t : TypeId} {cs : List Value} {x : DataW H × List MemPlace} {k : FloatKind} (ht : P.underlying t = some (.float k)) (h : DataW.trod enc P W base spare held fuel t cs = some x) :
    ∃ n, cs = [.float k n] ∧ (Lit.float k n).wf = true := by
  cases fuel with
  | zero => simp [DataW.trod] at h
  | succ n =>
    unfold DataW.trod at h
    rw [ht] at h
    split at h <;> simp_all
theorem list2 {α : Type} {l : List α} (h : l.length = 2) : ∃ a b, l = [a, b] := by
  match l, h with
  | [a, b], _ => exact ⟨a, b, rfl⟩
theorem list3 {α : Type} {l : List α} (h : l.length = 3) : ∃ a b c, l = [a, b, c] := by
  match l, h with
  | [a, b, c], _ => exact ⟨a, b, c, rfl⟩

theorem span_cells {m : Nat} {cs : List Value} {x : DataW H × List MemPlace} (hm : DataW.trod enc Try.prog W base spare held m 23 cs = some x) :
    ∃ a b : Int, cs = [.int .i64 a, .int .i64 b] ∧ R64 a ∧ R64 b := by
  obtain ⟨xs, n, -, -, hl, hxl, hf⟩ := DataW.trod_struct Try.underlying23 hm
  rw [show Try.prog.cellsOf 23 = 2 by kernel_rfl] at hl
  obtain ⟨c0, c1, rfl⟩ := list2 hl
  obtain ⟨y0, y1, rfl⟩ := list2 (l := xs) (by simpa using hxl)
  have h0 : DataW.trod enc Try.prog W base spare held n 2 (([c0, c1].drop 0).take (Try.prog.cellsOf 2)) = some y0 := hf 0 _ rfl
  have h1 : DataW.trod enc Try.prog W base spare held n 2 (([c0, c1].drop 1).take (Try.prog.cellsOf 2)) = some y1 := hf 1 _ rfl
  rw [show Try.prog.cellsOf 2 = 1 by kernel_rfl] at h0 h1
  obtain ⟨a, e0, -, w0⟩ := DataW.trod_int Try.underlying2 h0
  obtain ⟨b, e1, -, w1⟩ := DataW.trod_int Try.underlying2 h1
  simp only [List.drop_succ_cons, List.drop_zero, List.take_succ_cons, List.take_zero, List.cons.injEq, and_true] at e0 e1
  subst e0 e1
  have b0 := bounds_i64 w0
  have b1 := bounds_i64 w1
  exact ⟨a, b, rfl, ⟨by omega, by omega⟩, ⟨by omega, by omega⟩⟩

theorem open_span {r : Reach} {b0 : Nat} {v : Value} {d : DataW H} {p : List MemPlace} (hv : Value.okWide Try.prog W r b0 23 v) (h : DataW.Trod enc Try.prog W base spare held 23 v d p) :
    ∃ a b : Int, v = .agg #[.int .i64 a, .int .i64 b] ∧ R64 a ∧ R64 b := by
  obtain ⟨cs, rfl, hsz⟩ := okWide_struct Try.underlying23 hv
  obtain ⟨m, hm⟩ := h
  obtain ⟨a, b, e, ha, hb⟩ := span_cells hm
  refine ⟨a, b, ?_, ha, hb⟩
  have : cs.toList = [.int .i64 a, .int .i64 b] := by simpa [Value.cells] using e
  cases cs
  simp at this
  rw [this]

theorem open_time {r : Reach} {b0 : Nat} {v : Value} {d : DataW H} {p : List MemPlace} (hv : Value.okWide Try.prog W r b0 47 v) (h : DataW.Trod enc Try.prog W base spare held 47 v d p) :
    ∃ (a b : Int) (f : Nat), v = .agg #[.int .i64 a, .int .i64 b, .float .f64 f] ∧ R64 a ∧ R64 b ∧ f < 18446744073709551616 := by
  obtain ⟨cs, rfl, hsz⟩ := okWide_struct Try.underlying47 hv
  obtain ⟨m, hm⟩ := h
  obtain ⟨xs, n, -, -, hl, hxl, hf⟩ := DataW.trod_struct Try.underlying47 hm
  rw [show Try.prog.cellsOf 47 = 3 by kernel_rfl] at hl
  obtain ⟨c0, c1, c2, hcs⟩ := list3 hl
  obtain ⟨y0, y1, y2, rfl⟩ := list3 (l := xs) (by simpa using hxl)
  rw [hcs] at hf
  have h0 : DataW.trod enc Try.prog W base spare held n 2 (([c0, c1, c2].drop 0).take (Try.prog.cellsOf 2)) = some y0 := hf 0 _ rfl
  have h1 : DataW.trod enc Try.prog W base spare held n 2 (([c0, c1, c2].drop 1).take (Try.prog.cellsOf 2)) = some y1 := hf 1 _ rfl
  have h2 : DataW.trod enc Try.prog W base spare held n 32 (([c0, c1, c2].drop 2).take (Try.prog.cellsOf 32)) = some y2 := hf 2 _ rfl
  rw [show Try.prog.cellsOf 2 = 1 by kernel_rfl] at h0 h1
  rw [show Try.prog.cellsOf 32 = 1 by kernel_rfl] at h2
  obtain ⟨a, e0, -, w0⟩ := DataW.trod_int Try.underlying2 h0
  obtain ⟨b, e1, -, w1⟩ := DataW.trod_int Try.underlying2 h1
  obtain ⟨f, e2, w2⟩ := float_of (k := .f64) Try.underlying32 h2
  simp only [List.drop_succ_cons, List.drop_zero, List.take_succ_cons, List.take_zero, List.cons.injEq, and_true] at e0 e1 e2
  subst e0 e1 e2
  have b0 := bounds_i64 w0
  have b1 := bounds_i64 w1
  have b2 : f < 18446744073709551616 := by simpa [Lit.wf] using w2
  refine ⟨a, b, f, ?_, ⟨by omega, by omega⟩, ⟨by omega, by omega⟩, b2⟩
  have : cs.toList = [.int .i64 a, .int .i64 b, .float .f64 f] := by simpa [Value.cells] using hcs
  cases cs
  simp at this
  rw [this]

/-- What a list of spans that came in is like. -/
def IsL (w : World) (A : Option Addr) (len cap : Nat) (l : List (Int × Int)) : Prop :=
  l.length = len ∧ Sees w w.heap.size 2 A len (spans l) ∧ len ≤ cap ∧ cap ≤ 9223372036854775807 ∧ (A = none → cap = 0) ∧ ∀ s ∈ l, R64 s.1 ∧ R64 s.2

theorem open_spans {A : Option Addr} {len cap : Nat} {d : DataW H} {p : List MemPlace} (h : DataW.Trod enc Try.prog W 0 (fun _ => true) held 40 (.slice A len cap) d p) : ∃ l, IsL W A len cap l := by
  obtain ⟨m, hm⟩ := h
  rcases Deep.open_slice Try.underlying40 hm with ⟨hcs, _⟩ | ⟨a, l, c, k, n, D, Pl, hcs, _, hl, hc, hk, _, hi⟩
  · simp [Value.cells] at hcs
    obtain ⟨rfl, rfl, rfl⟩ := hcs
    exact ⟨[], rfl, Sees.nothing _ _ _ _, by omega, by omega, fun _ => rfl, fun l h => by simp at h⟩
  · simp [Value.cells] at hcs
    obtain ⟨rfl, rfl, rfl⟩ := hcs
    have hkc : k = cap := by simpa using hk
    subst hkc
    rw [show Try.prog.cellsOf 23 = 2 by kernel_rfl] at hi
    have each : ∀ i, i < k → ∃ v : Int × Int, (R64 v.1 ∧ R64 v.2) ∧ W.cell? (a.add (i * 2)) = some (.int .i64 v.1) ∧ W.cell? ((a.add (i * 2)).add 1) = some (.int .i64 v.2) := by
      intro i hik
      obtain ⟨cs', h1, h2⟩ := hi i hik
      obtain ⟨s, t, hs, ra, rb⟩ := span_cells h2
      subst hs
      refine ⟨(s, t), ⟨ra, rb⟩, ?_, ?_⟩
      · obtain ⟨_, _, hat⟩ := World.cells?_some h1
        have := hat 0 (by omega)
        simpa [Addr.add] using this
      · obtain ⟨_, _, hat⟩ := World.cells?_some h1
        have := hat 1 (by omega)
        simpa using this
    obtain ⟨f, hf⟩ := Deep.choose_lt (α := Int × Int) (p := fun i v => (R64 v.1 ∧ R64 v.2) ∧ W.cell? (a.add (i * 2)) = some (.int .i64 v.1) ∧ W.cell? ((a.add (i * 2)).add 1) = some (.int .i64 v.2)) each
    refine ⟨(List.range len).map f, by simp, ?_, hl, by unfold maxLen at hc; omega, (fun h => by cases h), ?_⟩
    · refine ⟨by rw [spans_length]; simp, fun h0 => ?_⟩
      obtain ⟨b, off, spot⟩ := a
      have hc0 := (hf 0 (by omega)).2.1
      rw [show ((⟨b, off, spot⟩ : Addr).add (0 * 2)) = ⟨b, off, spot⟩ by simp [Addr.add]] at hc0
      have hspot : spot = none := by simpa [Addr.add] using World.cell?_spot hc0
      subst hspot
      have hb := World.block_lt_of_cell? W ⟨b, off, none⟩ hc0
      refine ⟨b, off, rfl, hb, fun j u hu => ?_⟩
      have hj : j < len * 2 := by
        have := (List.getElem?_eq_some_iff.1 hu).1
        rw [spans_length, List.length_map, List.length_range] at this
        exact this
      have hat := spans_at ((List.range len).map f) (j / 2) (f (j / 2)) (by rw [List.getElem?_map, List.getElem?_range (by omega)]; rfl)
      have hff := (hf (j / 2) (by omega)).2
      rw [add_at, add_at] at hff
      rcases Nat.mod_two_eq_zero_or_one j with hm2 | hm2
      · rw [show j = j / 2 * 2 by omega, hat.1] at hu
        rw [show off + j = off + j / 2 * 2 by omega, hff.1, ← hu]
      · rw [show j = j / 2 * 2 + 1 by omega, hat.2] at hu
        rw [show off + j = off + j / 2 * 2 + 1 by omega, hff.2, ← hu]
    · intro l hl'
      obtain ⟨i, hi, rfl⟩ := List.mem_map.1 hl'
      exact (hf i (by have := List.mem_range.1 hi; omega)).1
end

theorem aw_around : widE 10 10 3 = 0 ∧ widL 10 10 3 = 7 ∧ widH 10 10 3 = 13 := by decide +kernel
theorem aw_drift : driE 100 100 1000 4562254508917369340 = 0 ∧ driL 100 100 1000 4562254508917369340 = 98 ∧ driH 100 100 1000 4562254508917369340 = 102 := by decide +kernel
theorem aw_meet : metB 1 5 4 9 = true ∧ mL 1 5 4 9 = 4 ∧ mH 1 5 4 9 = 5 := by decide +kernel
theorem aw_join : joiB [(1, 2), (8, 9)] = true ∧ joiL [(1, 2), (8, 9)] = 1 ∧ joiH [(1, 2), (8, 9)] = 9 := by decide +kernel
theorem aw_has : hasB 7 13 7 = true := by decide +kernel
theorem aw_before : befB 4 5 1 9 = false := by decide +kernel
theorem aw_check : chkS 2 1 = 50 := by decide +kernel

theorem r64 (n : Int) (h : -9223372036854775808 ≤ n ∧ n < 9223372036854775808) : R64 n := h
set_option maxRecDepth 100000 in
set_option maxHeartbeats 4000000 in
theorem awake_any (w : World) : Calls Try.prog 15 #[] w fun e w' => e = .returned (.bool true) ∧ Below w.heap.size w w' := by
  have A1 := Lib.hid aw_around
  have A2 := Lib.hid aw_drift
  have A3 := Lib.hid aw_meet
  have A4 := Lib.hid aw_join
  have A5 := Lib.hid aw_has
  have A6 := Lib.hid aw_before
  have A7 := Lib.hid aw_check
  go_enter Try.func15, Try.ntmps15
  go_wp2_with fail
  refine (saround_any 10 3 _ (r64 _ (by omega)) (r64 _ (by omega))).mono ?_
  rintro e w1 ⟨rfl, hb1⟩
  rw [A1.out.1, A1.out.2.1, A1.out.2.2]
  have H1 := Lib.hid ((St.start w).call hb1)
  clear hb1
  go_wp2_with fail
  refine (sdrift_any 100 100 1000 4562254508917369340 (by omega) _ (r64 _ (by omega)) (r64 _ (by omega)) (r64 _ (by omega))).mono ?_
  rintro e w2 ⟨rfl, hb2⟩
  rw [A2.out.1, A2.out.2.1, A2.out.2.2]
  have H2 := Lib.hid ((H1.out.alloc w1.heap.size rfl 23 #[.int .i64 7, .int .i64 13]).call hb2)
  clear hb2
  go_wp2_with fail
  refine (smeet_any 1 5 4 9 _ (r64 _ (by omega)) (r64 _ (by omega)) (r64 _ (by omega)) (r64 _ (by omega))).mono ?_
  rintro e w3 ⟨rfl, hb3⟩
  rw [A3.out.1, A3.out.2.1, A3.out.2.2]
  have H3 := Lib.hid ((H2.out.alloc w2.heap.size rfl 23 #[.int .i64 98, .int .i64 102]).call hb3)
  clear hb3
  go_wp2_with fail
  have hs4 : Sees ((w3.alloc (.cells #[.int .i64 4, .int .i64 5] 23)).alloc (.cells #[.int .i64 1, .int .i64 2, .int .i64 8, .int .i64 9] 23)) (w3.heap.size + 2) 2 (some ⟨w3.heap.size + 1, 0, none⟩) 2 (spans [(1, 2), (8, 9)]) :=
    ⟨rfl, fun _ => ⟨w3.heap.size + 1, 0, rfl, by omega, fun j u hu => by
      rw [Nat.zero_add]
      have hw := (Whole.fresh (w3.alloc (.cells #[.int .i64 4, .int .i64 5] 23)) 23 #[.int .i64 1, .int .i64 2, .int .i64 8, .int .i64 9]).cell j
      simp only [World.size_alloc] at hw
      rw [hw]; simpa [spans] using hu⟩⟩
  refine (sjoin_any _ _ 2 [(1, 2), (8, 9)] _ hs4 (by simp) (by simp) (by intro s hs; simp at hs; rcases hs with rfl | rfl <;> exact ⟨r64 _ (by omega), r64 _ (by omega)⟩) (by simp)).mono ?_
  rintro e w4 ⟨rfl, hb4⟩
  rw [A4.out.1, A4.out.2.1, A4.out.2.2]
  have H4 := Lib.hid (((H3.out.alloc w3.heap.size rfl 23 #[.int .i64 4, .int .i64 5]).other (.cells #[.int .i64 1, .int .i64 2, .int .i64 8, .int .i64 9] 23)).call hb4)
  clear hb4 hs4
  obtain ⟨c0, c1, d0, d1, z0⟩ := H4.out.two 0 w3.heap.size rfl
  obtain ⟨c2, c3, d2, d3, z2⟩ := H4.out.two 1 w2.heap.size rfl
  obtain ⟨c4, c5, d4, d5, z4⟩ := H4.out.two 2 w1.heap.size rfl
  go_wp2_with fail
  refine (shas_any 7 13 7 _ (r64 _ (by omega)) (r64 _ (by omega)) (r64 _ (by omega))).mono ?_
  rintro e w5 ⟨rfl, hb5⟩
  rw [A5.out]
  have H5 := Lib.hid ((H4.out.alloc w4.heap.size rfl 23 #[.int .i64 1, .int .i64 9]).call hb5)
  clear hb5 c0 c1 d0 d1 z0 c2 c3 d2 d3 z2 c4 c5 d4 d5 z4
  obtain ⟨c0, c1, d0, d1, z0⟩ := H5.out.two 0 w4.heap.size rfl
  obtain ⟨c2, c3, d2, d3, z2⟩ := H5.out.two 1 w3.heap.size rfl
  go_wp2_with fail
  refine (sbefore_any 4 5 1 9 _ (r64 _ (by omega)) (r64 _ (by omega)) (r64 _ (by omega)) (r64 _ (by omega))).mono ?_
  rintro e w6 ⟨rfl, hb6⟩
  rw [A6.out]
  have H6 := Lib.hid (H5.out.call hb6)
  clear hb6 c0 c1 d0 d1 z0 c2 c3 d2 d3 z2
  go_wp2_with fail
  refine (scheck_any 2 1 _ (r64 _ (by omega)) (r64 _ (by omega))).mono ?_
  rintro e w7 ⟨rfl, hb7⟩
  rw [A7.out]
  have H7 := Lib.hid (H6.out.call hb7)
  clear hb7
  go_wp2_with fail
  go_ret
  exact ⟨rfl, H7.out.below⟩
end Go.Proofs.Ytaoldfndidngbaa
