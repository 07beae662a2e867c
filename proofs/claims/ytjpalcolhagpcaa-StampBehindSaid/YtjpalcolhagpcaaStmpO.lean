/- Layer 10: where a law stands; awake; arguments opened: spans, calls, whole numbers. -/
import Derived.Test.YtjpalcolhagpcaaStmpN
namespace Go.Proofs.Ytjpalcolhagpcaa
open Go.ChangeShapes Go.WideShapes Go.ChangeAt Go.RowKit Go.Sp Go.Fl Go.Ck Go.Tp
set_option linter.unusedVariables false
set_option linter.unusedSimpArgs false
set_option maxRecDepth 100000

/-- Where a law stands: nothing of W has changed, these blocks are known, and block g, which is none of W, is a source whose last stamp is n. -/
structure Lg (W w : World) (L : List Row) (g : Nat) (n : Int) : Prop where
  st : St W w L
  src : Src w g n
  new : W.heap.size ≤ g
  far : ∀ r ∈ L, r.1 ≠ g
section
variable {g : Nat} {W w w' : World} {L : List Row} {n n' : Int}
theorem Src.lt (h : Src w g n) : g < w.heap.size := Whole.lt h
theorem Lg.call (h : Lg W w L g n) (hb : Below w.heap.size w w') : Lg W w' L g n := ⟨h.st.call hb, Whole.below h.src hb h.src.lt, h.new, h.far⟩
theorem Lg.drewN (h : Lg W w L g n) (k : Nat) : Lg W (w.drewN k) L g n := ⟨h.st.drewN k, Whole.drewN h.src k, h.new, h.far⟩
theorem Lg.alloc (h : Lg W w L g n) (x : Nat) (hx : x = w.heap.size) (t : TypeId) (cs : Array Value) : Lg W (w.alloc (.cells cs t)) ((x, t, cs) :: L) g n :=
  ⟨h.st.alloc x hx t cs, Whole.alloc h.src _, h.new, fun r hr => by
    rcases List.mem_cons.1 hr with rfl | hr
    · have := h.src.lt
      show x ≠ g
      omega
    · exact h.far r hr⟩
theorem Lg.few {L' : List Row} (h : Lg W w L g n) (hl : ∀ r ∈ L', r ∈ L) : Lg W w L' g n := ⟨h.st.few hl, h.src, h.new, fun r hr => h.far r (hl r hr)⟩
/-- The source was asked, or told. -/
theorem Lg.turn (h : Lg W w L g n) (hb : But g w w') (hc : Src w' g n') : Lg W w' L g n' :=
  ⟨⟨h.st.below.trans (hb.below h.st.below.size h.new), fun r hr => hb.whole (h.st.knows r hr) (h.far r hr)⟩, hc, h.new, h.far⟩
theorem Lg.set0 {x : Nat} {t : TypeId} {cs : Array Value} (h : Lg W w ((x, t, cs) :: L) g n) (hx : W.heap.size ≤ x) (hd : ∀ r ∈ L, r.1 ≠ x) (k : Nat) (u : Value) :
    Lg W (w.setCell ⟨x, k, none⟩ u) ((x, t, cs.setIfInBounds k u) :: L) g n :=
  ⟨h.st.set0 hx hd k u, Whole.away h.src (p := ⟨x, k, none⟩) (fun e => h.far (x, t, cs) (List.mem_cons_self ..) (by show x = g; exact e.symm)) u, h.new, fun r hr => by
    rcases List.mem_cons.1 hr with rfl | hr
    · exact h.far (x, t, cs) (List.mem_cons_self ..)
    · exact h.far r (List.mem_cons_of_mem _ hr)⟩
end

theorem snew_at (w : World) (g : Nat) (hg : g = w.heap.size) : Calls Try.prog 8 #[] w fun e w' => e = .returned (ptr g) ∧ Below w.heap.size w w' ∧ Src w' g 0 := by
  subst hg
  exact snew_any w
theorem sr64 (n : Int) (h : -9223372036854775808 ≤ n ∧ n < 9223372036854775808) : R64 n := h
theorem sr64_of {a : Int} (h : -9223372036854775808 ≤ a ∧ a ≤ 9223372036854775807) : R64 a := ⟨h.1, by omega⟩
theorem aw_facts : nextV 0 5 9 [] = 10 ∧ nextE 0 5 9 [] = 0 ∧ nextN 0 5 9 [] = 10 ∧ nextV 10 1 2 [20, 3] = 21 ∧ nextE 10 1 2 [20, 3] = 0 ∧ nextN 10 1 2 [20, 3] = 21 ∧ keepE 30 = 0 ∧ keepN 21 30 = 30 ∧ keepE 25 = 0 ∧ keepN 30 25 = 30 ∧ waitV 10 5 9 = 6 ∧ waitE 10 5 9 = 0 := by decide +kernel
theorem rw_two {w : World} {q : Nat} {t : TypeId} {a b : Int} (h : Whole w q t #[.int .i64 a, .int .i64 b]) : Rw w (some ⟨q, 0, Option.none⟩) 2 [a, b] := by
  refine ⟨⟨rfl, fun _ => ⟨q, 0, rfl, h.lt, fun j u hu => ?_⟩⟩, Nat.le_refl _, by omega, fun e => by cases e⟩
  rw [Nat.zero_add, h.cell j]
  simpa [ints] using hu
set_option maxHeartbeats 8000000 in
theorem sawake_any (w : World) : Calls Try.prog 9 #[] w fun e w' => e = .returned (.bool true) ∧ Below w.heap.size w w' := by
  have A := Lib.hid aw_facts
  go_enter Try.func9, Try.ntmps9
  go_wp2_with fail
  refine (snew_any _).mono ?_
  rintro e w1 ⟨rfl, hb1, k1⟩
  have H : Hid (Lg w w1 [] w.heap.size 0) := Lib.hid ⟨(St.start w).call hb1, k1, Nat.le_refl _, fun r hr => by cases hr⟩
  clear hb1 k1
  go_wp2_with fail
  refine (next_any w.heap.size 0 5 9 (by omega) (sr64 _ (by omega)) (sr64 _ (by omega)) none 0 [] _ H.out.src (Rw.none _)).mono ?_
  rintro e w2 ⟨rfl, hb2, k2⟩
  rw [A.out.1, A.out.2.1]
  rw [A.out.2.2.1] at k2
  replace H := Lib.hid (H.out.turn hb2 k2)
  clear hb2 k2
  go_wp2_with fail
  replace H := Lib.hid (H.out.alloc w2.heap.size rfl 2 #[.int .i64 20, .int .i64 3])
  refine (next_any w.heap.size 10 1 2 (by omega) (sr64 _ (by omega)) (sr64 _ (by omega)) (some ⟨w2.heap.size, 0, none⟩) 2 [20, 3] _ H.out.src (rw_two (H.out.st.knows.at 0 rfl))).mono ?_
  rintro e w3 ⟨rfl, hb3, k3⟩
  rw [A.out.2.2.2.1, A.out.2.2.2.2.1]
  rw [A.out.2.2.2.2.2.1] at k3
  replace H := Lib.hid (H.out.turn hb3 k3)
  clear hb3 k3
  go_wp2_with fail
  refine (keep_any w.heap.size 21 30 _ H.out.src).mono ?_
  rintro e w4 ⟨rfl, hb4, k4⟩
  rw [A.out.2.2.2.2.2.2.1]
  rw [A.out.2.2.2.2.2.2.2.1] at k4
  replace H := Lib.hid (H.out.turn hb4 k4)
  clear hb4 k4
  go_wp2_with fail
  refine (keep_any w.heap.size 30 25 _ H.out.src).mono ?_
  rintro e w5 ⟨rfl, hb5, k5⟩
  rw [A.out.2.2.2.2.2.2.2.2.1]
  rw [A.out.2.2.2.2.2.2.2.2.2.1] at k5
  replace H := Lib.hid (H.out.turn hb5 k5)
  clear hb5 k5
  go_wp2_with fail
  refine (wait_any 10 5 9 (sr64 _ (by omega)) (sr64 _ (by omega)) _).mono ?_
  rintro e w6 ⟨rfl, hb6⟩
  rw [A.out.2.2.2.2.2.2.2.2.2.2.1, A.out.2.2.2.2.2.2.2.2.2.2.2]
  replace H := Lib.hid (H.out.call hb6)
  clear hb6
  go_wp2_with fail
  refine (last_any w.heap.size 30 _ H.out.src).mono ?_
  rintro e w7 ⟨rfl, e7⟩
  subst w7
  go_wp2_with fail
  go_ret
  exact ⟨rfl, H.out.st.below⟩

/-- A call of a law. -/
structure Cl10 where
  k : Int
  t : Int
  lo : Int
  hi : Int
  A : Option Addr
  cap : Nat
  above : List Int
instance : Inhabited Cl10 := ⟨⟨0, 0, 0, 0, none, 0, []⟩⟩
def encC (v : Cl10) : List Value := [.int .i64 v.k, .int .i64 v.t, .int .i64 v.lo, .int .i64 v.hi, .slice v.A v.above.length v.cap]
theorem encC_len (v : Cl10) : (encC v).length = 5 := rfl
/-- What a call that came in is like. -/
structure GC (W : World) (v : Cl10) : Prop where
  k : R64 v.k
  t : R64 v.t
  lo : R64 v.lo
  hi : R64 v.hi
  row : Rw W v.A v.cap v.above
section
variable {H : Type} {enc : TypeId × Value → H} {W : World} {held : Bool}
theorem num_cells {base : Nat} {spare : Nat → Bool} {m : Nat} {cs : List Value} {x : DataW H × List MemPlace} (hm : DataW.trod enc Try.prog W base spare held m 2 cs = some x) : ∃ v, cs = encI v ∧ R64 v := by
  obtain ⟨a, e0, -, w0⟩ := DataW.trod_int Try.underlying2 hm
  exact ⟨a, e0, sr64_of (bounds_i64 w0)⟩
theorem open_nums {A : Option Addr} {len cap : Nat} {d : DataW H} {p : List MemPlace} (h : DataW.Trod enc Try.prog W 0 (fun _ => true) held 26 (.slice A len cap) d p) : ∃ l, IsR W A len cap 1 encI R64 l :=
  open_row Try.underlying26 (by kernel_rfl) (by omega) encI_len (fun m cs x hm => num_cells hm) h
theorem rw_of_row {A : Option Addr} {len cap : Nat} {l : List Int} (h : IsR W A len cap 1 encI R64 l) : len = l.length ∧ Rw W A cap l := by
  obtain ⟨k1, k2, k3, k4, k5, k6⟩ := h
  subst k1
  rw [flat_ints] at k2
  exact ⟨rfl, k2, k3, k4, k5⟩
theorem span_cells {base : Nat} {spare : Nat → Bool} {m : Nat} {cs : List Value} {x : DataW H × List MemPlace} (hm : DataW.trod enc Try.prog W base spare held m 28 cs = some x) : ∃ lo hi : Int, cs = [.int .i64 lo, .int .i64 hi] ∧ R64 lo ∧ R64 hi := by
  obtain ⟨xs, n, -, -, hl, hxl, hf⟩ := DataW.trod_struct Try.underlying28 hm
  rw [show Try.prog.cellsOf 28 = 2 by kernel_rfl] at hl
  obtain ⟨c0, c1, rfl⟩ := list2 hl
  obtain ⟨y0, y1, rfl⟩ := list2 (l := xs) (by simpa using hxl)
  have h0 : DataW.trod enc Try.prog W base spare held n 2 (([c0, c1].drop 0).take (Try.prog.cellsOf 2)) = some y0 := hf 0 _ rfl
  have h1 : DataW.trod enc Try.prog W base spare held n 2 (([c0, c1].drop 1).take (Try.prog.cellsOf 2)) = some y1 := hf 1 _ rfl
  rw [show Try.prog.cellsOf 2 = 1 by kernel_rfl] at h0 h1
  obtain ⟨a, e0, -, w0⟩ := DataW.trod_int Try.underlying2 h0
  obtain ⟨b, e1, -, w1⟩ := DataW.trod_int Try.underlying2 h1
  simp only [List.drop_succ_cons, List.drop_zero, List.take_succ_cons, List.take_zero, List.cons.injEq, and_true] at e0 e1
  subst e0 e1
  exact ⟨a, b, rfl, sr64_of (bounds_i64 w0), sr64_of (bounds_i64 w1)⟩
theorem open_span {base : Nat} {spare : Nat → Bool} {r : Reach} {b0 : Nat} {v : Value} {d : DataW H} {p : List MemPlace} (hv : Value.okWide Try.prog W r b0 28 v) (h : DataW.Trod enc Try.prog W base spare held 28 v d p) :
    ∃ a b : Int, v = .agg #[.int .i64 a, .int .i64 b] ∧ R64 a ∧ R64 b := by
  obtain ⟨cs, rfl, hsz⟩ := okWide_struct Try.underlying28 hv
  obtain ⟨m, hm⟩ := h
  obtain ⟨a, b, e, g1, g2⟩ := span_cells hm
  refine ⟨a, b, ?_, g1, g2⟩
  have : cs.toList = [.int .i64 a, .int .i64 b] := by simpa [Value.cells] using e
  cases cs
  simp at this
  rw [this]
theorem call_cells {m : Nat} {cs : List Value} {x : DataW H × List MemPlace} (hm : DataW.trod enc Try.prog W 0 (fun _ => true) held m 30 cs = some x) : ∃ v, cs = encC v ∧ GC W v := by
  obtain ⟨xs, n, -, -, hl, hxl, hf⟩ := DataW.trod_struct Try.underlying30 hm
  rw [show Try.prog.cellsOf 30 = 5 by kernel_rfl] at hl
  obtain ⟨c0, c1, c2, c3, c4, rfl⟩ := list5 hl
  obtain ⟨y0, y1, y2, y4, rfl⟩ := list4 (l := xs) (by simpa using hxl)
  have h0 : DataW.trod enc Try.prog W 0 (fun _ => true) held n 3 (([c0, c1, c2, c3, c4].drop 0).take (Try.prog.cellsOf 3)) = some y0 := hf 0 _ rfl
  have h1 : DataW.trod enc Try.prog W 0 (fun _ => true) held n 2 (([c0, c1, c2, c3, c4].drop 1).take (Try.prog.cellsOf 2)) = some y1 := hf 1 _ rfl
  have h2 : DataW.trod enc Try.prog W 0 (fun _ => true) held n 28 (([c0, c1, c2, c3, c4].drop 2).take (Try.prog.cellsOf 28)) = some y2 := hf 2 _ rfl
  have h4 : DataW.trod enc Try.prog W 0 (fun _ => true) held n 26 (([c0, c1, c2, c3, c4].drop 4).take (Try.prog.cellsOf 26)) = some y4 := hf 3 _ rfl
  rw [show Try.prog.cellsOf 3 = 1 by kernel_rfl] at h0
  rw [show Try.prog.cellsOf 2 = 1 by kernel_rfl] at h1
  rw [show Try.prog.cellsOf 28 = 2 by kernel_rfl] at h2
  rw [show Try.prog.cellsOf 26 = 1 by kernel_rfl] at h4
  obtain ⟨a, e0, -, w0⟩ := DataW.trod_int Try.underlying3 h0
  obtain ⟨b, e1, -, w1⟩ := DataW.trod_int Try.underlying2 h1
  obtain ⟨lo, hi, e2, g2, g3⟩ := span_cells h2
  simp only [List.drop_succ_cons, List.drop_zero, List.take_succ_cons, List.take_zero] at h4
  have shape : ∃ A l cp, c4 = .slice A l cp := by
    rcases Deep.open_slice Try.underlying26 h4 with ⟨hcs, _⟩ | ⟨a, l, c, k, n', D, Pl, hcs, _⟩
    · exact ⟨none, 0, 0, by simpa using hcs⟩
    · exact ⟨some a, l, c, by simpa using hcs⟩
  obtain ⟨A, l, cp, rfl⟩ := shape
  obtain ⟨kl, k1⟩ := open_nums (A := A) (len := l) (cap := cp) (d := y4.1) (p := y4.2) ⟨n, by simpa [Value.cells] using h4⟩
  obtain ⟨rfl, k2⟩ := rw_of_row k1
  simp only [List.drop_succ_cons, List.drop_zero, List.take_succ_cons, List.take_zero, List.cons.injEq, and_true] at e0 e1 e2
  obtain ⟨e2, e3⟩ := e2
  subst e0 e1 e2 e3
  exact ⟨⟨a, b, lo, hi, A, cp, kl⟩, rfl, ⟨sr64_of (bounds_i64 w0), sr64_of (bounds_i64 w1), g2, g3, k2⟩⟩
theorem open_calls {A : Option Addr} {len cap : Nat} {d : DataW H} {p : List MemPlace} (h : DataW.Trod enc Try.prog W 0 (fun _ => true) held 22 (.slice A len cap) d p) : ∃ l, IsR W A len cap 5 encC (GC W) l :=
  open_row Try.underlying22 (by kernel_rfl) (by omega) encC_len (fun m cs x hm => call_cells hm) h
end

theorem whole_five {w : World} {g : Nat} {t : TypeId} {a0 a1 a2 a3 a4 : Value} (h : Whole w g t #[a0, a1, a2, a3, a4]) :
    w.cell? ⟨g, 0, none⟩ = some a0 ∧ w.cell? ⟨g, 1, none⟩ = some a1 ∧ w.cell? ⟨g, 2, none⟩ = some a2 ∧ w.cell? ⟨g, 3, none⟩ = some a3 ∧ w.cell? ⟨g, 4, none⟩ = some a4 ∧ w.frozen? ⟨g, 4, none⟩ = false ∧ g < w.heap.size :=
  ⟨h.cell 0, h.cell 1, h.cell 2, h.cell 3, h.cell 4, h.free 4, h.lt⟩
/-- The same calls, told with the row's length by another name. -/
theorem next_anyL (g : Nat) (n lo hi : Int) (hn : 0 ≤ n ∧ n ≤ 1125899906842624) (hlo : R64 lo) (hhi : R64 hi) (A : Option Addr) (cap : Nat) (l : List Int) (w : World) (N : Nat) (hN : N = l.length) (h : Src w g n) (hr : Rw w A cap l) :
    Calls Try.prog 10 #[ptr g, .agg #[.int .i64 lo, .int .i64 hi], .slice A N cap] w fun e w' => e = .returned (.tuple #[.int .i64 (nextV n lo hi l), .int .i64 (nextE n lo hi l)]) ∧ But g w w' ∧ Src w' g (nextN n lo hi l) := by
  subst hN
  exact next_any g n lo hi hn hlo hhi A cap l w h hr
theorem rnext_anyL (A : Option Addr) (cap : Nat) (m : List Int) (lo hi : Int) (A' : Option Addr) (cap' : Nat) (l : List Int) (w : World) (M N : Nat) (hM : M = m.length) (hN : N = l.length) (hr : Rw w A cap m) (hm : m.length ≤ 1000) (hr' : Rw w A' cap' l) (hl : l.length ≤ 1000) :
    Calls Try.prog 11 #[.slice A M cap, .agg #[.int .i64 lo, .int .i64 hi], .slice A' N cap'] w fun e w' => ∃ A2 cap2, e = .returned (.tuple #[.slice A2 (given m lo hi l).length cap2, .int .i64 (nextV (top 0 m) lo hi l), .int .i64 (nextE (top 0 m) lo hi l)]) ∧ Below w.heap.size w w' ∧ Rw w' A2 cap2 (given m lo hi l) ∧ (A2 = A ∨ ∀ a, A2 = some a → w.heap.size ≤ a.block) := by
  subst hM hN
  exact rnext_any A cap m lo hi A' cap' l w hr hm hr' hl
/-- What is told of more than so many. -/
theorem few_of {w : World} {A : Option Addr} {cap : Nat} {l : List Int} (h : Rw w A cap l) : ∃ l2 : List Int, l2.length ≤ 50 ∧ Rw w A cap l2 ∧ ((l.length ≤ 50 ∧ l2 = l) ∨ (50 < l.length ∧ l2.length = 50 ∧ ∃ b o, A = some ⟨b, o, Option.none⟩)) := by
  by_cases h50 : l.length ≤ 50
  · exact ⟨l, h50, h, .inl ⟨h50, rfl⟩⟩
  · have e : (l.take 50).length = 50 := by rw [List.length_take]; omega
    obtain ⟨b, o, h1, -, -⟩ := h.sees.2 (by omega)
    exact ⟨l.take 50, by omega, h.first 50 (by omega), .inr ⟨by omega, e, b, o, h1⟩⟩
end Go.Proofs.Ytjpalcolhagpcaa
