/- Arguments opened at layer 7: acts, numbers, texts; few. -/
import Derived.Test.YtllbfoohhonmeaaDiskZ
namespace Go.Proofs.Ytllbfoohhonmeaa
open Go.ChangeShapes Go.WideShapes Go.ChangeAt Go.RowKit Go.Dk
set_option linter.unusedVariables false
set_option linter.unusedSimpArgs false
set_option maxRecDepth 100000

/-- An act of a law. -/
structure Ac where
  kind : Int
  log : Int
  n : Int
  s : List UInt8
  A : Option Addr
  cap : Nat
  keep : List Int
instance : Inhabited Ac := ⟨⟨0, 0, 0, [], none, 0, []⟩⟩
def encA (v : Ac) : List Value := [.int .i64 v.kind, .int .i64 v.log, .int .i64 v.n, .string (txt v.s), .slice v.A v.keep.length v.cap]
theorem encA_len (v : Ac) : (encA v).length = 5 := rfl
/-- What an act that came in is like. -/
structure GA (W : World) (v : Ac) : Prop where
  kind : W64 v.kind
  log : W64 v.log
  n : W64 v.n
  s : v.s.length ≤ 9223372036854775807
  sees : Sees W W.heap.size 1 v.A v.keep.length (ints v.keep)
  room : v.keep.length ≤ v.cap
  top : v.cap ≤ 9223372036854775807
  nil : v.A = none → v.cap = 0
  range : ∀ n ∈ v.keep, W64 n
def encI (v : Int) : List Value := [.int .i64 v]
theorem encI_len (v : Int) : (encI v).length = 1 := rfl
theorem flat_ints (l : List Int) : flat encI l = ints l := by
  unfold flat encI ints
  induction l with
  | nil => rfl
  | cons a l ih => rw [List.flatMap_cons, ih]; rfl
def encS (v : List UInt8) : List Value := [.string (txt v)]
theorem encS_len (v : List UInt8) : (encS v).length = 1 := rfl
theorem ba_len (s : ByteArray) : s.data.toList.length = s.size := by rw [Array.length_toList]; rfl

section
variable {H : Type} {enc : TypeId × Value → H} {W : World} {held : Bool}
theorem int_cells {base : Nat} {spare : Nat → Bool} {m : Nat} {cs : List Value} {x : DataW H × List MemPlace} (hm : DataW.trod enc Try.prog W base spare held m 3 cs = some x) : ∃ v, cs = encI v ∧ W64 v := by
  obtain ⟨a, e0, -, w0⟩ := DataW.trod_int Try.underlying3 hm
  exact ⟨a, e0, bounds_i64 w0⟩
theorem text_cells {base : Nat} {spare : Nat → Bool} {m : Nat} {cs : List Value} {x : DataW H × List MemPlace} (hm : DataW.trod enc Try.prog W base spare held m 9 cs = some x) : ∃ v, cs = encS v ∧ v.length ≤ 9223372036854775807 := by
  obtain ⟨s, hs, _, hsl⟩ := DataW.trod_string Try.underlying9 hm
  refine ⟨s.data.toList, ?_, by unfold maxLen at hsl; rw [ba_len]; exact hsl⟩
  unfold encS
  rw [txt_of]; exact hs
theorem open_ints {A : Option Addr} {len cap : Nat} {d : DataW H} {p : List MemPlace} (h : DataW.Trod enc Try.prog W 0 (fun _ => true) held 28 (.slice A len cap) d p) : ∃ l, IsR W A len cap 1 encI W64 l :=
  open_row Try.underlying28 (by kernel_rfl) (by omega) encI_len (fun m cs x hm => int_cells hm) h
theorem open_texts {A : Option Addr} {len cap : Nat} {d : DataW H} {p : List MemPlace} (h : DataW.Trod enc Try.prog W 0 (fun _ => true) held 55 (.slice A len cap) d p) : ∃ l, IsR W A len cap 1 encS (fun s => s.length ≤ 9223372036854775807) l :=
  open_row Try.underlying55 (by kernel_rfl) (by omega) encS_len (fun m cs x hm => text_cells hm) h
theorem act_cells {m : Nat} {cs : List Value} {x : DataW H × List MemPlace} (hm : DataW.trod enc Try.prog W 0 (fun _ => true) held m 36 cs = some x) : ∃ v, cs = encA v ∧ GA W v := by
  obtain ⟨xs, n, -, -, hl, hxl, hf⟩ := DataW.trod_struct Try.underlying36 hm
  rw [show Try.prog.cellsOf 36 = 5 by kernel_rfl] at hl
  obtain ⟨c0, c1, c2, c3, c4, rfl⟩ := list5 hl
  obtain ⟨y0, y1, y2, y3, y4, rfl⟩ := list5 (l := xs) (by simpa using hxl)
  have h0 : DataW.trod enc Try.prog W 0 (fun _ => true) held n 3 (([c0, c1, c2, c3, c4].drop 0).take (Try.prog.cellsOf 3)) = some y0 := hf 0 _ rfl
  have h1 : DataW.trod enc Try.prog W 0 (fun _ => true) held n 3 (([c0, c1, c2, c3, c4].drop 1).take (Try.prog.cellsOf 3)) = some y1 := hf 1 _ rfl
  have h2 : DataW.trod enc Try.prog W 0 (fun _ => true) held n 3 (([c0, c1, c2, c3, c4].drop 2).take (Try.prog.cellsOf 3)) = some y2 := hf 2 _ rfl
  have h3 : DataW.trod enc Try.prog W 0 (fun _ => true) held n 9 (([c0, c1, c2, c3, c4].drop 3).take (Try.prog.cellsOf 9)) = some y3 := hf 3 _ rfl
  have h4 : DataW.trod enc Try.prog W 0 (fun _ => true) held n 28 (([c0, c1, c2, c3, c4].drop 4).take (Try.prog.cellsOf 28)) = some y4 := hf 4 _ rfl
  rw [show Try.prog.cellsOf 3 = 1 by kernel_rfl] at h0 h1 h2
  rw [show Try.prog.cellsOf 9 = 1 by kernel_rfl] at h3
  rw [show Try.prog.cellsOf 28 = 1 by kernel_rfl] at h4
  obtain ⟨a, e0, -, w0⟩ := DataW.trod_int Try.underlying3 h0
  obtain ⟨b, e1, -, w1⟩ := DataW.trod_int Try.underlying3 h1
  obtain ⟨c, e2, -, w2⟩ := DataW.trod_int Try.underlying3 h2
  obtain ⟨s, e3, g3⟩ := text_cells h3
  simp only [List.drop_succ_cons, List.drop_zero, List.take_succ_cons, List.take_zero] at h4
  have shape : ∃ A l cp, c4 = .slice A l cp := by
    rcases Deep.open_slice Try.underlying28 h4 with ⟨hcs, _⟩ | ⟨a, l, c, k, n', D, Pl, hcs, _⟩
    · exact ⟨none, 0, 0, by simpa using hcs⟩
    · exact ⟨some a, l, c, by simpa using hcs⟩
  obtain ⟨A, l, cp, rfl⟩ := shape
  obtain ⟨kl, k1, k2, k3, k4, k5, k6⟩ := open_ints (A := A) (len := l) (cap := cp) (d := y4.1) (p := y4.2) ⟨n, by simpa [Value.cells] using h4⟩
  subst k1
  rw [flat_ints] at k2
  unfold encS at e3
  simp only [List.drop_succ_cons, List.drop_zero, List.take_succ_cons, List.take_zero, List.cons.injEq, and_true] at e0 e1 e2 e3
  subst e0 e1 e2 e3
  exact ⟨⟨a, b, c, s, A, cp, kl⟩, rfl, ⟨bounds_i64 w0, bounds_i64 w1, bounds_i64 w2, g3, k2, k3, k4, k5, k6⟩⟩
theorem open_acts {A : Option Addr} {len cap : Nat} {d : DataW H} {p : List MemPlace} (h : DataW.Trod enc Try.prog W 0 (fun _ => true) held 22 (.slice A len cap) d p) : ∃ l, IsR W A len cap 5 encA (GA W) l :=
  open_row Try.underlying22 (by kernel_rfl) (by omega) encA_len (fun m cs x hm => act_cells hm) h
end

/-- An act whose text and list aren't too long. -/
def Ac.few (v : Ac) : Ac := { v with s := v.s.take 2000, keep := v.keep.take 20 }
theorem GA.few {W : World} {v : Ac} (h : GA W v) : GA W v.few := by
  have h1 := h.room
  refine ⟨h.kind, h.log, h.n, ?_, ?_, ?_, h.top, h.nil, fun n hn => h.range n (List.mem_of_mem_take hn)⟩
  · have := h.s; show (v.s.take 2000).length ≤ _; rw [List.length_take]; omega
  · have := h.sees.first (k := min 20 v.keep.length) (by omega)
    show Sees W W.heap.size 1 v.A (v.keep.take 20).length (ints (v.keep.take 20))
    rw [List.length_take]
    rw [Nat.mul_one, ints_take] at this
    rwa [show v.keep.take (min 20 v.keep.length) = v.keep.take 20 by rw [List.take_eq_take_iff]; omega] at this
  · show (v.keep.take 20).length ≤ v.cap
    rw [List.length_take]; omega
end Go.Proofs.Ytllbfoohhonmeaa
