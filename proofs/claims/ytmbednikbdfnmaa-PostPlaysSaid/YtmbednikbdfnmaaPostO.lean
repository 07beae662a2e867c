/- Arguments opened at layer 9: calls; few; awake. -/
import Derived.Test.YtmbednikbdfnmaaPostZ
namespace Go.Proofs.Ytmbednikbdfnmaa
open Go.ChangeShapes Go.WideShapes Go.ChangeAt Go.RowKit Go.Po
set_option linter.unusedVariables false
set_option linter.unusedSimpArgs false
set_option maxRecDepth 100000

/-- A call of a law. -/
structure Oc where
  kind : Int
  a : Int
  b : Int
  s : List UInt8
  off : Bool
instance : Inhabited Oc := ⟨⟨0, 0, 0, [], false⟩⟩
def encC (v : Oc) : List Value := [.int .i64 v.kind, .int .i64 v.a, .int .i64 v.b, .string (txt v.s), .bool v.off]
theorem encC_len (v : Oc) : (encC v).length = 5 := rfl
structure GC (v : Oc) : Prop where
  kind : W64 v.kind
  a : W64 v.a
  b : W64 v.b
  s : v.s.length ≤ 9223372036854775807
def Oc.few (v : Oc) : Oc := { v with s := v.s.take 200 }
theorem GC.few {v : Oc} (h : GC v) : GC v.few := ⟨h.kind, h.a, h.b, by have := h.s; unfold Oc.few; simp; omega⟩

section
variable {H : Type} {enc : TypeId × Value → H} {W : World} {held : Bool}
theorem call_cells {m : Nat} {cs : List Value} {x : DataW H × List MemPlace} (hm : DataW.trod enc Try.prog W 0 (fun _ => true) held m 43 cs = some x) : ∃ v, cs = encC v ∧ GC v := by
  obtain ⟨xs, n, -, -, hl, hxl, hf⟩ := DataW.trod_struct Try.underlying43 hm
  rw [show Try.prog.cellsOf 43 = 5 by kernel_rfl] at hl
  obtain ⟨c0, c1, c2, c3, c4, rfl⟩ := list5 hl
  obtain ⟨y0, y1, y2, y3, y4, rfl⟩ := list5 (l := xs) (by simpa using hxl)
  have h0 : DataW.trod enc Try.prog W 0 (fun _ => true) held n 3 (([c0, c1, c2, c3, c4].drop 0).take (Try.prog.cellsOf 3)) = some y0 := hf 0 _ rfl
  have h1 : DataW.trod enc Try.prog W 0 (fun _ => true) held n 3 (([c0, c1, c2, c3, c4].drop 1).take (Try.prog.cellsOf 3)) = some y1 := hf 1 _ rfl
  have h2 : DataW.trod enc Try.prog W 0 (fun _ => true) held n 3 (([c0, c1, c2, c3, c4].drop 2).take (Try.prog.cellsOf 3)) = some y2 := hf 2 _ rfl
  have h3 : DataW.trod enc Try.prog W 0 (fun _ => true) held n 9 (([c0, c1, c2, c3, c4].drop 3).take (Try.prog.cellsOf 9)) = some y3 := hf 3 _ rfl
  have h4 : DataW.trod enc Try.prog W 0 (fun _ => true) held n 4 (([c0, c1, c2, c3, c4].drop 4).take (Try.prog.cellsOf 4)) = some y4 := hf 4 _ rfl
  rw [show Try.prog.cellsOf 3 = 1 by kernel_rfl] at h0 h1 h2
  rw [show Try.prog.cellsOf 9 = 1 by kernel_rfl] at h3
  rw [show Try.prog.cellsOf 4 = 1 by kernel_rfl] at h4
  obtain ⟨a, e0, -, w0⟩ := DataW.trod_int Try.underlying3 h0
  obtain ⟨b, e1, -, w1⟩ := DataW.trod_int Try.underlying3 h1
  obtain ⟨c, e2, -, w2⟩ := DataW.trod_int Try.underlying3 h2
  obtain ⟨s, e3, -, g3⟩ := DataW.trod_string Try.underlying9 h3
  obtain ⟨o, e4⟩ := bool_of Try.underlying4 h4
  unfold maxLen at g3
  simp only [List.drop_succ_cons, List.drop_zero, List.take_succ_cons, List.take_zero, List.cons.injEq, and_true] at e0 e1 e2 e3 e4
  subst e0 e1 e2 e3 e4
  refine ⟨⟨a, b, c, s.data.toList, o⟩, by unfold encC; rw [txt_of], bounds_i64 w0, bounds_i64 w1, bounds_i64 w2, ?_⟩
  show s.data.toList.length ≤ _
  rw [Array.length_toList]; exact g3
theorem open_posts {A : Option Addr} {len cap : Nat} {d : DataW H} {p : List MemPlace} (h : DataW.Trod enc Try.prog W 0 (fun _ => true) held 30 (.slice A len cap) d p) : ∃ l, IsR W A len cap 5 encC GC l :=
  open_row Try.underlying30 (by kernel_rfl) (by omega) encC_len (fun m cs x hm => call_cells hm) h
end
set_option maxHeartbeats 1000000 in
theorem few_any (v : Oc) (hs : v.s.length ≤ 9223372036854775807) (w : World) :
    Calls Try.prog 21 #[.agg #[.int .i64 v.kind, .int .i64 v.a, .int .i64 v.b, .string (txt v.s), .bool v.off]] w fun e w' => e = .returned (.agg #[.int .i64 v.kind, .int .i64 v.a, .int .i64 v.b, .string (txt v.few.s), .bool v.off]) ∧ Below w.heap.size w w' := by
  obtain ⟨kind, a, b, s, off⟩ := v
  simp only at hs
  show Calls Try.prog 21 #[.agg #[.int .i64 kind, .int .i64 a, .int .i64 b, .string (txt s), .bool off]] w fun e w' => e = .returned (.agg #[.int .i64 kind, .int .i64 a, .int .i64 b, .string (txt (s.take 200)), .bool off]) ∧ _
  have hsz : (txt s).size = s.length := txt_size s
  have HS1 : Hid (200 < s.length → (txt s).extract 0 200 = txt (s.take 200)) := Lib.hid fun _ => by
    unfold txt
    apply ByteArray.ext
    simp
  have HS2 : Hid (¬ 200 < s.length → txt s = txt (s.take 200)) := Lib.hid fun h => by rw [List.take_of_length_le (by omega)]
  generalize txt s = S at *
  generalize txt (s.take 200) = S' at *
  generalize s.length = m at *
  rcases (show 200 < m ∨ ¬ 200 < m by omega) with h1 | h1
  all_goals
    try have e1 := HS1.out h1
    try have e1 := HS2.out h1
    have g1 : (200 : Int) < m ↔ 200 < m := by omega
    simp only [h1, iff_true, iff_false] at g1
    have HE1 := Lib.hid e1
    clear HS1 HS2 e1
    go_enter Try.func21, Try.ntmps21
    go_wp2_with fail
    refine bodyPost_ret (by simp [results, Try.results21, go_sem]; try rfl) rfl ?_
    rw [← HE1.out]
    refine ⟨rfl, ?_⟩
    have hb := Below.refl w.heap.size w
    go_grown

def aw0 : Nt (List UInt8) := Nt.new 2
def aw1 : Nt (List UInt8) := (aw0.send 0 1 [97]).1
def aw2 : Nt (List UInt8) := (aw1.send 1 0 [98]).1
def aw3 : Nt (List UInt8) := (aw2.copy 0).1
def aw4 : Nt (List UInt8) := (aw3.take 1).1
def aw5 : Nt (List UInt8) := (aw4.cut 1 true).1
theorem aw_a : (aw0.send 0 1 [97]).2 = (1, 0) ∧ (aw1.send 1 0 [98]).2 = (2, 0) ∧ (aw2.copy 0).2 = 0 ∧ (aw4.cut 1 true).2 = 0 ∧ (aw5.take 0).2.2 = 93 ∧ aw0.sent = 0 ∧ aw1.sent = 1 ∧ aw4.puts = 0 ∧ aw4.under.length = 2 := by decide +kernel
theorem aw_b : (encO (aw3.take 1).2.1).toArray = #[.int .i64 2, .int .i64 1, .int .i64 0, .string (txt [98])] ∧ (aw3.take 1).2.2 = 0 := ⟨rfl, rfl⟩
theorem aw_c : (encO (aw5.take 0).2.1).toArray = #[.int .i64 0, .int .i64 0, .int .i64 0, .string ⟨#[]⟩] ∧ (aw5.take 0).2.2 = 93 := ⟨rfl, rfl⟩
theorem aw_d : aw4.under = [⟨1, 0, 1, [97]⟩, ⟨1, 0, 1, [97]⟩] := rfl
set_option maxHeartbeats 4000000 in
theorem awake_any (w : World) : Calls Try.prog 19 #[] w fun e w' => e = .returned (.bool true) ∧ Below w.heap.size w w' := by
  obtain ⟨q0, q1, q2, q3, q4, q5, q6, q7, q8⟩ := aw_a
  have Q0 := Lib.hid q0
  have Q1 := Lib.hid q1
  have Q2 := Lib.hid q2
  have Q3 := Lib.hid q3
  have Q5 := Lib.hid q5
  have Q6 := Lib.hid q6
  have Q7 := Lib.hid q7
  have Q8 := Lib.hid q8
  have QB := Lib.hid aw_b
  have QC := Lib.hid aw_c
  have QD := Lib.hid aw_d
  have QA : Hid ((⟨#[97]⟩ : ByteArray) = txt [97] ∧ (⟨#[98]⟩ : ByteArray) = txt [98]) := Lib.hid ⟨rfl, rfl⟩
  clear q0 q1 q2 q3 q4 q5 q6 q7 q8
  go_enter Try.func19, Try.ntmps19
  go_wp2_with fail
  refine (snew_lp (St.start w) 2 (by omega)).mono ?_
  rintro e w1 ⟨g, rfl, hl⟩
  have H : Hid (sLp w w1 [] g aw0) := Lib.hid hl
  clear hl
  go_wp2_with fail
  rw [QA.out.1]
  refine (H.out.ssend (w64 0 (by omega)) (w64 1 (by omega)) [97] (by rw [Q5.out]; omega)).mono ?_
  rintro e w2 ⟨rfl, hl⟩
  rw [Q0.out]
  replace H : Hid (sLp w w2 [] g aw1) := Lib.hid hl
  clear hl
  go_wp2_with fail
  rw [QA.out.2]
  refine (H.out.ssend (w64 1 (by omega)) (w64 0 (by omega)) [98] (by rw [Q6.out]; omega)).mono ?_
  rintro e w3 ⟨rfl, hl⟩
  rw [Q1.out]
  replace H : Hid (sLp w w3 [] g aw2) := Lib.hid hl
  clear hl
  go_wp2_with fail
  refine (H.out.scopy (w64 0 (by omega))).mono ?_
  rintro e w4 ⟨rfl, hl⟩
  rw [Q2.out]
  replace H : Hid (sLp w w4 [] g aw3) := Lib.hid hl
  clear hl
  go_wp2_with fail
  refine (H.out.stake (w64 1 (by omega))).mono ?_
  rintro e w5 ⟨rfl, hl⟩
  rw [QB.out.1, QB.out.2]
  replace H : Hid (sLp w w5 [] g aw4) := Lib.hid hl
  clear hl
  go_wp2_with fail
  have H1 := Lib.hid (H.out.alloc w5.heap.size rfl 54 #[.int .i64 2, .int .i64 1, .int .i64 0, .string (txt [98])])
  refine (H1.out.sletters).mono ?_
  rintro e w6 ⟨A, cap, R, rfl, hc, hA, htop, hl, hown, -, -⟩
  have HN := Lib.hid hown
  have H2 := Lib.hid hl
  clear hl hown H H1
  rw [Q8.out] at hc HN ⊢
  go_wp2_with fail
  refine (H2.out.scut (w64 1 (by omega)) true (by rw [Q7.out]; decide)).mono ?_
  rintro e w7 ⟨rfl, hl⟩
  rw [Q3.out]
  have H3 : Hid (sLp w w7 (R ++ [(w5.heap.size, 54, #[.int .i64 2, .int .i64 1, .int .i64 0, .string (txt [98])])]) g aw5) := Lib.hid hl
  clear hl
  go_wp2_with fail
  refine (H3.out.stake (w64 0 (by omega))).mono ?_
  rintro e w8 ⟨rfl, hl⟩
  rw [QC.out.1, QC.out.2]
  have H4 := Lib.hid (hl.alloc w8.heap.size rfl 54 #[.int .i64 0, .int .i64 0, .int .i64 0, .string ⟨#[]⟩])
  have hx := H4.out.knows (w5.heap.size, 54, #[.int .i64 2, .int .i64 1, .int .i64 0, .string (txt [98])]) (by simp)
  have x0 := hx.cell 0
  have x1 := hx.cell 1
  have x2 := hx.cell 2
  have x3 : (w8.alloc (.cells #[.int .i64 0, .int .i64 0, .int .i64 0, .string ⟨#[]⟩] 54)).cell? ⟨w5.heap.size, 3, none⟩ = some (.string ⟨#[98]⟩) := hx.cell 3
  have ho := HN.out _ (fun r hr => H4.out.knows r (by simp [hr]))
  rw [QD.out] at ho
  obtain ⟨b, rfl⟩ : ∃ b, A = some ⟨b, 0, none⟩ := by
    rcases ho.2 with ⟨h, h0⟩ | ⟨g', cap', cur, h, -⟩
    · omega
    · simp only [Value.slice.injEq, true_and] at h; exact ⟨g', h.1⟩
  obtain ⟨⟨y0, y1, y2, y3⟩, -⟩ := own_letter ho (i := 1) (y := ⟨1, 0, 1, [97]⟩) rfl
  simp at y0
  clear hx ho hl y1 y2 y3
  go_wp2_with fail
  go_ret
  exact ⟨rfl, H4.out.st.below⟩
end Go.Proofs.Ytmbednikbdfnmaa
