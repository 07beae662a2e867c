/- Arguments opened at layer 8; few, bytes, awake; a text more behind a list, beside a disk. -/
import Derived.Test.YtlfigbgcackimaaWalZ
namespace Go.Wl
open Go.Dk Go.Fm
set_option linter.unusedVariables false
/-- What is opened behind a loss of power, by how much is kept. -/
theorem lost_at {d : D} {log : Int} {v : Wk} (h : Runs d log v) (keep : List Int) : ∃ j, j ≤ v.loads.length ∧ v.sure ≤ j ∧ (frames (v.loads.take j)).length ≤ (d.of log).kept (keep.getD log.toNat 0) ∧ (∀ i, i ≤ v.loads.length → (frames (v.loads.take i)).length ≤ (d.of log).kept (keep.getD log.toNat 0) → i ≤ j) ∧
    (scan ((d.crash keep).up.of log).all).1 = v.loads.take j ∧ (opens (d.crash keep).up log).2 = 0 ∧ Runs (opens (d.crash keep).up log).1 log ⟨v.loads.take j, j⟩ := by
  have o := h.ok
  have hi := h.fits.is
  have hk := okay_kept (okay_of o log) (keep.getD log.toNat 0)
  have e : (d.crash keep).up.of log = (d.of log).cut (keep.getD log.toNat 0) := by
    unfold D.crash
    rw [if_neg (by simp [h.down])]
    unfold D.of D.up D.lose
    simp only [List.length_mapIdx]
    rw [if_pos hi, if_pos hi, List.getD_eq_getElem?_getD, List.getElem?_mapIdx, List.getD_eq_getElem?_getD, List.getElem?_eq_getElem (show log.toNat < d.logs.length by omega), List.getD_eq_getElem?_getD, List.getElem?_eq_getElem (show log.toNat < d.logs.length by omega)]
    rfl
  obtain ⟨m, hm⟩ : ∃ m, m = (d.of log).kept (keep.getD log.toNat 0) := ⟨_, rfl⟩
  have ha : ((d.crash keep).up.of log).all = (frames v.loads).take m := by
    rw [e, ← h.fits.all, hm]; rfl
  rw [← hm] at hk ⊢
  rw [h.fits.all] at hk
  obtain ⟨j, k1, k2, k3, k4⟩ := whole_at v.loads h.fits.low m hk.2
  have hz : (opens (d.crash keep).up log).2 = 0 := by
    refine opens_ok ((o.crash keep).up) ?_ rfl ?_
    · unfold D.crash
      rw [if_neg (by simp [h.down])]
      simpa [D.up, D.lose] using hi
    · unfold D.crash
      rw [if_neg (by simp [h.down])]
      show (0 : Nat) ≠ 1
      omega
  have hs : (scan ((d.crash keep).up.of log).all).1 = v.loads.take j := by rw [ha, k4]
  have hf := opened_runs ((o.crash keep).up) hz
  rw [hs] at hf
  have hl : (v.loads.take j).length = j := by rw [List.length_take]; omega
  rw [hl] at hf
  exact ⟨j, k1, k3 v.sure h.fits.le (by rw [← h.fits.sure]; exact hk.1), k2, k3, hs, hz, hf⟩
end Go.Wl
namespace Go.Proofs.Ytlfigbgcackimaa
open Go.ChangeShapes Go.WideShapes Go.ChangeAt Go.RowKit Go.Fm Go.Dk Go.Wl
set_option linter.unusedVariables false
set_option linter.unusedSimpArgs false
set_option maxRecDepth 100000

/-- An act of a law. -/
structure Ac where
  kind : Int
  n : Int
  s : List UInt8
  A : Option Addr
  cap : Nat
  keep : List Int
instance : Inhabited Ac := ⟨⟨0, 0, [], none, 0, []⟩⟩
def encA (v : Ac) : List Value := [.int .i64 v.kind, .int .i64 v.n, .string (txt v.s), .slice v.A v.keep.length v.cap]
theorem encA_len (v : Ac) : (encA v).length = 4 := rfl
/-- What an act that came in is like. -/
structure GA (W : World) (v : Ac) : Prop where
  kind : W64 v.kind
  n : W64 v.n
  s : v.s.length ≤ 9223372036854775807
  sees : Sees W W.heap.size 1 v.A v.keep.length (ints v.keep)
  room : v.keep.length ≤ v.cap
  top : v.cap ≤ 9223372036854775807
  nil : v.A = none → v.cap = 0
  range : ∀ n ∈ v.keep, W64 n
def encI (v : Int) : List Value := [.int .i64 v]
theorem encI_len (v : Int) : (encI v).length = 1 := rfl
theorem flat_ints (l : List Int) : flat encI l = ints l := by
  unfold flat encI ints
  induction l with
  | nil => rfl
  | cons a l ih => rw [List.flatMap_cons, ih]; rfl
def encS (v : List UInt8) : List Value := [.string (txt v)]
theorem encS_len (v : List UInt8) : (encS v).length = 1 := rfl
theorem flat_texts (l : List (List UInt8)) : flat encS l = strs l := by
  unfold flat encS strs
  induction l with
  | nil => rfl
  | cons a l ih => rw [List.flatMap_cons, ih]; rfl

section
variable {H : Type} {enc : TypeId × Value → H} {W : World} {held : Bool}
theorem int_cells {base : Nat} {spare : Nat → Bool} {m : Nat} {cs : List Value} {x : DataW H × List MemPlace} (hm : DataW.trod enc Try.prog W base spare held m 3 cs = some x) : ∃ v, cs = encI v ∧ W64 v := by
  obtain ⟨a, e0, -, w0⟩ := DataW.trod_int Try.underlying3 hm
  exact ⟨a, e0, bounds_i64 w0⟩
theorem text_cells {base : Nat} {spare : Nat → Bool} {m : Nat} {cs : List Value} {x : DataW H × List MemPlace} (hm : DataW.trod enc Try.prog W base spare held m 9 cs = some x) : ∃ v, cs = encS v ∧ v.length ≤ 9223372036854775807 := by
  obtain ⟨s, hs, _, hsl⟩ := DataW.trod_string Try.underlying9 hm
  refine ⟨s.data.toList, ?_, by unfold maxLen at hsl; rw [ba_len]; exact hsl⟩
  unfold encS
  rw [txt_of]; exact hs
theorem open_ints {A : Option Addr} {len cap : Nat} {d : DataW H} {p : List MemPlace} (h : DataW.Trod enc Try.prog W 0 (fun _ => true) held 28 (.slice A len cap) d p) : ∃ l, IsR W A len cap 1 encI W64 l :=
  open_row Try.underlying28 (by kernel_rfl) (by omega) encI_len (fun m cs x hm => int_cells hm) h
theorem open_texts {A : Option Addr} {len cap : Nat} {d : DataW H} {p : List MemPlace} (h : DataW.Trod enc Try.prog W 0 (fun _ => true) held 35 (.slice A len cap) d p) : ∃ l, IsR W A len cap 1 encS (fun s => s.length ≤ 9223372036854775807) l :=
  open_row Try.underlying35 (by kernel_rfl) (by omega) encS_len (fun m cs x hm => text_cells hm) h
theorem act_cells {m : Nat} {cs : List Value} {x : DataW H × List MemPlace} (hm : DataW.trod enc Try.prog W 0 (fun _ => true) held m 44 cs = some x) : ∃ v, cs = encA v ∧ GA W v := by
  obtain ⟨xs, n, -, -, hl, hxl, hf⟩ := DataW.trod_struct Try.underlying44 hm
  rw [show Try.prog.cellsOf 44 = 4 by kernel_rfl] at hl
  obtain ⟨c0, c2, c3, c4, rfl⟩ := list4 hl
  obtain ⟨y0, y2, y3, y4, rfl⟩ := list4 (l := xs) (by simpa using hxl)
  have h0 : DataW.trod enc Try.prog W 0 (fun _ => true) held n 3 (([c0, c2, c3, c4].drop 0).take (Try.prog.cellsOf 3)) = some y0 := hf 0 _ rfl
  have h2 : DataW.trod enc Try.prog W 0 (fun _ => true) held n 3 (([c0, c2, c3, c4].drop 1).take (Try.prog.cellsOf 3)) = some y2 := hf 1 _ rfl
  have h3 : DataW.trod enc Try.prog W 0 (fun _ => true) held n 9 (([c0, c2, c3, c4].drop 2).take (Try.prog.cellsOf 9)) = some y3 := hf 2 _ rfl
  have h4 : DataW.trod enc Try.prog W 0 (fun _ => true) held n 28 (([c0, c2, c3, c4].drop 3).take (Try.prog.cellsOf 28)) = some y4 := hf 3 _ rfl
  rw [show Try.prog.cellsOf 3 = 1 by kernel_rfl] at h0 h2
  rw [show Try.prog.cellsOf 9 = 1 by kernel_rfl] at h3
  rw [show Try.prog.cellsOf 28 = 1 by kernel_rfl] at h4
  obtain ⟨a, e0, -, w0⟩ := DataW.trod_int Try.underlying3 h0
  obtain ⟨c, e2, -, w2⟩ := DataW.trod_int Try.underlying3 h2
  obtain ⟨s, e3, g3⟩ := text_cells h3
  simp only [List.drop_succ_cons, List.drop_zero, List.take_succ_cons, List.take_zero] at h4
  have shape : ∃ A l cp, c4 = .slice A l cp := by
    rcases Deep.open_slice Try.underlying28 h4 with ⟨hcs, _⟩ | ⟨a, l, c, k, n', D, Pl, hcs, _⟩
    · exact ⟨none, 0, 0, by simpa using hcs⟩
    · exact ⟨some a, l, c, by simpa using hcs⟩
  obtain ⟨A, l, cp, rfl⟩ := shape
  obtain ⟨kl, k1, k2, k3, k4, k5, k6⟩ := open_ints (A := A) (len := l) (cap := cp) (d := y4.1) (p := y4.2) ⟨n, by simpa [Value.cells] using h4⟩
  subst k1
  rw [flat_ints] at k2
  unfold encS at e3
  simp only [List.drop_succ_cons, List.drop_zero, List.take_succ_cons, List.take_zero, List.cons.injEq, and_true] at e0 e2 e3
  subst e0 e2 e3
  exact ⟨⟨a, c, s, A, cp, kl⟩, rfl, ⟨bounds_i64 w0, bounds_i64 w2, g3, k2, k3, k4, k5, k6⟩⟩
theorem open_acts {A : Option Addr} {len cap : Nat} {d : DataW H} {p : List MemPlace} (h : DataW.Trod enc Try.prog W 0 (fun _ => true) held 22 (.slice A len cap) d p) : ∃ l, IsR W A len cap 4 encA (GA W) l :=
  open_row Try.underlying22 (by kernel_rfl) (by omega) encA_len (fun m cs x hm => act_cells hm) h
end

/-- An act whose text and list aren't too long. -/
def Ac.few (v : Ac) : Ac := { v with s := v.s.take 1000, keep := v.keep.take 10 }
theorem GA.few {W : World} {v : Ac} (h : GA W v) : GA W v.few := by
  have h1 := h.room
  refine ⟨h.kind, h.n, ?_, ?_, ?_, h.top, h.nil, fun n hn => h.range n (List.mem_of_mem_take hn)⟩
  · have := h.s; show (v.s.take 1000).length ≤ _; rw [List.length_take]; omega
  · have := h.sees.first (k := min 10 v.keep.length) (by omega)
    show Sees W W.heap.size 1 v.A (v.keep.take 10).length (ints (v.keep.take 10))
    rw [List.length_take]
    rw [Nat.mul_one, ints_take] at this
    rwa [show v.keep.take (min 10 v.keep.length) = v.keep.take 10 by rw [List.take_eq_take_iff]; omega] at this
  · show (v.keep.take 10).length ≤ v.cap
    rw [List.length_take]; omega

set_option maxHeartbeats 1000000 in
theorem few_any (v : Ac) (hc : v.keep.length ≤ v.cap) (ht : v.cap ≤ 9223372036854775807) (hs : v.s.length ≤ 9223372036854775807) (w : World) :
    Calls Try.prog 16 #[.agg (encA v).toArray] w fun e w' => e = .returned (.agg (encA v.few).toArray) ∧ Below w.heap.size w w' := by
  obtain ⟨kind, n, s, A, cap, keep⟩ := v
  simp only at hc ht hs
  have HR : Hid ((encA (Ac.few ⟨kind, n, s, A, cap, keep⟩)).toArray = #[.int .i64 kind, .int .i64 n, .string (txt (s.take 1000)), .slice A (keep.take 10).length cap]) := Lib.hid rfl
  show Calls Try.prog 16 #[.agg #[.int .i64 kind, .int .i64 n, .string (txt s), .slice A keep.length cap]] w _
  rw [HR.out]
  have hsz : (txt s).size = s.length := txt_size s
  have HS1 : Hid (1000 < s.length → (txt s).extract 0 1000 = txt (s.take 1000)) := Lib.hid fun _ => by
    unfold txt
    apply ByteArray.ext
    simp
  have HS2 : Hid (¬ 1000 < s.length → txt s = txt (s.take 1000)) := Lib.hid fun h => by rw [List.take_of_length_le (by omega)]
  have HK1 : Hid (10 < keep.length → (keep.take 10).length = 10) := Lib.hid fun h => by rw [List.length_take]; omega
  have HK2 : Hid (¬ 10 < keep.length → (keep.take 10).length = keep.length) := Lib.hid fun h => by rw [List.length_take]; omega
  clear HR
  generalize txt s = S at *
  generalize txt (s.take 1000) = S' at *
  generalize s.length = m at *
  generalize (keep.take 10).length = k' at *
  generalize keep.length = k at *
  have key : (1000 < m ∨ ¬ 1000 < m) ∧ (10 < k ∨ ¬ 10 < k) := by omega
  rcases key with ⟨h1 | h1, h2 | h2⟩
  all_goals
    try have e1 := HS1.out h1
    try have e1 := HS2.out h1
    try have e2 := HK1.out h2
    try have e2 := HK2.out h2
    have g1 : (1000 : Int) < m ↔ 1000 < m := by omega
    have g2 : (10 : Int) < k ↔ 10 < k := by omega
    simp only [h1, h2, iff_true, iff_false] at g1 g2
    have HE1 := Lib.hid e1
    have HE2 := Lib.hid e2
    clear HS1 HS2 HK1 HK2 e1 e2
    go_enter Try.func16, Try.ntmps16
    go_wp2_with fail
    refine bodyPost_ret (by simp [results, Try.results16, go_sem]; try rfl) rfl ?_
    rw [HE2.out, ← HE1.out]
    refine ⟨rfl, ?_⟩
    have hb := Below.refl w.heap.size w
    go_grown
/-- few of a text alone. -/
theorem few_text (s : List UInt8) (hs : s.length ≤ 9223372036854775807) (w : World) :
    Calls Try.prog 16 #[.agg #[.int .i64 0, .int .i64 0, .string (txt s), .slice none 0 0]] w fun e w' => e = .returned (.agg #[.int .i64 0, .int .i64 0, .string (txt (s.take 1000)), .slice none 0 0]) ∧ Below w.heap.size w w' :=
  few_any ⟨0, 0, s, none, 0, []⟩ (Nat.le_refl _) (by simp) hs w

theorem inB_mark (w : World) (bs : List UInt8) (fr : Nat × Nat) (h : bs.length ≤ 9223372036854775807) : InB (w.alloc (.cells (Lib.byteCells bs).toArray 5 fr)) (some ⟨w.heap.size, 0, none⟩) bs.length bs :=
  ⟨⟨w.heap.size + 1, by simp, seesB_mark w 5 bs fr⟩, Nat.le_refl _, h, fun h => by cases h⟩
theorem Lw.other {W w : World} {L : List Row} {g : Nat} {d : D} (h : Lw W w L g d) (o : Obj) : Lw W (w.alloc o) L g d := h.call ((Below.refl _ _).alloc (Nat.le_refl _) o)
theorem Lw.knows {W w : World} {L : List Row} {g : Nat} {d : D} (h : Lw W w L g d) : Knows w L := h.st.knows
theorem inI_known {W w : World} {L : List Row} {g : Nat} {d : D} (h : Lw W w L g d) {b : Nat} {l : List Int} {fr : Unit} (hr : (b, 3, (ints l).toArray) ∈ L) (hl : l.length ≤ 9223372036854775807) (hw : ∀ n ∈ l, W64 n) : InI W w L (some ⟨b, 0, none⟩) l.length l :=
  ⟨⟨b + 1, (h.knows _ hr).lt, by rw [ints_length, Nat.mul_one], fun _ => ⟨b, 0, rfl, by omega, fun j u hu => by rw [Nat.zero_add, (h.knows _ hr).cell j]; simpa using hu⟩⟩, fun _ a ha => .inr ⟨_, hr, by injection ha with ha; subst ha; rfl⟩, hw, hl⟩
theorem inI_nil (W w : World) (L : List Row) (cap : Nat) : InI W w L none cap [] := ⟨⟨0, Nat.zero_le _, Sees.nothing _ _ _ _⟩, (fun _ a h => by cases h), (fun n h => by cases h), by simp⟩

/-- A text as bytes. -/
theorem text_bytes (l : List UInt8) (hl : l.length ≤ 9223372036854775807) (w : World) : ∃ c W', (convert 9 52 (.string (txt l))).run Try.prog w = .ok (.slice (some ⟨w.heap.size, 0, none⟩) l.length c) W' ∧
    InB W' (some ⟨w.heap.size, 0, none⟩) c l ∧ Below w.heap.size w W' := by
  have h := run_bytes_of_string w 9 52 5 (txt l) Try.underlying9 Try.underlying52 Try.underlying5
  rw [txt_size] at h
  refine ⟨_, _, h, ⟨⟨w.heap.size + 1, ?_, ?_⟩, ?_, ?_, fun h => by cases h⟩, ?_⟩
  · show _ ≤ (w.drew.alloc _).heap.size
    simp
  · refine ⟨by simp [Lib.byteCells], fun _ => ⟨w.heap.size, 0, rfl, by omega, fun j u hu => ?_⟩⟩
    have hj : j < (txt l).data.size := by
      have := (List.getElem?_eq_some_iff.1 hu).1
      simpa [Lib.byteCells, txt] using this
    rw [Nat.zero_add, show w.heap.size = w.drew.heap.size from rfl, World.cell?_alloc_mark, bytesRow_at (txt l) _ j hj]
    unfold Lib.byteCells at hu
    rw [List.getElem?_map, List.getElem?_eq_getElem (by simpa [txt] using hj)] at hu
    simpa [txt] using hu
  · have := grownCap_ge w (txt l).size 0 5
    rw [txt_size] at this; exact this
  · have := grownCap_le_maxLen w l.length 0 5 (by unfold maxLen; exact hl)
    unfold maxLen at this; exact this
  · exact ((Below.refl w.heap.size w).drew).alloc (Nat.le_refl _) _
end Go.Proofs.Ytlfigbgcackimaa
