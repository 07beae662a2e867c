/- Layer 11: where a law stands; awake; arguments opened: calls; a chain that is made. -/
import Derived.Test.YtiocghhhfhobbaaChnE
namespace Go.Proofs.Ytiocghhhfhobbaa
open Go.ChangeShapes Go.WideShapes Go.ChangeAt Go.RowKit Go.Cn
set_option linter.unusedVariables false
set_option linter.unusedSimpArgs false
set_option maxRecDepth 100000

theorem st_few {W w : World} {L L' : List Row} (h : St W w L) (hl : ∀ r ∈ L', r ∈ L) : St W w L' := ⟨h.below, fun r hr => h.knows r (hl r hr)⟩
theorem st_set0 {W w : World} {x : Nat} {t : TypeId} {cs : Array Value} {L : List Row} (h : St W w ((x, t, cs) :: L)) (hx : W.heap.size ≤ x) (hd : ∀ r ∈ L, r.1 ≠ x) (k : Nat) (u : Value) : St W (w.setCell ⟨x, k, none⟩ u) ((x, t, cs.setIfInBounds k u) :: L) :=
  ⟨h.below.setCell (p := ⟨x, k, none⟩) hx u, h.knows.set0 hd k u⟩
/-- Where a law stands: nothing of W has changed, these blocks are known, block g is the chain c, none of whose blocks is one of W or of these, and A shows the row l, which isn't the chain's. -/
structure Pl (W w : World) (L : List Row) (g : Nat) (c : Cs) (A : Option Addr) (cap : Nat) (l : List Ve) : Prop where
  st : St W w L
  chn : ∃ F, Chn w g c F ∧ (∀ b, F b → W.heap.size ≤ b) ∧ (∀ r ∈ L, ¬ F r.1) ∧ (0 < l.length → ∀ a, A = some a → ¬ F a.block)
  row : Rv w A cap l
section
variable {W w w' : World} {L L' : List Row} {g : Nat} {c c' : Cs} {A A' : Option Addr} {cap cap' : Nat} {l l' : List Ve} {v : Value}
theorem Pl.call (h : Pl W w L g c A cap l) (hb : Below w.heap.size w w') : Pl W w' L g c A cap l := by
  obtain ⟨F, k1, k2, k3, k4⟩ := h.chn
  exact ⟨h.st.call hb, ⟨F, k1.call hb, k2, k3, k4⟩, h.row.call hb⟩
theorem Pl.drewN (h : Pl W w L g c A cap l) (n : Nat) : Pl W (w.drewN n) L g c A cap l := h.call (drew_below w n)
theorem Pl.few (h : Pl W w L g c A cap l) (hl : ∀ r ∈ L', r ∈ L) : Pl W w L' g c A cap l := by
  obtain ⟨F, k1, k2, k3, k4⟩ := h.chn
  exact ⟨st_few h.st hl, ⟨F, k1, k2, fun r hr => k3 r (hl r hr), k4⟩, h.row⟩
theorem Pl.alloc (h : Pl W w L g c A cap l) (x : Nat) (hx : x = w.heap.size) (t : TypeId) (cs : Array Value) : Pl W (w.alloc (.cells cs t)) ((x, t, cs) :: L) g c A cap l := by
  obtain ⟨F, k1, k2, k3, k4⟩ := h.chn
  have hb : Below w.heap.size w (w.alloc (.cells cs t)) := (Below.refl _ _).alloc (Nat.le_refl _) _
  exact ⟨h.st.alloc x hx t cs, ⟨F, k1.call hb, k2, fun r hr => by
    rcases List.mem_cons.1 hr with rfl | hr
    · intro hf
      have := k1.low hf
      simp only at this
      omega
    · exact k3 r hr, k4⟩, h.row.call hb⟩
theorem Pl.other (h : Pl W w L g c A cap l) (o : Obj) : Pl W (w.alloc o) L g c A cap l := h.call ((Below.refl _ _).alloc (Nat.le_refl _) _)
theorem Pl.ok (h : Pl W w L g c A cap l) : Ok c := by obtain ⟨F, k1, -⟩ := h.chn; exact k1.ok
theorem Pl.lt (h : Pl W w L g c A cap l) : g < w.heap.size := by obtain ⟨F, k1, -⟩ := h.chn; exact k1.lt
theorem Pl.new (h : Pl W w L g c A cap l) : W.heap.size ≤ g := by obtain ⟨F, k1, k2, -⟩ := h.chn; exact k2 g k1.mine
theorem Pl.read (h : Pl W w L g c A cap l) : ∃ A' cap', Rc w g A' cap' c := by obtain ⟨F, k1, -⟩ := h.chn; exact k1.read
/-- A known block is told something. -/
theorem Pl.set0 {x : Nat} {t : TypeId} {cs : Array Value} (h : Pl W w ((x, t, cs) :: L) g c A cap l) (hx : W.heap.size ≤ x) (hd : ∀ r ∈ L, r.1 ≠ x) (hA : 0 < l.length → ∀ a, A = some a → a.block ≠ x) (k : Nat) (u : Value) :
    Pl W (w.setCell ⟨x, k, none⟩ u) ((x, t, cs.setIfInBounds k u) :: L) g c A cap l := by
  obtain ⟨F, k1, k2, k3, k4⟩ := h.chn
  have hxf := k3 _ (List.mem_cons_self ..)
  have ho : Off (fun b => b = x) w (w.setCell ⟨x, k, none⟩ u) := (Off.refl (fun b => b = x) w).set (p := ⟨x, k, none⟩) (.inl rfl) u
  refine ⟨st_set0 h.st hx hd k u, ⟨F, k1.off ho fun b hb e => hxf (e ▸ hb), k2, fun r hr => ?_, k4⟩, ⟨⟨h.row.sees.1, fun hn => ?_⟩, h.row.room, h.row.top, h.row.nil⟩⟩
  · rcases List.mem_cons.1 hr with rfl | hr
    · exact hxf
    · exact k3 r (List.mem_cons_of_mem _ hr)
  · obtain ⟨b, off, e, hb, hc⟩ := h.row.sees.2 hn
    refine ⟨b, off, e, by simpa using hb, fun j z hz => ?_⟩
    rw [World.cell?_setCell_other w ⟨x, k, none⟩ _ u (fun e2 => hA hn _ e (by injection e2 with e2; simpa using e2.symm))]
    exact hc j z hz
/-- The chain was told something. -/
theorem Pl.went (h : Pl W w L g c A cap l) (F : Nat → Prop) (hF : (∀ b, F b → W.heap.size ≤ b) ∧ (∀ r ∈ L, ¬ F r.1) ∧ (0 < l.length → ∀ a, A = some a → ¬ F a.block)) (hm : WentC F w w' g c') : Pl W w' L g c' A cap l := by
  obtain ⟨k2, k3, k4⟩ := hF
  obtain ⟨ho, F', hF', hd⟩ := hm
  have hWw := h.st.below.size
  refine ⟨⟨h.st.below.trans (ho.below hWw k2), fun r hr => ho.whole (h.st.knows r hr) (k3 r hr)⟩, ⟨F', hd, fun b hb => ?_, fun r hr hf => ?_, fun hl a ha hf => ?_⟩, ⟨⟨h.row.sees.1, fun hn => ?_⟩, h.row.room, h.row.top, h.row.nil⟩⟩
  · rcases hF' b hb with h1 | h1
    · exact k2 b h1
    · omega
  · rcases hF' _ hf with h1 | h1
    · exact k3 r hr h1
    · have := (h.st.knows r hr).lt; omega
  · rcases hF' _ hf with h1 | h1
    · exact k4 hl a ha h1
    · have := h.row.low a hl ha; omega
  · obtain ⟨b, off, e, hb, hc⟩ := h.row.sees.2 hn
    refine ⟨b, off, e, Nat.lt_of_lt_of_le hb ho.size, fun j z hz => ?_⟩
    have e2 : w'.heap[b]? = w.heap[b]? := ho.block b hb (k4 hn _ e)
    rw [← hc j z hz]
    simp only [World.cell?, e2]
/-- The document told a row. -/
theorem Pl.told (h : Pl W w L g c A cap l) (hb : Below w.heap.size w w') (hr : Rv w' A' cap' l') (hA : A' = A ∧ l' = l ∨ ∀ a, A' = some a → w.heap.size ≤ a.block) : Pl W w' L g c A' cap' l' := by
  obtain ⟨F, k1, k2, k3, k4⟩ := h.chn
  refine ⟨h.st.call hb, ⟨F, k1.call hb, k2, k3, fun hl a ha hf => ?_⟩, hr⟩
  rcases hA with ⟨rfl, rfl⟩ | hA
  · exact k4 hl a ha hf
  · have := hA a ha
    have := k1.low hf
    omega
/-- The worlds in which the same is known, as a class of which nothing else is told. -/
theorem Pl.class (h : Pl W w L g c A cap l) : ∃ C : World → Prop, C w.drew ∧ Hid (∀ a b, C a → Below a.heap.size a b → C b) ∧ Hid (∀ a, C a → Pl W a L g c A cap l ∧ Below w.heap.size w a) :=
  ⟨fun a => Pl W a L g c A cap l ∧ Below w.heap.size w a, ⟨h.drewN 1, drew_below w 1⟩, Lib.hid fun a b ha hb => ⟨ha.1.call hb, ha.2.trans (hb.mono ha.2.size)⟩, Lib.hid fun a ha => ha⟩
theorem Pl.start (hb : Below W.heap.size W w) (x : Cx w W.heap.size v ⟨[], 0⟩ fun b => b = W.heap.size) : Pl W w [] W.heap.size ⟨[], 0⟩ none 0 [] :=
  ⟨(St.start W).call hb, ⟨fun b => b = W.heap.size, ⟨Ok.new, v, x⟩, fun b hb => Nat.le_of_eq hb.symm, (fun r hr => by cases hr), (fun h => absurd h (by simp))⟩, Rv.none w⟩
end
section
variable {W w : World} {L : List Row} {g : Nat} {c : Cs} {A : Option Addr} {cap : Nat} {l : List Ve}
theorem pput (t u : Int) (h : Pl W w L g c A cap l) : Calls Try.prog 18 #[ptr g, .int .i64 t, .int .i64 u] w fun e w' => e = .returned (.int .i64 (putE c t)) ∧ Pl W w' L g (put c t u) A cap l := by
  obtain ⟨F, k1, k2⟩ := h.chn
  exact (cput_any g c F t u w k1).mono fun e w' ⟨h1, h2⟩ => ⟨h1, h.went F k2 h2⟩
theorem pprune (t : Int) (h : Pl W w L g c A cap l) : Calls Try.prog 19 #[ptr g, .int .i64 t] w fun e w' => e = .returned (.int .i64 (pruneE t)) ∧ Pl W w' L g (prune c t) A cap l := by
  obtain ⟨F, k1, k2⟩ := h.chn
  exact (cprune_any g c F t w k1).mono fun e w' ⟨h1, h2⟩ => ⟨h1, h.went F k2 h2⟩
theorem pget (t : Int) (h : Pl W w L g c A cap l) : Calls Try.prog 17 #[ptr g, .int .i64 t] w fun e w' => e = .returned (.tuple #[aggV (getV c t), .int .i64 (getE c t)]) ∧ Below w.heap.size w w' := by
  obtain ⟨A', cap', hr⟩ := h.read
  exact cget_any g A' cap' c t w hr
theorem plast (h : Pl W w L g c A cap l) : Calls Try.prog 12 #[ptr g] w fun e w' => e = .returned (.tuple #[aggV (lastV c.l), .bool (decide (0 < c.l.length))]) ∧ Below w.heap.size w w' := by
  obtain ⟨A', cap', hr⟩ := h.read
  exact clast_any g A' cap' c w hr
theorem plist (h : Pl W w L g c A cap l) : Calls Try.prog 14 #[ptr g] w fun e w' => ∃ A' cap', e = .returned (.slice A' c.l.length cap') ∧ Below w.heap.size w w' ∧ w'.ownsRow w.heap.size 34 2 (.slice A' c.l.length cap') c.l.length (flat encV c.l) := by
  obtain ⟨A', cap', hr⟩ := h.read
  exact clist_any g A' cap' c w hr
theorem pmark (h : Pl W w L g c A cap l) : Calls Try.prog 15 #[ptr g] w fun e w' => e = .returned (.int .i64 c.mark) ∧ w' = w := by
  obtain ⟨A', cap', hr⟩ := h.read
  exact cmark_any g A' cap' c w hr
end
theorem cnew_at (w : World) (g : Nat) (hg : g = w.heap.size) : Calls Try.prog 9 #[] w fun e w' => e = .returned (ptr g) ∧ Below w.heap.size w w' ∧ Cx w' g (.slice none 0 0) ⟨[], 0⟩ fun b => b = g := by
  subst hg
  exact cnew_any w
theorem aw_facts : putE ⟨[], 0⟩ 5 = 0 ∧ put ⟨[], 0⟩ 5 100 = ⟨[(5, 100)], 0⟩ ∧ putE ⟨[(5, 100)], 0⟩ 9 = 0 ∧ put ⟨[(5, 100)], 0⟩ 9 80 = ⟨[(5, 100), (9, 80)], 0⟩ ∧
    putE ⟨[(5, 100), (9, 80)], 0⟩ 9 = 111 ∧ put ⟨[(5, 100), (9, 80)], 0⟩ 9 1 = ⟨[(5, 100), (9, 80)], 0⟩ ∧
    getE ⟨[(5, 100), (9, 80)], 0⟩ 4 = 114 ∧ getE ⟨[(5, 100), (9, 80)], 0⟩ 8 = 0 ∧ getV ⟨[(5, 100), (9, 80)], 0⟩ 8 = (5, 100) ∧
    pruneE 9 = 0 ∧ prune ⟨[(5, 100), (9, 80)], 0⟩ 9 = ⟨[(9, 80)], 9⟩ ∧ getE ⟨[(9, 80)], 9⟩ 8 = 113 ∧ lastV [(9, 80)] = (9, 80) := ⟨rfl, rfl, rfl, rfl, rfl, rfl, rfl, rfl, rfl, rfl, rfl, rfl, rfl⟩
set_option maxHeartbeats 8000000 in
theorem cawake_any (w : World) : Calls Try.prog 10 #[] w fun e w' => e = .returned (.bool true) ∧ Below w.heap.size w w' := by
  have A := Lib.hid aw_facts
  go_enter Try.func10, Try.ntmps10
  go_wp2_with fail
  refine (cnew_any _).mono ?_
  rintro e w1 ⟨rfl, hb1, k1⟩
  have H : Hid (Pl w w1 [] w.heap.size ⟨[], 0⟩ none 0 []) := Lib.hid (.start hb1 k1)
  clear hb1 k1
  go_wp2_with fail
  refine (pput 5 100 H.out).mono ?_
  rintro e w2 ⟨rfl, h⟩
  rw [A.out.1]
  rw [A.out.2.1] at h
  replace H := Lib.hid h
  clear h
  go_wp2_with fail
  refine (pput 9 80 H.out).mono ?_
  rintro e w3 ⟨rfl, h⟩
  rw [A.out.2.2.1]
  rw [A.out.2.2.2.1] at h
  replace H := Lib.hid h
  clear h
  go_wp2_with fail
  refine (pput 9 1 H.out).mono ?_
  rintro e w4 ⟨rfl, h⟩
  rw [A.out.2.2.2.2.1]
  rw [A.out.2.2.2.2.2.1] at h
  replace H := Lib.hid h
  clear h
  go_wp2_with fail
  refine (pget 4 H.out).mono ?_
  rintro e w5 ⟨rfl, hb⟩
  rw [A.out.2.2.2.2.2.2.1]
  replace H := Lib.hid (H.out.call hb)
  clear hb
  generalize getV _ 4 = z4
  go_wp2_with fail
  replace H := Lib.hid (H.out.alloc w5.heap.size rfl 34 #[.int .i64 z4.1, .int .i64 z4.2])
  refine (pget 8 H.out).mono ?_
  rintro e w6 ⟨rfl, hb⟩
  rw [A.out.2.2.2.2.2.2.2.1, A.out.2.2.2.2.2.2.2.2.1]
  replace H := Lib.hid (H.out.call hb)
  clear hb
  go_wp2_with fail
  replace H := Lib.hid (H.out.alloc w6.heap.size rfl 34 #[.int .i64 5, .int .i64 100])
  refine (pprune 9 H.out).mono ?_
  rintro e w7 ⟨rfl, h⟩
  rw [A.out.2.2.2.2.2.2.2.2.2.1]
  rw [A.out.2.2.2.2.2.2.2.2.2.2.1] at h
  replace H := Lib.hid h
  clear h
  go_wp2_with fail
  refine (plist H.out).mono ?_
  rintro e w8 ⟨A8, c8, rfl, hb, -⟩
  replace H := Lib.hid (H.out.call hb)
  clear hb
  go_wp2_with fail
  refine (pget 8 H.out).mono ?_
  rintro e w9 ⟨rfl, hb⟩
  rw [A.out.2.2.2.2.2.2.2.2.2.2.2.1]
  replace H := Lib.hid (H.out.call hb)
  clear hb
  generalize getV _ 8 = z8
  go_wp2_with fail
  replace H := Lib.hid (H.out.alloc w9.heap.size rfl 34 #[.int .i64 z8.1, .int .i64 z8.2])
  refine (plast H.out).mono ?_
  rintro e w10 ⟨rfl, hb⟩
  replace H := Lib.hid (H.out.call hb)
  rw [A.out.2.2.2.2.2.2.2.2.2.2.2.2]
  clear hb
  have c5 := (H.out.st.knows.at 1 rfl).cell 1
  have l5 := (H.out.st.knows.at 1 rfl).lt
  have hl := H.out.lt
  replace H := Lib.hid (H.out.alloc w10.heap.size rfl 34 #[.int .i64 9, .int .i64 80])
  go_wp2_with fail
  refine (pmark H.out).mono ?_
  rintro e w11 ⟨rfl, e11⟩
  subst w11
  go_wp2_with fail
  go_ret
  exact ⟨rfl, H.out.st.below⟩

/-- A call of a law. -/
structure Op11 where
  k : Int
  t : Int
  v : Int
instance : Inhabited Op11 := ⟨⟨0, 0, 0⟩⟩
def encO (o : Op11) : List Value := [.int .i64 o.k, .int .i64 o.t, .int .i64 o.v]
theorem encO_len (o : Op11) : (encO o).length = 3 := rfl
/-- What a call that came in is like. -/
structure GO (o : Op11) : Prop where
  k : W64 o.k
  t : W64 o.t
  v : W64 o.v
section
variable {H : Type} {enc : TypeId × Value → H} {W : World} {held : Bool}
theorem w64_of {a : Int} (h : -9223372036854775808 ≤ a ∧ a ≤ 9223372036854775807) : W64 a := h
theorem op_cells {m : Nat} {cs : List Value} {x : DataW H × List MemPlace} (hm : DataW.trod enc Try.prog W 0 (fun _ => true) held m 32 cs = some x) : ∃ v, cs = encO v ∧ GO v := by
  obtain ⟨xs, n, -, -, hl, hxl, hf⟩ := DataW.trod_struct Try.underlying32 hm
  rw [show Try.prog.cellsOf 32 = 3 by kernel_rfl] at hl
  obtain ⟨c0, c1, c2, rfl⟩ := list3 hl
  obtain ⟨y0, y1, y2, rfl⟩ := list3 (l := xs) (by simpa using hxl)
  have h0 : DataW.trod enc Try.prog W 0 (fun _ => true) held n 3 (([c0, c1, c2].drop 0).take (Try.prog.cellsOf 3)) = some y0 := hf 0 _ rfl
  have h1 : DataW.trod enc Try.prog W 0 (fun _ => true) held n 2 (([c0, c1, c2].drop 1).take (Try.prog.cellsOf 2)) = some y1 := hf 1 _ rfl
  have h2 : DataW.trod enc Try.prog W 0 (fun _ => true) held n 2 (([c0, c1, c2].drop 2).take (Try.prog.cellsOf 2)) = some y2 := hf 2 _ rfl
  rw [show Try.prog.cellsOf 3 = 1 by kernel_rfl] at h0
  rw [show Try.prog.cellsOf 2 = 1 by kernel_rfl] at h1 h2
  obtain ⟨a, e0, -, w0⟩ := DataW.trod_int Try.underlying3 h0
  obtain ⟨b, e1, -, w1⟩ := DataW.trod_int Try.underlying2 h1
  obtain ⟨c, e2, -, w2⟩ := DataW.trod_int Try.underlying2 h2
  simp only [List.drop_succ_cons, List.drop_zero, List.take_succ_cons, List.take_zero, List.cons.injEq, and_true] at e0 e1 e2
  subst e0 e1 e2
  exact ⟨⟨a, b, c⟩, rfl, ⟨w64_of (bounds_i64 w0), w64_of (bounds_i64 w1), w64_of (bounds_i64 w2)⟩⟩
theorem open_ops {A : Option Addr} {len cap : Nat} {d : DataW H} {p : List MemPlace} (h : DataW.Trod enc Try.prog W 0 (fun _ => true) held 22 (.slice A len cap) d p) : ∃ l, IsR W A len cap 3 encO GO l :=
  open_row Try.underlying22 (by kernel_rfl) (by omega) encO_len (fun m cs x hm => op_cells hm) h
end

/-! ### A chain behind calls -/
def run1 (c : Cs) (o : Op11) : Cs := if o.k = 0 then put c o.t o.v else if o.k = 2 then prune c o.t else c
def mk (l : List Op11) (n : Nat) : Cs := (l.take n).foldl run1 ⟨[], 0⟩
theorem mk_zero (l : List Op11) : mk l 0 = ⟨[], 0⟩ := by simp [mk]
theorem mk_succ (l : List Op11) (n : Nat) (o : Op11) (h : l[n]? = some o) : mk l (n + 1) = run1 (mk l n) o := by
  unfold mk
  rw [List.take_add_one, h]
  simp only [Option.toList]
  rw [List.foldl_append]
  rfl
set_option maxHeartbeats 4000000 in
theorem made_any (A : Option Addr) (len cap : Nat) (l : List Op11) (w : World) (hL : IsR w A len cap 3 encO GO l) (g : Nat) (hgw : g = w.heap.size) :
    Calls Try.prog 16 #[.slice A len cap] w fun e w' => e = .returned (ptr g) ∧ Pl w w' [] g (mk l (min l.length 60)) none 0 [] := by
  subst hgw
  obtain ⟨hlen, hs, hc1, hc2, hnil, hg⟩ := hL
  subst hlen
  have HS := Lib.hid hs
  clear hs hg hnil
  go_enter Try.func16, Try.ntmps16
  go_wp2_with fail
  refine (cnew_any _).mono ?_
  rintro e w1 ⟨rfl, hb1, k1⟩
  have H : Hid (Pl w w1 [] w.heap.size ⟨[], 0⟩ none 0 []) := Lib.hid (.start hb1 k1)
  clear hb1 k1
  go_wp2_with fail
  go_loopw [4] (fun i wr => ∃ n : Nat, n ≤ l.length ∧ n ≤ 60 ∧ i = .int .i64 (n : Int) ∧ Pl w wr [] w.heap.size (mk l n) none 0 []) (fun i _ => l.length - (intOf i).toNat)
  case atStart => exact ⟨0, by omega, by omega, rfl, by rw [mk_zero]; exact H.out⟩
  case round =>
    obtain ⟨n, hn1, hn2, rfl, hp⟩ := hrel
    have HP := Lib.hid hp
    clear hp H
    by_cases hlt : n < l.length ∧ n < 60
    · obtain ⟨h1, h2⟩ := hlt
      obtain ⟨o, ho⟩ : ∃ o, l[n]? = some o := ⟨_, List.getElem?_eq_getElem h1⟩
      obtain ⟨b0, off, rfl, hb, hcc⟩ := (HS.out.below HP.out.st.below).item encO_len (by omega) n o ho
      have HM := Lib.hid (mk_succ l n o ho)
      obtain ⟨k, t, v⟩ := o
      have q0 := hcc 0 _ rfl
      have q1 := hcc 1 _ rfl
      have q2 := hcc 2 _ rfl
      rw [Nat.add_zero] at q0
      simp only at q0 q1 q2
      have i1 : (n : Int) < (l.length : Int) := by omega
      have i2 : (n : Int) < 60 := by omega
      clear hcc ho
      by_cases hk0 : k = 0
      · subst hk0
        have HM2 : Hid (mk l (n + 1) = put (mk l n) t v) := Lib.hid (by rw [HM.out]; rfl)
        clear HM
        go_wp2_with fail
        go_still_tail 11, (by kernel_rfl)
        change wpList _ _ _ _ _ wr.drew
        have HP1 := Lib.hid (HP.out.drewN 1)
        have HP2 : Hid (Pl w wr.drew [] w.heap.size (mk l n) none 0 []) := Lib.hid HP1.out
        clear HP1 HP
        generalize wr.drew = w2 at *
        go_wp2_with fail
        refine (pput t v HP2.out).mono ?_
        rintro e w3 ⟨rfl, h⟩
        have HP3 := Lib.hid h
        clear h
        go_wp2_with fail
        go_roundw
        case rel => exact ⟨n + 1, by omega, by omega, by go_num, by rw [HM2.out]; exact HP3.out⟩
        case measure => simp [intOf]; omega
      · by_cases hk2 : k = 2
        · subst hk2
          have HM2 : Hid (mk l (n + 1) = prune (mk l n) t) := Lib.hid (by rw [HM.out]; rfl)
          clear HM hk0
          go_wp2_with fail
          refine (pprune t HP.out).mono ?_
          rintro e w3 ⟨rfl, h⟩
          have HP3 := Lib.hid h
          clear h
          go_wp2_with fail
          go_roundw
          case rel => exact ⟨n + 1, by omega, by omega, by go_num, by rw [HM2.out]; exact HP3.out⟩
          case measure => simp [intOf]; omega
        · have HM2 : Hid (mk l (n + 1) = mk l n) := Lib.hid (by rw [HM.out]; unfold run1; rw [if_neg hk0, if_neg hk2])
          clear HM
          go_wp2_with fail
          go_roundw
          case rel => exact ⟨n + 1, by omega, by omega, by go_num, by rw [HM2.out]; exact HP.out⟩
          case measure => simp [intOf]; omega
    · have hmin : n = min l.length 60 := by omega
      subst hmin
      have hend : ((min l.length 60 : Nat) : Int) < (l.length : Int) ∧ min l.length 60 = 60 ∨ ¬ ((min l.length 60 : Nat) : Int) < (l.length : Int) := by omega
      generalize hq : min l.length 60 = q at *
      have HQ := Lib.hid hq
      clear hq
      rcases hend with ⟨i1, i2⟩ | i1
      · subst i2
        go_wp2_with fail
        go_ret
        exact ⟨rfl, by rw [HQ.out]; exact HP.out⟩
      · go_wp2_with fail
        go_ret
        exact ⟨rfl, by rw [HQ.out]; exact HP.out⟩
end Go.Proofs.Ytiocghhhfhobbaa
