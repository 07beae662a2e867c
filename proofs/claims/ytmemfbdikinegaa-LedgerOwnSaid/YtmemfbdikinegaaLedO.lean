/- Layer 14: where a law stands; arguments opened; a call of a law; a book made by calls; sums of lists. -/
import Derived.Test.YtmemfbdikinegaaLedX
import Derived.Test.YtmemfbdikinegaaLedL
import Derived.Test.YtmemfbdikinegaaLedC
import Derived.Test.YtmemfbdikinegaaOpen
namespace Go.Ld
open Go.Lk
set_option linter.unusedVariables false
instance : Inhabited Op14 := ⟨⟨0, 0, 0, 0⟩⟩
/-- What a book has behind calls, and what was given to it. -/
def mk (x : Nat) (l : List Op14) : Acc := runs x (fun _ => none) l
def gv (x : Nat) (l : List Op14) : Int := given x (fun _ => none) l
theorem mk_snoc {l : List Op14} {n : Nat} {o : Op14} (x : Nat) (h : l[n]? = some o) : mk x (l.take (n + 1)) = doF x (mk x (l.take n)) o ∧ gv x (l.take (n + 1)) = gv x (l.take n) + doN x (mk x (l.take n)) o := by
  have e : l.take (n + 1) = l.take n ++ [o] := by
    have hl := List.getElem?_eq_some_iff.1 h
    rw [List.take_succ_eq_append_getElem hl.1, hl.2]
  rw [e]
  exact ⟨runs_snoc _ _ _ _, given_snoc _ _ _ _⟩
theorem runs_ok {x : Nat} (hx : Am.rated x = true) (l : List Op14) : ∀ f : Acc, Fine f → Fine (runs x f l) ∧ tot (runs x f l) = tot f + given x f l ∧ 0 ≤ given x f l ∧ given x f l ≤ 1000000000000000 * l.length := by
  induction l with
  | nil => intro f h; exact ⟨h, by show tot f = tot f + 0; omega, Int.le_refl _, by show (0 : Int) ≤ _; simp⟩
  | cons o l ih =>
    intro f h
    have h1 := h.does hx o
    obtain ⟨k1, k2, k3, k4⟩ := ih _ h1.1
    have h2 := doN_le x f o
    refine ⟨k1, ?_, ?_, ?_⟩
    · show tot (runs x (doF x f o) l) = tot f + (doN x f o + given x (doF x f o) l)
      rw [k2, h1.2]; omega
    · show 0 ≤ doN x f o + given x (doF x f o) l
      omega
    · show doN x f o + given x (doF x f o) l ≤ _
      rw [List.length_cons]
      omega
theorem mk_ok {x : Nat} (hx : Am.rated x = true) (l : List Op14) : Fine (mk x l) ∧ tot (mk x l) = gv x l ∧ 0 ≤ gv x l ∧ gv x l ≤ 1000000000000000 * l.length := by
  obtain ⟨h1, h2, h3, h4⟩ := runs_ok hx l _ Fine.none
  refine ⟨h1, ?_, h3, h4⟩
  rw [show tot (mk x l) = _ from h2, tot_none]
  show 0 + _ = _
  rw [Int.zero_add]
  rfl
end Go.Ld
namespace Go.Proofs.Ytmemfbdikinegaa
open Go.ChangeShapes Go.WideShapes Go.ChangeAt Go.RowKit Go.Lk Go.Ld Go.Am
set_option linter.unusedVariables false
set_option linter.unusedSimpArgs false
set_option maxRecDepth 100000

/-- A book's face, as a known block. -/
abbrev faceR (g mb x : Nat) : Row := (g, 56, #[.float .f64 x, .map (some mb)])
/-- Where a law stands: nothing of W has changed, these blocks are known, these maps lead as is said. -/
structure Lp (W w : World) (L : List Row) (Ms : List (Nat × Acc)) : Prop where
  st : St W w L
  maps : ∀ m ∈ Ms, Mv pu w m.1 m.2 ∧ W.heap.size ≤ m.1
  apart : Ms.Pairwise fun m n => m.1 ≠ n.1
section
variable {W w w' : World} {L L' : List Row} {Ms Ms' : List (Nat × Acc)} {g mb x : Nat} {f f' : Acc}
theorem Lp.call (h : Lp W w L Ms) (hb : Below w.heap.size w w') : Lp W w' L Ms := ⟨h.st.call hb, fun m hm => ⟨(h.maps m hm).1.call hb, (h.maps m hm).2⟩, h.apart⟩
theorem Lp.drewN (h : Lp W w L Ms) (n : Nat) : Lp W (w.drewN n) L Ms := h.call (drew_below w n)
theorem Lp.keep (h : Lp W w L Ms) (hl : ∀ r ∈ L', r ∈ L) : Lp W w L' Ms := ⟨⟨h.st.below, fun r hr => h.st.knows r (hl r hr)⟩, h.maps, h.apart⟩
theorem Lp.alloc (h : Lp W w L Ms) (q : Nat) (hq : q = w.heap.size) (t : TypeId) (cs : Array Value) : Lp W (w.alloc (.cells cs t)) ((q, t, cs) :: L) Ms :=
  ⟨h.st.alloc q hq t cs, fun m hm => ⟨(h.maps m hm).1.call ((Below.refl _ _).alloc (Nat.le_refl _) _), (h.maps m hm).2⟩, h.apart⟩
theorem Lp.swap {a b : Nat × Acc} (h : Lp W w L (a :: b :: Ms)) : Lp W w L (b :: a :: Ms) := by
  refine ⟨h.st, fun m hm => h.maps m (by simp only [List.mem_cons] at hm ⊢; rcases hm with hm | hm | hm <;> simp [hm]), ?_⟩
  obtain ⟨h1, h2⟩ := List.pairwise_cons.1 h.apart
  obtain ⟨h3, h4⟩ := List.pairwise_cons.1 h2
  refine List.pairwise_cons.2 ⟨fun m hm => ?_, List.pairwise_cons.2 ⟨fun m hm => h1 m (List.mem_cons_of_mem _ hm), h4⟩⟩
  rcases List.mem_cons.1 hm with rfl | hm
  · exact fun e => h1 b (List.mem_cons_self ..) e.symm
  · exact h3 m hm
theorem Lp.bk (h : Lp W w L Ms) (hg : faceR g mb x ∈ L) (hm : (mb, f) ∈ Ms) : Bk w g mb x f := ⟨h.st.knows _ hg, (h.maps _ hm).1⟩
/-- A map is told something. -/
theorem Lp.put (h : Lp W w L ((mb, f) :: Ms)) (ho : Off (fun b => b = mb) w w') (hm : Mv pu w' mb f') : Lp W w' L ((mb, f') :: Ms) := by
  obtain ⟨h1, h2⟩ := List.pairwise_cons.1 h.apart
  have hmb := h.maps _ (List.mem_cons_self ..)
  refine ⟨⟨h.st.below.trans (ho.below h.st.below.size fun k hk => by rw [hk]; exact hmb.2), fun r hr => ho.whole (h.st.knows r hr) fun e => hmb.1.notCells (h.st.knows r hr) e.symm⟩, fun m hq => ?_, List.pairwise_cons.2 ⟨h1, h2⟩⟩
  rcases List.mem_cons.1 hq with rfl | hq
  · exact ⟨hm, hmb.2⟩
  · have := h.maps m (List.mem_cons_of_mem _ hq)
    exact ⟨this.1.at (ho.block _ this.1.lt fun e => h1 m hq e.symm), this.2⟩
/-- A new book beside what there is. -/
theorem Lp.more (h : Lp W w L Ms) (hb : Below w.heap.size w w') (hk : Bk w' g mb x f) (h1 : w.heap.size ≤ g) (h2 : w.heap.size ≤ mb) : Lp W w' (faceR g mb x :: L) ((mb, f) :: Ms) := by
  refine ⟨⟨h.st.below.trans (hb.mono h.st.below.size), fun r hr => ?_⟩, fun m hm => ?_, List.pairwise_cons.2 ⟨fun m hm e => ?_, h.apart⟩⟩
  · rcases List.mem_cons.1 hr with rfl | hr
    · exact hk.face
    · exact (h.st.call hb).knows r hr
  · rcases List.mem_cons.1 hm with rfl | hm
    · exact ⟨hk.mv, Nat.le_trans h.st.below.size h2⟩
    · exact (h.call hb).maps m hm
  · have := (h.maps m hm).1.lt
    simp only at e
    omega
theorem Lp.start (w : World) : Lp w w [] [] := ⟨St.start w, fun m hm => (by cases hm), List.Pairwise.nil⟩
/-- A row that is owned stays so. -/
theorem own_put14 {B n size : Nat} {e : TypeId} {v : Value} {xs : List Value} (ho : w.ownsRow B e size v n xs) (hm : Mv pu w mb f) (hf : Off (fun b => b = mb) w w') : w'.ownsRow B e size v n xs :=
  ho.kept (row := some mb) ⟨hf.os, hf.tape, hf.output, hf.size, fun i hi hne => hf.block i hi fun e => hne (by rw [e])⟩ (Or.inr (not_mine ho fun t cs hc => hm.notCells hc rfl).symm)
end

/-! ### Arguments opened -/
def encO (o : Op14) : List Value := [.int .i64 o.k, .int .i64 o.a, .int .i64 o.b, .int .i64 o.n]
abbrev aggO (o : Op14) : Value := .agg #[.int .i64 o.k, .int .i64 o.a, .int .i64 o.b, .int .i64 o.n]
theorem encO_len (o : Op14) : (encO o).length = 4 := rfl
/-- What a call that came in is like. -/
structure GO (o : Op14) : Prop where
  k : W64 o.k
  a : W64 o.a
  b : W64 o.b
  n : W64 o.n
section
variable {H : Type} {enc : TypeId × Value → H} {W : World} {held : Bool}
theorem w64_of {a : Int} (h : -9223372036854775808 ≤ a ∧ a ≤ 9223372036854775807) : W64 a := h
theorem op_cells {m : Nat} {cs : List Value} {x : DataW H × List MemPlace} (hm : DataW.trod enc Try.prog W 0 (fun _ => true) held m 35 cs = some x) : ∃ v, cs = encO v ∧ GO v := by
  obtain ⟨xs, n, -, -, hl, hxl, hf⟩ := DataW.trod_struct Try.underlying35 hm
  rw [show Try.prog.cellsOf 35 = 4 by kernel_rfl] at hl
  obtain ⟨c0, c1, c2, c3, rfl⟩ := list4 hl
  obtain ⟨y0, y1, y2, y3, rfl⟩ := list4 (l := xs) (by simpa using hxl)
  have h0 : DataW.trod enc Try.prog W 0 (fun _ => true) held n 3 (([c0, c1, c2, c3].drop 0).take (Try.prog.cellsOf 3)) = some y0 := hf 0 _ rfl
  have h1 : DataW.trod enc Try.prog W 0 (fun _ => true) held n 3 (([c0, c1, c2, c3].drop 1).take (Try.prog.cellsOf 3)) = some y1 := hf 1 _ rfl
  have h2 : DataW.trod enc Try.prog W 0 (fun _ => true) held n 3 (([c0, c1, c2, c3].drop 2).take (Try.prog.cellsOf 3)) = some y2 := hf 2 _ rfl
  have h3 : DataW.trod enc Try.prog W 0 (fun _ => true) held n 2 (([c0, c1, c2, c3].drop 3).take (Try.prog.cellsOf 2)) = some y3 := hf 3 _ rfl
  rw [show Try.prog.cellsOf 3 = 1 by kernel_rfl] at h0 h1 h2
  rw [show Try.prog.cellsOf 2 = 1 by kernel_rfl] at h3
  obtain ⟨a, e0, -, w0⟩ := DataW.trod_int Try.underlying3 h0
  obtain ⟨b, e1, -, w1⟩ := DataW.trod_int Try.underlying3 h1
  obtain ⟨c, e2, -, w2⟩ := DataW.trod_int Try.underlying3 h2
  obtain ⟨d, e3, -, w3⟩ := DataW.trod_int Try.underlying2 h3
  simp only [List.drop_succ_cons, List.drop_zero, List.take_succ_cons, List.take_zero, List.cons.injEq, and_true] at e0 e1 e2 e3
  subst e0 e1 e2 e3
  exact ⟨⟨a, b, c, d⟩, rfl, w64_of (bounds_i64 w0), w64_of (bounds_i64 w1), w64_of (bounds_i64 w2), w64_of (bounds_i64 w3)⟩
theorem open_ops {A : Option Addr} {len cap : Nat} {d : DataW H} {p : List MemPlace} (h : DataW.Trod enc Try.prog W 0 (fun _ => true) held 23 (.slice A len cap) d p) : ∃ l, IsR W A len cap 4 encO GO l :=
  open_row Try.underlying23 (by kernel_rfl) (by omega) encO_len (fun m cs x hm => op_cells hm) h
theorem open_nums {A : Option Addr} {len cap : Nat} {d : DataW H} {p : List MemPlace} (h : DataW.Trod enc Try.prog W 0 (fun _ => true) held 48 (.slice A len cap) d p) : ∃ l, IsR W A len cap 1 (fun n : Int => [.int .i64 n]) W64 l := by
  refine open_row (size := 1) Try.underlying48 (by kernel_rfl) (by omega) (fun _ => rfl) (fun m cs x hm => ?_) h
  obtain ⟨a, e0, -, w0⟩ := DataW.trod_int Try.underlying2 hm
  exact ⟨a, e0, w64_of (bounds_i64 w0)⟩
theorem open_op {r : Reach} {b0 : Nat} {v : Value} {d : DataW H} {p : List MemPlace} (hv : Value.okWide Try.prog W r b0 35 v) (h : DataW.Trod enc Try.prog W 0 (fun _ => true) held 35 v d p) : ∃ o : Op14, v = aggO o ∧ GO o := by
  obtain ⟨cs, rfl, hsz⟩ := okWide_struct Try.underlying35 hv
  obtain ⟨m, hm⟩ := h
  obtain ⟨o, ho, hg⟩ := op_cells hm
  refine ⟨o, ?_, hg⟩
  have : cs.toList = encO o := by simpa [Value.cells] using ho
  cases cs
  simp only at this
  rw [this]
  rfl
abbrev agg2 (p q : Op14) : Value := .agg #[.int .i64 p.k, .int .i64 p.a, .int .i64 p.b, .int .i64 p.n, .int .i64 q.k, .int .i64 q.a, .int .i64 q.b, .int .i64 q.n]
theorem open_two {r : Reach} {b0 : Nat} {v : Value} {d : DataW H} {p : List MemPlace} (hv : Value.okWide Try.prog W r b0 45 v) (h : DataW.Trod enc Try.prog W 0 (fun _ => true) held 45 v d p) : ∃ o q : Op14, v = agg2 o q ∧ GO o ∧ GO q := by
  simp only [Value.okWide, Try.underlying45] at hv
  obtain ⟨cs, rfl, hsz, -⟩ := hv
  obtain ⟨m, hm⟩ := h
  obtain ⟨xs, n, -, -, hl, hxl, hf⟩ := DataW.trod_array Try.underlying45 hm
  rw [show Try.prog.cellsOf 45 = 8 by kernel_rfl] at hl
  obtain ⟨y0, y1, rfl⟩ := list2 (l := xs) hxl
  have h0 := hf 0 (by omega)
  have h1 := hf 1 (by omega)
  rw [show Try.prog.cellsOf 35 = 4 by kernel_rfl] at h0 h1
  obtain ⟨o, e0, g0⟩ := op_cells h0
  obtain ⟨q, e1, g1⟩ := op_cells h1
  refine ⟨o, q, ?_, g0, g1⟩
  have hcs : cs.toList = encO o ++ encO q := by
    have hc : (Value.agg cs).cells.toList = cs.toList := by simp [Value.cells]
    rw [hc] at e0 e1 hl
    simp only [Nat.zero_mul, Nat.one_mul, List.drop_zero] at e0 e1
    rw [← e0, ← e1]
    have h2 : cs.toList.drop 4 = (cs.toList.drop 4).take 4 := (List.take_of_length_le (by simp at hl ⊢; omega)).symm
    rw [← h2, List.take_append_drop]
  cases cs
  simp only at hcs
  rw [hcs]
  rfl
end

/-! ### A call of a law -/
set_option maxHeartbeats 4000000 in
theorem does_any {w : World} {g mb x : Nat} {f : Acc} (o : Op14) (ho : GO o) (h : Bk w g mb x f) (hF : Fine f) (hx : x < 18446744073709551616) (hr : rated x = true) (htot : tot f ≤ 8000000000000000000) :
    Calls Try.prog 17 #[ptr g, aggO o] w fun e w' => e = .returned (.tuple #[.int .i64 (doV x f o), .int .i64 (doE x f o)]) ∧ Off (fun b => b = mb) w w' ∧ Bk w' g mb x (doF x f o) := by
  obtain ⟨k, a, b, n⟩ := o
  have hb := (Below.refl w.heap.size w).alloc (Nat.le_refl _) (.cells #[.int .i64 k, .int .i64 a, .int .i64 b, .int .i64 n] 35)
  have HOF : Hid (Off (fun b => b = mb) w (w.alloc (.cells #[.int .i64 k, .int .i64 a, .int .i64 b, .int .i64 n] 35))) := Lib.hid ((Off.refl _ w).alloc _)
  have HO := Lib.hid (open_any b n ho.b (h.call hb) hF)
  have HM := Lib.hid (move_any a b n ho.a ho.b ho.n (h.call hb) hF hx hr htot)
  have HR : Hid (doE x f ⟨k, a, b, n⟩ = (if k = 0 then openE f b n else moveE x f a b n) ∧ doV x f ⟨k, a, b, n⟩ = (if k = 0 then 0 else moveV x f a b n) ∧ doF x f ⟨k, a, b, n⟩ = if k = 0 then openF f b n else moveF x f a b n) := Lib.hid ⟨rfl, rfl, rfl⟩
  rw [HR.out.1, HR.out.2.1, HR.out.2.2]
  clear h ho hb hF hx hr HR
  by_cases h0 : k = 0
  · rw [if_pos h0, if_pos h0, if_pos h0]
    subst h0
    go_enter Try.func17, Try.ntmps17
    go_wp2_with fail
    refine HO.out.mono ?_
    rintro e w6 ⟨rfl, ho, hk⟩
    have HK := Lib.hid (show _ ∧ _ from ⟨HOF.out.trans ho, hk⟩)
    clear ho hk
    go_wp2_with fail
    go_ret2
    exact ⟨rfl, HK.out⟩
  · rw [if_neg h0, if_neg h0, if_neg h0]
    have i0 : (k == 0) = false := by simpa using h0
    go_enter Try.func17, Try.ntmps17
    go_wp2_with fail
    refine HM.out.mono ?_
    rintro e w6 ⟨rfl, ho, hk⟩
    have HK := Lib.hid (show _ ∧ _ from ⟨HOF.out.trans ho, hk⟩)
    clear ho hk
    go_wp2_with fail
    go_ret2
    exact ⟨rfl, HK.out⟩
set_option maxHeartbeats 4000000 in
/-- A book made by calls. -/
theorem made_any (x : Nat) (hx : x < 18446744073709551616) (A : Option Addr) (cap : Nat) (l : List Op14) (w : World) (hs : Sees w w.heap.size 4 A l.length (flat encO l)) (hc : l.length ≤ cap) (hc2 : cap ≤ 9223372036854775807) (hg : ∀ o ∈ l, GO o) :
    Calls Try.prog 8 #[.float .f64 x, .slice A l.length cap] w fun e w' => Below w.heap.size w w' ∧
      ((rated x = false ∧ e = .returned (.tuple #[.pointer none, .int .i64 0])) ∨ ∃ g mb, rated x = true ∧ e = .returned (.tuple #[ptr g, .int .i64 (gv x (l.take 40))]) ∧ Bk w' g mb x (mk x (l.take 40)) ∧ w.heap.size ≤ g ∧ w.heap.size ≤ mb) := by
  have HS := Lib.hid hs
  have HGO := Lib.hid hg
  have HN := Lib.hid (new_any x hx w)
  have HX := Lib.hid hx
  clear hs hg hx
  go_enter Try.func8, Try.ntmps8
  go_wp2_with fail
  refine HN.out.mono ?_
  rintro e w1 ⟨hb1, h | ⟨g, mb, hr, rfl, hk, h1, h2⟩⟩
  · obtain ⟨hr, rfl⟩ := h
    have HB := Lib.hid hb1
    have HR := Lib.hid hr
    clear hb1 hr
    go_wp2_with fail
    go_ret2
    exact ⟨HB.out, .inl ⟨HR.out, rfl⟩⟩
  · have HR := Lib.hid hr
    have HP := Lib.hid ((Lp.start w).more hb1 hk h1 h2)
    have HL := Lib.hid (show _ ∧ _ from ⟨h1, h2⟩)
    clear hb1 hr hk h1 h2 HN
    go_wp2_with fail
    go_loopw [8, 9] (fun v i wr => ∃ n : Nat, n ≤ l.length ∧ n ≤ 40 ∧ i = .int .i64 (n : Int) ∧ v = .int .i64 (gv x (l.take n)) ∧ Lp w wr [faceR g mb x] [(mb, mk x (l.take n))]) (fun _ i _ => l.length - (intOf i).toNat)
    case atStart => exact ⟨0, by omega, by omega, rfl, rfl, HP.out⟩
    case round =>
      obtain ⟨n, hn1, hn2, rfl, rfl, hp⟩ := hrel
      have HP := Lib.hid hp
      have hok := mk_ok HR.out (l.take n)
      have hlt0 : (l.take n).length ≤ 40 := by simp; omega
      have HOK := Lib.hid hok
      have hg0 := hok.2.2.1
      have hg1 : gv x (l.take n) ≤ 40000000000000000 := by have := hok.2.2.2; omega
      clear hp hok hlt0
      by_cases hlt : n < l.length ∧ n < 40
      · obtain ⟨h1, h2⟩ := hlt
        obtain ⟨o, ho⟩ : ∃ o, l[n]? = some o := ⟨_, List.getElem?_eq_getElem h1⟩
        obtain ⟨b0, off, rfl, hb, hcc⟩ := (HS.out.below HP.out.st.below).item encO_len (by omega) n o ho
        have HCC : Hid (∀ y, Below w.heap.size w y → y.cell? ⟨b0, off + n * 4, none⟩ = some (.int .i64 o.k) ∧ y.cell? ⟨b0, off + n * 4 + 3, none⟩ = some (.int .i64 o.n)) := Lib.hid fun y hy => by
          obtain ⟨b9, off9, hA9, -, hc9⟩ := (HS.out.below hy).item encO_len (by omega) n o ho
          injection hA9 with hA9
          injection hA9 with hA9 hA10
          subst hA9 hA10
          exact ⟨hc9 0 _ rfl, hc9 3 _ rfl⟩
        have q0 := hcc 0 _ rfl
        have q1 := hcc 1 _ rfl
        have q2 := hcc 2 _ rfl
        have q3 := hcc 3 _ rfl
        rw [Nat.add_zero] at q0
        have i1 : (n : Int) < (l.length : Int) := by omega
        have i2 : (n : Int) < 40 := by omega
        have htot : tot (mk x (l.take n)) ≤ 8000000000000000000 := by rw [HOK.out.2.1]; omega
        have HDO := Lib.hid (does_any o (HGO.out o (List.mem_of_getElem? ho)) (HP.out.bk (List.mem_cons_self ..) (List.mem_cons_self ..)) HOK.out.1 HX.out HR.out htot)
        have HSN := Lib.hid (mk_snoc x ho)
        have hdn := doN_le x (mk x (l.take n)) o
        have HDN : Hid (doN x (mk x (l.take n)) o = if o.k = 0 ∧ doE x (mk x (l.take n)) o = 0 then o.n else 0) := Lib.hid rfl
        rw [HDN.out] at hdn HSN
        clear hcc ho HDN htot
        generalize doV x (mk x (l.take n)) o = V at *
        generalize doE x (mk x (l.take n)) o = E at *
        generalize hmf : doF x (mk x (l.take n)) o = f2 at *
        clear hmf
        obtain ⟨k, a, b, m⟩ := o
        dsimp only at *
        generalize gv x (l.take n) = G at *
        go_wp2_with fail
        refine HDO.out.mono ?_
        rintro e w4 ⟨rfl, ho, hk⟩
        have HP4 := Lib.hid (HP.out.put ho hk.mv)
        clear ho hk HDO HP
        obtain ⟨u0, u3⟩ := HCC.out _ HP4.out.st.below
        by_cases h0 : k = 0 ∧ E = 0
        · obtain ⟨rfl, rfl⟩ := h0
          rw [if_pos ⟨rfl, rfl⟩] at hdn HSN
          go_wp2_with fail
          go_roundw
          case rel => exact ⟨n + 1, by omega, by omega, by go_num, by rw [HSN.out.2], by rw [HSN.out.1]; exact HP4.out⟩
          case measure => simp [intOf]; omega
        · rw [if_neg h0] at HSN
          by_cases hE : E = 0
          · subst hE
            have hk0 : (k == 0) = false := by simpa using fun e => h0 ⟨e, rfl⟩
            go_wp2_with fail
            go_roundw
            case rel => exact ⟨n + 1, by omega, by omega, by go_num, by rw [HSN.out.2, Int.add_zero], by rw [HSN.out.1]; exact HP4.out⟩
            case measure => simp [intOf]; omega
          · have hE2 : (E == 0) = false := by simpa using hE
            go_wp2_with fail
            go_roundw
            case rel => exact ⟨n + 1, by omega, by omega, by go_num, by rw [HSN.out.2, Int.add_zero], by rw [HSN.out.1]; exact HP4.out⟩
            case measure => simp [intOf]; omega
      · have he : l.take n = l.take 40 := by
          by_cases e : n = 40
          · rw [e]
          · have : n = l.length := by omega
            rw [this, List.take_length, List.take_of_length_le (by omega)]
        rw [he] at HP
        rw [he]
        have HP7 := Lib.hid HP.out
        by_cases h1 : n < l.length
        · have h2 : n = 40 := by omega
          subst h2
          go_wp2_with fail
          go_ret2
          refine ⟨HP7.out.st.below, .inr ?_⟩
          have HBK := HP7.out.bk (List.mem_cons_self ..) (List.mem_cons_self ..)
          first | exact ⟨g, mb, HR.out, rfl, HBK, HL.out⟩ | exact ⟨HR.out, g, rfl, mb, HBK, HL.out⟩
        · have h2 : n = l.length := by omega
          subst h2
          go_wp2_with fail
          go_ret2
          refine ⟨HP7.out.st.below, .inr ?_⟩
          have HBK := HP7.out.bk (List.mem_cons_self ..) (List.mem_cons_self ..)
          first | exact ⟨g, mb, HR.out, rfl, HBK, HL.out⟩ | exact ⟨HR.out, g, rfl, mb, HBK, HL.out⟩
end Go.Proofs.Ytmemfbdikinegaa
