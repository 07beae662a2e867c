/- The document's net, as a value: its cells; its letters' row. -/
import Derived.Test.YtmbednikbdfnmaaPostL
namespace Go.Proofs.Ytmbednikbdfnmaa
open Go.RowKit Go.Po Go.Maps
set_option linter.unusedVariables false
set_option linter.unusedSimpArgs false
set_option maxRecDepth 100000

/-- The cells of the document's net. -/
def rn (nodes : Int) (sent : Int) (off : Int → Bool) (v : Value) : Array Value := ([Value.int .i64 nodes, .int .i64 sent] ++ (List.range 64).map (fun (i : Nat) => Value.bool (off i)) ++ [v]).toArray
section
variable {nodes sent : Int} {off : Int → Bool} {v : Value}
theorem rn_size : (rn nodes sent off v).size = 67 := by simp [rn]
theorem rn_0 : (rn nodes sent off v)[0]? = some (.int .i64 nodes) := by simp [rn]
theorem rn_1 : (rn nodes sent off v)[1]? = some (.int .i64 sent) := by simp [rn]
theorem rn_66 : (rn nodes sent off v)[66]? = some v := by
  unfold rn
  rw [List.getElem?_toArray, List.getElem?_append_right (by simp)]
  simp
theorem rn_off {i : Nat} (h : i < 64) : (rn nodes sent off v)[2 + i]? = some (.bool (off i)) := by
  unfold rn
  rw [List.getElem?_toArray, List.getElem?_append_left (by simp; omega), List.getElem?_append_right (by simp)]
  simp [h]
theorem rn_set66 (u : Value) : (rn nodes sent off v).setIfInBounds 66 u = rn nodes sent off u := by
  unfold rn
  apply Array.ext'
  rw [Array.toList_setIfInBounds]
  simp only [List.toList_toArray]
  rw [List.set_append_right _ _ (by simp)]
  simp
theorem rn_set1 (s : Int) : (rn nodes sent off v).setIfInBounds 1 (.int .i64 s) = rn nodes s off v := by
  unfold rn
  apply Array.ext'
  rw [Array.toList_setIfInBounds]
  simp
theorem rn_setOff {i : Nat} (h : i < 64) (b : Bool) : (rn nodes sent off v).setIfInBounds (2 + i) (.bool b) = rn nodes sent (fun y => if y = (i : Int) then b else off y) v := by
  apply Array.ext_getElem?
  intro j
  by_cases e : 2 + i = j
  · subst e
    rw [Array.getElem?_setIfInBounds_self_of_lt (by rw [rn_size]; omega), rn_off h]
    simp
  · rw [Array.getElem?_setIfInBounds_ne e]
    by_cases h2 : 2 ≤ j ∧ j < 66
    · obtain ⟨k, rfl⟩ : ∃ k, j = 2 + k := ⟨j - 2, by omega⟩
      rw [rn_off (by omega), rn_off (by omega), if_neg (by omega)]
    · rcases (show j = 0 ∨ j = 1 ∨ j = 66 ∨ 67 ≤ j by omega) with rfl | rfl | rfl | h3
      · rw [rn_0, rn_0]
      · rw [rn_1, rn_1]
      · rw [rn_66, rn_66]
      · rw [Array.getElem?_eq_none (by rw [rn_size]; omega), Array.getElem?_eq_none (by rw [rn_size]; omega)]
end
/-- A row of letters is shown by this slice. -/
structure Rs (w : World) (v : Value) (l : List (Lt (List UInt8))) : Prop where
  lies : ∃ A cap, v = .slice A l.length cap ∧ Sees w w.heap.size 4 A l.length (flat (encL sP) l) ∧ l.length ≤ cap ∧ cap ≤ 9223372036854775807 ∧ (A = none → cap = 0)
theorem Rs.call {w w' : World} {v : Value} {l : List (Lt (List UInt8))} (h : Rs w v l) (hb : Below w.heap.size w w') : Rs w' v l := by
  obtain ⟨A, cap, rfl, hs, h1, h2, h3⟩ := h.lies
  exact ⟨A, cap, rfl, (hs.below hb).more hb.size, h1, h2, h3⟩
theorem Rs.nil (w : World) : Rs w (.slice none 0 0) [] := ⟨none, 0, rfl, Sees.nothing _ _ _ _, by simp, by omega, fun _ => rfl⟩
theorem Rs.own {w : World} {B : Nat} {v : Value} {l : List (Lt (List UInt8))} (h : w.ownsRow B 85 4 v l.length (flat (encL sP) l)) : Rs w v l := by
  obtain ⟨A, cap, rfl, h1, h2, h3⟩ := own_slice0 h
  exact ⟨A, cap, rfl, Sees.own h, h1, h2, h3⟩
theorem rzero (w : World) : (zeroValue 38).run Try.prog w = .ok (.agg (rn 0 0 (fun _ => false) (.slice none 0 0))) w := by kernel_rfl
theorem rinfo : (Try.prog.info? 38).map (·.size) = some 67 := by kernel_rfl
theorem rone {nodes sent : Int} {off : Int → Bool} {v : Value} (hv : v.oneCell' = true) : (rn nodes sent off v).all (·.oneCell') = true := by
  rw [Array.all_eq_true_iff_forall_mem]
  intro u hu
  unfold rn at hu
  simp only [List.mem_toArray, List.mem_append, List.mem_cons, List.mem_map, List.not_mem_nil, or_false] at hu
  rcases hu with ((rfl | rfl) | ⟨i, _, rfl⟩) | rfl
  · rfl
  · rfl
  · rfl
  · exact hv
/-- The document's net is loaded as a whole. -/
theorem wpList_loadN {ops : Array Oper} {rest : List Oper} {o : Oper} {a : Act} {w : World} {Q : Exit → Act → World → Prop} (hgd : o.guard = none) (x : Operand) (ho : o.op = .load 38 x)
    (b : Nat) (hx : a.eval x = .pointer (some ⟨b, 0, none⟩)) (R : Array Value) (hw : Whole w b 38 R) (hs : R.size = 67) (h : wpList Try.prog ops Q rest (a.put o.dst (.agg R)) w) : wpList Try.prog ops Q (o :: rest) a w :=
  wpList_load_row hgd 38 x ho b hx 38 R (0, 0) _ hw Try.underlying38 rfl (by rw [hs]; exact rinfo) h
theorem wpList_storeN {ops : Array Oper} {rest : List Oper} {o : Oper} {a : Act} {w : World} {Q : Exit → Act → World → Prop} (hgd : o.guard = none) (x y : Operand) (ho : o.op = .store 38 x y)
    (b : Nat) (hx : a.eval x = .pointer (some ⟨b, 0, none⟩)) (R : Array Value) (hy : a.eval y = .agg R) (old : Array Value) (hw : Whole w b 38 old) (ho' : old.size = 67) (hs : R.size = 67) (h1 : R.all (·.oneCell') = true)
    (h : wpList Try.prog ops Q rest (a.put o.dst undef) (w.setRow b R)) : wpList Try.prog ops Q (o :: rest) a w :=
  wpList_plain hgd fun _ hK => wp_store_row 38 x y ho b R hx hy 38 old hw (by rw [hs]; exact rinfo) (by rw [ho', hs]) h1 (hK _ _ h)
theorem rload {w : World} {b : Nat} {R : Array Value} (hw : Whole w b 38 R) (hs : R.size = 67) : (loadVar 38 ⟨b, 0, none⟩).run Try.prog w = .ok (.agg R) w :=
  run_loadVar_row w b 38 38 R (0, 0) _ hw Try.underlying38 rfl (by rw [hs]; exact rinfo)
theorem ret_net {fn : Func} {p u : Tmp} (h : fn.results = #[.cell p 38, .tmp u]) {tmps : Array Value} {w : World} {b : Nat} {R : Array Value} (hp : tmps.getD p undef = .pointer (some ⟨b, 0, none⟩)) (hw : Whole w b 38 R) (hs : R.size = 67) :
    (results fn tmps).run Try.prog w = .ok (.tuple #[.agg R, tmps.getD u undef]) w := by
  rw [results_cell_tmp h, hp]
  simp [asAddr, Result.andThen, rload hw hs]
/-- .. in a region that draws its order. -/
theorem WQ.loadN {ops : Array Oper} {C : World → Prop} {Q : Act → Prop} {a : Act} {o : Oper} {rest : List Oper} (hgd : o.guard = none) (x : Operand) (ho : o.op = .load 38 x) (b : Nat) (hx : a.eval x = .pointer (some ⟨b, 0, none⟩)) (R : Array Value)
    (hw : ∀ y, C y → Whole y b 38 R) (hs : R.size = 67) (h : WQ Try.prog ops C Q rest (a.put o.dst (.agg R))) : WQ Try.prog ops C Q (o :: rest) a := by
  refine WQ.step fun K hK => ?_
  rw [if_pos (by simp [Region.wanted, hgd])]
  refine ⟨.agg R, fun y hy => ?_, hK _ h⟩
  unfold Oper.quietAt execOp
  simp only [ho, hx, Instr.loadAt, Instr.sureAddr, Sem.run_bind, Sem.run_pure, Result.andThen_ok, rload (hw y hy) hs]
  exact ⟨rfl, rfl⟩
theorem below_setRow {B g : Nat} {w w' : World} (h : Below B w w') (hg : B ≤ g) (cs : Array Value) : Below B w (w'.setRow g cs) :=
  ⟨h.os, h.tape, h.output, by simpa using h.size, fun k hk => (setRow_other w' g k cs (by omega)).trans (h.block k hk)⟩
/-- Where a function of the document's stands that took a net: its box, and the net that it will tell. -/
structure Two2 (w w2 : World) (R Z : Array Value) : Prop where
  box : Whole w2 w.heap.size 38 R
  res : Whole w2 (w.heap.size + 1) 38 Z
  below : Below w.heap.size w w2
theorem Two2.start (w : World) (R Z : Array Value) : Two2 w ((w.alloc (.cells R 38)).alloc (.cells Z 38)) R Z :=
  ⟨(Whole.fresh w _ _).alloc _, by simpa using Whole.fresh (w.alloc (.cells R 38)) 38 Z, ((Below.refl _ _).alloc (Nat.le_refl _) _).alloc (by simp) _⟩
theorem Two2.call {w w2 w3 : World} {R Z : Array Value} (h : Two2 w w2 R Z) (hb : Below w2.heap.size w2 w3) : Two2 w w3 R Z := ⟨h.box.below hb h.box.lt, h.res.below hb h.res.lt, h.below.trans (hb.mono h.below.size)⟩
theorem Two2.set {w w2 : World} {R Z : Array Value} (h : Two2 w w2 R Z) (i : Nat) (u : Value) : Two2 w (w2.setCell ⟨w.heap.size, i, none⟩ u) (R.setIfInBounds i u) Z :=
  ⟨h.box.set i u, h.res.away (p := ⟨w.heap.size, i, none⟩) (show w.heap.size + 1 ≠ w.heap.size by omega) u, h.below.setCell (p := ⟨w.heap.size, i, none⟩) (Nat.le_refl _) u⟩
end Go.Proofs.Ytmbednikbdfnmaa
