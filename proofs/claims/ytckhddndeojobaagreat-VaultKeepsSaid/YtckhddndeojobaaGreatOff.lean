/- What a step leaves as it was, but for a set of blocks; a block's row set; an append that tells where the new slice lies; cells cleared. (No types of a layer.) -/
import Derived.Test.YtckhddndeojobaaGreatInv
import Derived.Test.YtckhddndeojobaaGreatOpen
namespace Go.Proofs.YtckhddndeojobaaGreat
open Go.RowKit
set_option linter.unusedVariables false
set_option linter.unusedSimpArgs false
set_option maxRecDepth 100000

abbrev ptr (g : Nat) : Value := .pointer (some ⟨g, 0, none⟩)
def W64 (n : Int) : Prop := -9223372036854775808 ≤ n ∧ n ≤ 9223372036854775807
theorem w64 (n : Int) (h : -9223372036854775808 ≤ n ∧ n ≤ 9223372036854775807) : W64 n := h
/-- Nothing old has changed, but for the blocks of F. -/
structure Off (F : Nat → Prop) (w w' : World) : Prop where
  os : w'.os = w.os
  tape : w'.tape = w.tape
  output : w'.output = w.output
  size : w.heap.size ≤ w'.heap.size
  block : ∀ k, k < w.heap.size → ¬ F k → w'.heap[k]? = w.heap[k]?
section
variable {F F' : Nat → Prop} {a b c w w' : World}
theorem Off.of (h : Below w.heap.size w w') (F : Nat → Prop) : Off F w w' := ⟨h.os, h.tape, h.output, h.size, fun k hk _ => h.block k hk⟩
theorem Off.refl (F : Nat → Prop) (w : World) : Off F w w := .of (Below.refl _ _) F
theorem Off.trans (h : Off F a b) (k : Off F b c) : Off F a c :=
  ⟨k.os.trans h.os, k.tape.trans h.tape, k.output.trans h.output, Nat.le_trans h.size k.size, fun i hi hg => (k.block i (Nat.lt_of_lt_of_le hi h.size) hg).trans (h.block i hi hg)⟩
/-- Behind a step that may have taken new blocks in. -/
theorem Off.then (h : Off F a b) (hF : ∀ k, F' k → F k ∨ a.heap.size ≤ k) (k : Off F' b c) : Off F a c :=
  ⟨k.os.trans h.os, k.tape.trans h.tape, k.output.trans h.output, Nat.le_trans h.size k.size, fun i hi hg => (k.block i (Nat.lt_of_lt_of_le hi h.size) (fun hf => by
    rcases hF i hf with h | h
    · exact hg h
    · omega)).trans (h.block i hi hg)⟩
theorem Off.call (h : Off F a w) (k : Below w.heap.size w w') : Off F a w' := h.trans (.of k F)
theorem Off.drewN (h : Off F a w) (n : Nat) : Off F a (w.drewN n) := ⟨h.os, h.tape, h.output, h.size, h.block⟩
theorem Off.alloc (h : Off F a w) (o : Obj) : Off F a (w.alloc o) := h.call ((Below.refl _ _).alloc (Nat.le_refl _) o)
theorem Off.set (h : Off F a w) {p : Addr} (hp : F p.block ∨ a.heap.size ≤ p.block) (u : Value) : Off F a (w.setCell p u) := by
  have hb := (Below.refl 0 w).setCell (p := p) (Nat.zero_le _) u
  refine ⟨hb.os.trans h.os, hb.tape.trans h.tape, hb.output.trans h.output, Nat.le_trans h.size hb.size, fun i hi hg => ?_⟩
  rw [Below.heap_setCell w p u i (fun e => by
    rcases hp with hp | hp
    · exact hg (e ▸ hp)
    · omega)]
  exact h.block i hi hg
theorem Off.setRow (h : Off F a w) {g : Nat} (hp : F g ∨ a.heap.size ≤ g) (cs : Array Value) : Off F a (w.setRow g cs) :=
  ⟨h.os, h.tape, h.output, by simpa using h.size, fun i hi hg => by
    rw [setRow_other w g i cs (fun e => by
      rcases hp with hp | hp
      · exact hg (e ▸ hp)
      · omega)]
    exact h.block i hi hg⟩
theorem Off.grown (h : Off F a w) {row : Option Nat} (k : w.grownBy w' row) (hr : ∀ g, row = some g → F g ∨ a.heap.size ≤ g) : Off F a w' :=
  ⟨k.os.trans h.os, k.tape.trans h.tape, k.output.trans h.output, Nat.le_trans h.size k.size, fun i hi hg => by
    rw [k.block i (Nat.lt_of_lt_of_le hi h.size) (fun e => by
      rcases hr i e.symm with hp | hp
      · exact hg hp
      · omega)]
    exact h.block i hi hg⟩
theorem Off.below (h : Off F w w') {B : Nat} (hB : B ≤ w.heap.size) (hF : ∀ k, F k → B ≤ k) : Below B w w' :=
  ⟨h.os, h.tape, h.output, h.size, fun k hk => h.block k (by omega) (fun hf => by have := hF k hf; omega)⟩
theorem Off.whole (h : Off F w w') {x : Nat} {t : TypeId} {cs : Array Value} (k : Whole w x t cs) (hx : ¬ F x) : Whole w' x t cs := (h.block x k.lt hx).trans k
end
theorem whole_unlike {w : World} {x y : Nat} {s t : TypeId} {cs ds : Array Value} (h : Whole w x s cs) (k : Whole w y t ds) (hst : s ≠ t) : x ≠ y := by
  intro e
  subst e
  have := (show w.heap[x]? = _ from h).symm.trans k
  injection this with this
  injection this with h1 h2
  exact hst h2
theorem Whole.setRow {w : World} {g : Nat} {t : TypeId} {cs : Array Value} (h : Whole w g t cs) (ds : Array Value) : Whole (w.setRow g ds) g t ds := setRow_heap w g cs ds t (0, 0) h
theorem Whole.rowAway {w : World} {x g : Nat} {t : TypeId} {cs : Array Value} (h : Whole w x t cs) (hx : x ≠ g) (ds : Array Value) : Whole (w.setRow g ds) x t cs := (setRow_other w g x ds hx).trans h
/-- wpList_appG, that tells where the new slice lies. -/
theorem wpList_appAt {ops : Array Oper} {rest : List Oper} {o : Oper} {a : Act} {Q : Exit → Act → World → Prop} {w : World} (hgd : o.guard = none) (s x : Operand) (t e : TypeId) (z : Value) (size bytes : Nat)
    (ho : o.op = .call { callee := .builtin .append, args := #[s, x], argTypes := #[t, t] }) (hinfo : (Tryz.prog.info? e).map (fun i => (i.zero, i.size, i.bytes)) = some (some z, size, bytes))
    (ht : Tryz.prog.underlying t = some (.slice e)) (hzs : z.cells.size = size) (hsz : 0 < size)
    (B : Nat) (v : Value) (n : Nat) (xs : List Value) (hs : a.eval s = v) (hown : w.ownsRow B e size v n xs) (B2 : Nat) (A : Option Addr) (m c : Nat) (news : List Value) (hx : a.eval x = .slice A m c) (hsee : Sees w B2 size A m news)
    (hc0 : A = none → c = 0) (h1 : ∀ u ∈ news, u.oneCell' = true) (h63 : n + m ≤ 9223372036854775807) (hbytes : (n + m) * bytes ≤ 140737488355328) (hB : B ≤ w.heap.size)
    (h : ∀ v' w', w'.ownsRow B e size v' (n + m) (xs ++ news) → w.grownBy w' v.ownBlock → (v'.ownBlock = v.ownBlock ∨ v'.ownBlock = some w.heap.size) → wpList Tryz.prog ops Q rest (a.put o.dst v') w') :
    wpList Tryz.prog ops Q (o :: rest) a w := by
  obtain ⟨i0, hi, hz0, hz1, hz2⟩ := info_parts hinfo
  cases A with
  | none =>
    have hm : m = 0 := by
      rcases Nat.eq_zero_or_pos m with h0 | h0
      · exact h0
      · obtain ⟨b, off, hA, _⟩ := hsee.2 h0
        cases hA
    subst hm
    have hn : news = [] := List.eq_nil_of_length_eq_zero (by simpa using hsee.1)
    subst hn
    obtain rfl := hc0 rfl
    refine wpList_append_own_none hgd s x t ho B e i0 size ht hi v n xs hs hown hx ?_
    exact h v w (by simpa using hown) ⟨rfl, rfl, rfl, Nat.le_refl _, fun _ _ _ => rfl⟩ (.inl rfl)
  | some ad =>
    refine wpList_append_own_at w hgd s x t ho B e i0 z size bytes ht hi hz0 hz1 hz2 hzs hsz v n xs hs hown ad m c news hx hsee.1 ?_ h1 (by unfold maxLen; exact h63) hbytes hB ?_
    · intro j u hu
      rcases Nat.eq_zero_or_pos m with h0 | h0
      · subst h0
        have hn : news = [] := List.eq_nil_of_length_eq_zero (by simpa using hsee.1)
        subst hn
        simp at hu
      · obtain ⟨b, off, hA, _, hc⟩ := hsee.2 h0
        injection hA with hA
        subst hA
        rw [add_at]; exact hc j u hu
    · intro v' w' hown' hg _ hat
      exact h v' w' hown' hg hat
/-- Worlds round an operation that yields v (a), which is stored then (b). -/
structure Ap (w y : World) (o : World → Value → Prop) (st : World → Value → World) (v : Value) (a b : Bool) : Prop where
  off : a = false → y = w.drew ∧ b = false
  mid : a = true → b = false → o y v
  fin : b = true → a = true ∧ ∃ y0, o y0 v ∧ y = st y0 v
theorem Ap.start (w : World) (o : World → Value → Prop) (st : World → Value → World) (v : Value) : Ap w w.drew o st v false false := ⟨fun _ => ⟨rfl, rfl⟩, fun h => (by cases h), fun h => by cases h⟩
theorem Ap.made {w y : World} {o : World → Value → Prop} {st : World → Value → World} {v : Value} (h : o y v) : Ap w y o st v true false := ⟨fun h => (by cases h), fun _ _ => h, fun h => by cases h⟩
theorem Ap.stored {w y : World} {o : World → Value → Prop} {st : World → Value → World} {v : Value} (h : o y v) : Ap w (st y v) o st v true true := ⟨fun h => (by cases h), fun _ h => (by cases h), fun _ => ⟨rfl, y, h, rfl⟩⟩

/-- append where there is room: the slice stays where it lay. -/
theorem wpList_appRoom {ops : Array Oper} {rest : List Oper} {o : Oper} {a : Act} {Q : Exit → Act → World → Prop} {w : World} (hgd : o.guard = none) (s x : Operand) (t e : TypeId) (z : Value) (size bytes : Nat)
    (ho : o.op = .call { callee := .builtin .append, args := #[s, x], argTypes := #[t, t] }) (hinfo : (Tryz.prog.info? e).map (fun i => (i.zero, i.size, i.bytes)) = some (some z, size, bytes)) (ht : Tryz.prog.underlying t = some (.slice e))
    (B : Nat) (g n cap : Nat) (xs : List Value) (hs : a.eval s = .slice (some ⟨g, 0, none⟩) n cap) (hown : w.ownsRow B e size (.slice (some ⟨g, 0, none⟩) n cap) n xs) (B2 : Nat) (A : Option Addr) (m c : Nat) (news : List Value) (hx : a.eval x = .slice A m c) (hsee : Sees w B2 size A m news)
    (hA : A ≠ none) (h1 : ∀ u ∈ news, u.oneCell' = true) (hroom : n + m ≤ cap)
    (h : ∀ w', w'.ownsRow B e size (.slice (some ⟨g, 0, none⟩) (n + m) cap) (n + m) (xs ++ news) → w.grownBy w' (some g) → wpList Tryz.prog ops Q rest (a.put o.dst (.slice (some ⟨g, 0, none⟩) (n + m) cap)) w') :
    wpList Tryz.prog ops Q (o :: rest) a w := by
  refine wpList_plain hgd fun K hK => ?_
  obtain ⟨i0, hi, hz0, hz1, hz2⟩ := info_parts hinfo
  subst hz1
  cases A with
  | none => exact absurd rfl hA
  | some ad =>
    obtain ⟨hl, hr⟩ := hown
    rcases hr with ⟨h0, _⟩ | ⟨g', cap', cur, hv, hb, hg, hkc, hcm, hcs, htake⟩
    · simp at h0
    · simp only [Value.slice.injEq, Option.some.injEq, Addr.mk.injEq, and_true, true_and] at hv
      obtain ⟨rfl, rfl⟩ := hv
      have hnl : news.length = m * i0.size := hsee.1
      have hnews : ∀ j u, news[j]? = some u → w.cell? (ad.add j) = some u := by
        intro j u hu
        rcases Nat.eq_zero_or_pos m with h0 | h0
        · subst h0
          have hn : news = [] := List.eq_nil_of_length_eq_zero (by simpa using hsee.1)
          subst hn
          simp at hu
        · obtain ⟨b, off, hA, _, hc⟩ := hsee.2 h0
          injection hA with hA
          subst hA
          rw [add_at]; exact hc j u hu
      have hfit : n * i0.size + news.length ≤ cur.size := by rw [hnl, hcs, ← Nat.add_mul]; exact Nat.mul_le_mul_right _ hroom
      have hrun := run_append_room (P := Tryz.prog) w t o.type e i0 ht hi g n cap cur hg ad m c news hnl hnews h1 hroom hfit
      have hlen : (xs ++ news).length = (n + m) * i0.size := by rw [List.length_append, hl, hnl, Nat.add_mul]
      unfold Oper.wp execOp
      simp only [ho, resolve, invoke, builtin, Sem.run_bind, Sem.run_pure, Result.andThen_ok, List.map_toArray, List.map_cons, List.map_nil, hs, hx, hrun]
      refine hK _ _ (h _ ⟨hlen, .inr ⟨g, cap, _, rfl, hb, setRow_heap w g cur _ e _ hg, hroom, hcm, ?_, ?_⟩⟩ ⟨rfl, rfl, rfl, by simp, fun k _ hk => setRow_other w g k _ (fun e => hk (by rw [e]))⟩)
      · simp only [List.size_toArray, List.length_append, List.length_take, List.length_drop, Array.length_toList]
        omega
      · rw [htake, ← hlen]
        exact List.take_left
/-- The world in which a region draws, as a class of which nothing else is told. -/
theorem one_class (w : World) : ∃ C : World → Prop, C w.drew ∧ Hid (∀ a, C a → a = w.drew) := ⟨fun a => a = w.drew, rfl, Lib.hid fun a h => h⟩
/-- A part of what is shown, as the model tells its address: at the end of the room it doesn't move. -/
theorem Sees.part {w : World} {B size b off n : Nat} {xs : List Value} (h : Sees w B size (some ⟨b, off, none⟩) n xs) (i j cap : Nat) (hij : i ≤ j) (hj : j ≤ n) (hc : n ≤ cap) :
    Sees w B size (if cap = i then some ⟨b, off, none⟩ else some ⟨b, off + i * size, none⟩) (j - i) ((xs.drop (i * size)).take ((j - i) * size)) := by
  have h1 : j * size ≤ n * size := Nat.mul_le_mul_right _ hj
  have h2 : i * size ≤ j * size := Nat.mul_le_mul_right _ hij
  have h3 : (j - i) * size = j * size - i * size := Nat.sub_mul _ _ _
  refine ⟨by rw [List.length_take, List.length_drop, h.1]; omega, fun hn => ?_⟩
  obtain ⟨b', off', hA, hb, hcell⟩ := h.2 (by omega)
  injection hA with hA
  injection hA with e1 e2
  subst e1 e2
  rw [if_neg (by omega)]
  refine ⟨b, off + i * size, rfl, hb, fun k u hu => ?_⟩
  rw [List.getElem?_take] at hu
  split at hu
  · rw [List.getElem?_drop] at hu
    rw [Nat.add_assoc]
    exact hcell (i * size + k) u hu
  · cases hu
/-- Cells of an owned row are cleared, behind its first k things. -/
theorem run_clear_own {P : Program} {w : World} {B size k : Nat} {e t ty : TypeId} {z : Value} (ht : P.underlying t = some (.slice e)) (hz : ∀ w, (zeroValue e).run P w = .ok z w) (hzs : z.cells.size = size) (hsz : 0 < size) (h1 : ∀ u ∈ z.cells.toList, u.oneCell' = true)
    {g n cap : Nat} {xs : List Value} (hown : w.ownsRow B e size (.slice (some ⟨g, 0, none⟩) k cap) k xs) (hn : k + n ≤ cap) (hn0 : 0 < n) (c : Nat) :
    ∃ w', (Builtin.clear_ #[t] ty #[.slice (some ⟨g, k * size, none⟩) n c]).run P w = .ok (.tuple #[]) w' ∧ w'.ownsRow B e size (.slice (some ⟨g, 0, none⟩) k cap) k xs ∧ w.grownBy w' (some g) := by
  obtain ⟨hl, hr⟩ := hown
  rcases hr with ⟨h, _⟩ | ⟨g', cap', cur, hv, hb, hg, hkc, hcm, hcs, htake⟩
  · simp at h
  · simp only [Value.slice.injEq, Option.some.injEq, Addr.mk.injEq, and_true, true_and] at hv
    obtain ⟨rfl, rfl⟩ := hv
    have hlen : (Builtin.zeroCells z.cells n).toList.length = n * size := by rw [Array.length_toList, size_zeroCells, hzs]
    have hle : k * size + n * size ≤ cur.size := by rw [hcs, ← Nat.add_mul]; exact Nat.mul_le_mul_right _ hn
    have hone : ∀ u ∈ (Builtin.zeroCells z.cells n).toList, u.oneCell' = true := by
      intro u hu
      refine h1 u ?_
      simp only [Builtin.zeroCells, Array.toList_map, List.mem_map] at hu
      obtain ⟨i, -, rfl⟩ := hu
      have hlt : i % z.cells.size < z.cells.size := Nat.mod_lt _ (by omega)
      rw [getElem!_pos z.cells (i % z.cells.size) hlt]
      simp
    have hst := run_storeCells_at P g (k * size) e (Builtin.zeroCells z.cells n).toList 0 cur w hg (by rw [hlen]; omega) hone
    rw [Nat.add_zero] at hst
    refine ⟨w.setRow g (cur.toList.take (k * size) ++ (Builtin.zeroCells z.cells n).toList ++ cur.toList.drop (k * size + (Builtin.zeroCells z.cells n).toList.length)).toArray, ?_, ⟨hl, .inr ⟨g, cap, _, rfl, hb, setRow_heap w g cur _ e _ hg, hkc, hcm, ?_, ?_⟩⟩, ⟨rfl, rfl, rfl, by simp, fun i _ hi => setRow_other w g i _ (fun e => hi (by rw [e]))⟩⟩
    · obtain ⟨m, rfl⟩ : ∃ m, n = m + 1 := ⟨n - 1, by omega⟩
      simp only [Builtin.clear_]
      simp [run_underlying ht, hz, hst]
    · simp only [List.size_toArray, List.length_append, List.length_take, List.length_drop, Array.length_toList, hlen]
      omega
    · rw [← htake, List.append_assoc]
      rw [List.take_append_of_le_length (by rw [List.length_take, Array.length_toList]; omega), List.take_take]
      simp
/-- The same at the operation. -/
theorem wpList_clear_own {ops : Array Oper} {rest : List Oper} {o : Oper} {a : Act} {Q : Exit → Act → World → Prop} {w : World} (hgd : o.guard = none) (s : Operand) (t e : TypeId) (z : Value) (size : Nat)
    (ho : o.op = .call { callee := .builtin .clear, args := #[s], argTypes := #[t] }) (ht : Tryz.prog.underlying t = some (.slice e)) (hz : ∀ w, (zeroValue e).run Tryz.prog w = .ok z w) (hzs : z.cells.size = size) (hsz : 0 < size) (h1 : ∀ u ∈ z.cells.toList, u.oneCell' = true)
    {B k g n cap c : Nat} {xs : List Value} (hx : a.eval s = .slice (some ⟨g, k * size, none⟩) n c) (hown : w.ownsRow B e size (.slice (some ⟨g, 0, none⟩) k cap) k xs) (hn : k + n ≤ cap) (hn0 : 0 < n)
    (h : ∀ w', w'.ownsRow B e size (.slice (some ⟨g, 0, none⟩) k cap) k xs → w.grownBy w' (some g) → wpList Tryz.prog ops Q rest (a.put o.dst (.tuple #[])) w') :
    wpList Tryz.prog ops Q (o :: rest) a w := by
  refine wpList_plain hgd fun K hK => ?_
  obtain ⟨w', hr, h2, h3⟩ := run_clear_own (P := Tryz.prog) (ty := o.type) ht hz hzs hsz h1 hown hn hn0 c
  unfold Oper.wp execOp
  simp only [ho, resolve, invoke, builtin, Sem.run_bind, Sem.run_pure, Result.andThen_ok, List.map_toArray, List.map_cons, List.map_nil, hx, hr]
  exact hK _ _ (h w' h2 h3)
/-- A function that is told by a number enters. -/
theorem enters {f : FuncId} {fn : Func} {c : Code} (hf : Tryz.prog.funcs[f]? = some fn) (hname : (fn.name == "runtime.NumGoroutine") = false) (hb : fn.body = some c) (args : Array Value) (w : World) : (callFunc f args).run Tryz.prog w = .ok (.enter f args) w := by
  have h1 : fn.name ≠ "runtime.NumGoroutine" := by simpa using hname
  simp [callFunc, hf, h1, hb, mark]
end Go.Proofs.YtckhddndeojobaaGreat
