/- Maps from whole numbers, in memory, whatever they lead to: looked up, put, deleted, cleared, gone over. -/
import Derived.Test.YtckhddndeojobaaGreatOff
import Derived.Test.YtckhddndeojobaaGreatLokM
import Derived.Test.YtckhddndeojobaaGreatMapP
import Derived.Maps.Ext
import Derived.Maps.RangeWalk
import Derived.Maps.OwnSet
import Derived.Sort.KeysCollected
import Derived.OwnWalk
import Derived.Laws.IdiomRangeMap
namespace Go.Proofs.YtckhddndeojobaaGreat
open Go.RowKit Go.Maps Go.Lk Go.MapKept
open Go.ChangeMaps (setBlock heap_setBlock_same heap_setBlock_other)
set_option linter.unusedVariables false
set_option linter.unusedSimpArgs false
set_option maxRecDepth 100000

section
variable {α : Type}
open Classical in
/-- How a value is told that is one of enc's. -/
noncomputable def Rvm (enc : α → Value) : Value → Option (DataW α × List MemPlace) := fun v => if h : ∃ a, v = enc a then some (.held h.choose, []) else none
def Inj (enc : α → Value) : Prop := ∀ a b, enc a = enc b → a = b
theorem Rvm_mk {enc : α → Value} (hi : Inj enc) (a : α) : Rvm enc (enc a) = some (.held a, []) := by
  have h : ∃ b, enc a = enc b := ⟨a, rfl⟩
  unfold Rvm
  rw [dif_pos h, hi _ _ h.choose_spec.symm]
theorem Rvm_inv {enc : α → Value} {v : Value} {z : DataW α × List MemPlace} (h : Rvm enc v = some z) : ∃ a, v = enc a ∧ z = (.held a, []) := by
  unfold Rvm at h
  split at h
  · rename_i e
    injection h with h
    exact ⟨e.choose, e.choose_spec, h.symm⟩
  · cases h
/-- Block mb is a map of whole numbers; f says to what each leads. -/
def Mv (enc : α → Value) (w : World) (mb : Nat) (f : Int → Option α) : Prop :=
  ∃ D : DataW α, w.ownsMap Tryz.prog 3 (Rvm enc) mb (Go.Maps.size D) D ∧ (∀ x, has D (.int .i64 x) = (f x).isSome) ∧ ∀ x a, f x = some a → ∀ zd, D.atKey (.int .i64 x) zd = .held a
variable {enc : α → Value}
theorem mv_tight {w : World} {mb n : Nat} {D : DataW α} (h : w.ownsMap Tryz.prog 3 (Rvm enc) mb n D) : w.ownsMap Tryz.prog 3 (Rvm enc) mb (Go.Maps.size D) D := by
  obtain ⟨es, clock, hb, F, hs, rfl⟩ := h
  refine ⟨es, clock, hb, F, ?_, rfl⟩
  show es.size ≤ ((es.toList.map _).foldr DataW.insert []).length
  rw [length_sorted]
  simp
theorem Mv.made (w : World) : Mv enc (w.alloc (.map #[] 0)) w.heap.size fun _ => none := ⟨.map [], World.ownsMap_made w Tryz.prog 3 (Rvm enc), fun x => rfl, fun x r h => by cases h⟩
variable {w : World} {mb : Nat} {f : Int → Option α}
theorem Mv.lt (h : Mv enc w mb f) : mb < w.heap.size := by obtain ⟨D, h, -⟩ := h; exact h.lt
theorem Mv.at {w' : World} (h : Mv enc w mb f) (he : w'.heap[mb]? = w.heap[mb]?) : Mv enc w' mb f := by
  obtain ⟨D, ⟨es, clock, hb, r⟩, hD⟩ := h
  exact ⟨D, ⟨es, clock, he.trans hb, r⟩, hD⟩
theorem Mv.call {w' : World} (h : Mv enc w mb f) (hb : Below w.heap.size w w') : Mv enc w' mb f := h.at (hb.block mb h.lt)
theorem Mv.notCells {g : Nat} {t : TypeId} {cs : Array Value} {fr : Nat × Nat} (h : Mv enc w mb f) (hg : w.heap[g]? = some (.cells cs t fr)) : mb ≠ g := by
  intro e
  subst e
  obtain ⟨D, ⟨es, clock, hb, r⟩, hD⟩ := h
  rw [hb] at hg
  cases hg
theorem Mv.congr {g : Int → Option α} (h : Mv enc w mb f) (e : ∀ x, g x = f x) : Mv enc w mb g := by
  have : g = f := funext e
  rw [this]
  exact h
/-- The keys, each once. -/
theorem mv_keys {n : Nat} {D : DataW α} (h : w.ownsMap Tryz.prog 3 (Rvm enc) mb n D) : ∃ L : List Int, L.Nodup ∧ L.length = Go.Maps.size D ∧ (∀ x, x ∈ L ↔ has D (.int .i64 x) = true) ∧ ∀ x ∈ L, W64 x := by
  obtain ⟨es, rfl, hap, -⟩ := h.entries ikey_law
  obtain ⟨es', he, hk⟩ := h.keysOf
  injection he with he
  subst he
  have hint : ∀ p ∈ es, p.1 = .int .i64 (litInt p.1) ∧ W64 (litInt p.1) := fun p hp => by
    obtain ⟨v, hv⟩ := hk p hp
    obtain ⟨x, -, hx, hwf⟩ := Maps.keyOf_int_inv Tryz.underlying3 hv
    rw [hx]; exact ⟨rfl, bounds_i64 hwf⟩
  refine ⟨es.map fun p => litInt p.1, ?_, by rw [List.length_map, size_eq], fun x => ?_, fun x hx => ?_⟩
  · refine List.pairwise_map.2 (hap.imp_of_mem fun {p q} hp hq hne e => hne ?_)
    rw [(hint p hp).1, (hint q hq).1, e]
  · rw [has_eq, List.any_eq_true, List.mem_map]
    constructor
    · rintro ⟨p, hp, rfl⟩
      exact ⟨p, hp, by rw [(hint p hp).1]; simp [Lit.sameKey, litInt]⟩
    · rintro ⟨p, hp, hs⟩
      refine ⟨p, hp, ?_⟩
      rw [(hint p hp).1] at hs
      simpa [Lit.sameKey] using hs
  · obtain ⟨p, hp, rfl⟩ := List.mem_map.1 hx
    exact (hint p hp).2
theorem Mv.fin (h : Mv enc w mb f) : Fin1 f := by
  obtain ⟨D, h, h1, -⟩ := h
  obtain ⟨L, -, -, l3, -⟩ := mv_keys h
  exact .of_list L fun x hx => (l3 x).2 (by rw [h1, hx])
theorem Mv.key64 (h : Mv enc w mb f) {x : Int} (hx : (f x).isSome = true) : W64 x := by
  obtain ⟨D, h, h1, -⟩ := h
  obtain ⟨L, -, -, l3, l4⟩ := mv_keys h
  exact l4 x ((l3 x).2 (by rw [h1, hx]))
theorem mv_len {l m : List Int} (hl : l.Nodup) (hm : m.Nodup) (h : ∀ x, x ∈ l ↔ x ∈ m) : l.length = m.length := ((List.perm_ext_iff_of_nodup hl hm).2 h).length_eq
theorem mv_size {D : DataW α} {n : Nat} (h : w.ownsMap Tryz.prog 3 (Rvm enc) mb n D) (h1 : ∀ x, has D (.int .i64 x) = (f x).isSome) : Go.Maps.size D = (supp f).length := by
  obtain ⟨L, l1, l2, l3, -⟩ := mv_keys h
  have hf : Fin1 f := .of_list L fun x hx => (l3 x).2 (by rw [h1, hx])
  rw [← l2]
  exact mv_len l1 (supp_rises hf).nodup fun x => by rw [l3, h1, supp_mem hf]
theorem Mv.look (hi : Inj enc) (h : Mv enc w mb f) {t e : TypeId} (ht : Tryz.prog.underlying t = some (.map 3 e)) {a0 : α} (hz : (zeroValue e).run Tryz.prog w = .ok (enc a0) w) {x : Int} (hx : W64 x) :
    (Instr.lookup t (.map (some mb)) (.int .i64 x) true).run Tryz.prog w = .ok (.tuple #[enc ((f x).getD a0), .bool (f x).isSome]) w ∧ (Instr.lookup t (.map (some mb)) (.int .i64 x) false).run Tryz.prog w = .ok (enc ((f x).getD a0)) w := by
  obtain ⟨D, hD, h1, h2⟩ := h
  have hat : D.atKey (.int .i64 x) (.held a0) = .held ((f x).getD a0) := by
    cases hf : f x with
    | some a => exact h2 x a hf _
    | none => exact atKey_of_not_has (by rw [h1, hf]; rfl) _
  constructor
  · obtain ⟨v, ps, hrun, hv⟩ := hD.look_ok ikey_law ht hz (Rvm_mk hi a0) (ikey_of hx)
    rw [hat] at hv
    rw [hrun, h1]
    obtain ⟨a, rfl, hp⟩ := Rvm_inv hv
    injection hp with hp
    injection hp with hp
    rw [hp]
  · obtain ⟨v, ps, hrun, hv⟩ := hD.lookup ikey_law ht hz (Rvm_mk hi a0) (ikey_of hx)
    rw [hat] at hv
    rw [hrun]
    obtain ⟨a, rfl, hp⟩ := Rvm_inv hv
    injection hp with hp
    injection hp with hp
    rw [hp]
theorem Mv.put (hi : Inj enc) (h : Mv enc w mb f) {t e : TypeId} (ht : Tryz.prog.underlying t = some (.map 3 e)) {x : Int} (hx : W64 x) (a : α) (hn : (supp f).length ≤ 1000000000) :
    ∃ w', (Instr.mapUpdate t (.map (some mb)) (.int .i64 x) (enc a)).run Tryz.prog w = .ok () w' ∧ Mv enc w' mb (upd f x (some a)) ∧ w.grownBy w' (some mb) ∧ w'.heap.size = w.heap.size := by
  obtain ⟨D, hD, h1, h2⟩ := h
  have hs := mv_size hD h1
  obtain ⟨w', hr, ho, hturn⟩ := hD.store ikey_law ht (by unfold maxLen; omega) (ikey_of hx) (Rvm_mk hi a)
  refine ⟨w', hr, ⟨_, mv_tight ho, fun y => ?_, fun y r' hy zd => ?_⟩, hturn.grown, ?_⟩
  · show has _ _ = (if y = x then some a else f y).isSome
    by_cases e : y = x
    · subst e
      rw [if_pos rfl]
      exact has_put_same (k := .int .i64 y) hD.isMap trivial _
    · rw [if_neg e, has_put_other (by intro h; injection h; contradiction), h1]
  · replace hy : (if y = x then some a else f y) = some r' := hy
    by_cases e : y = x
    · subst e
      rw [if_pos rfl] at hy
      injection hy with hy
      subst hy
      exact atKey_put_same (k := .int .i64 y) hD.isMap trivial _ _
    · rw [if_neg e] at hy
      rw [atKey_put_other (by intro h; injection h; contradiction)]
      exact h2 y r' hy zd
  · obtain ⟨es, clock, es', clock', hb, rfl⟩ := hturn
    simp [setBlock]
theorem Mv.drop (h : Mv enc w mb f) {t e : TypeId} (ht : Tryz.prog.underlying t = some (.map 3 e)) {x : Int} (hx : W64 x) (ty : TypeId) :
    ∃ w', (Builtin.delete_ #[t, 3] ty #[.map (some mb), .int .i64 x]).run Tryz.prog w = .ok (.tuple #[]) w' ∧ Mv enc w' mb (upd f x none) ∧ w.grownBy w' (some mb) ∧ w'.heap.size = w.heap.size := by
  obtain ⟨D, hD, h1, h2⟩ := h
  obtain ⟨w', hr, ho, hturn⟩ := hD.drop ikey_law ht (ikey_of hx) ty
  have ho2 := mv_tight ho
  refine ⟨w', hr, ⟨_, ho2, fun y => ?_, fun y r' hy zd => ?_⟩, hturn.grown, ?_⟩
  · show has _ _ = (if y = x then none else f y).isSome
    by_cases e : y = x
    · subst e
      rw [if_pos rfl]
      exact has_del_same
    · rw [if_neg e, has_del_other (by intro h; injection h; contradiction), h1]
  · replace hy : (if y = x then none else f y) = some r' := hy
    by_cases e : y = x
    · rw [if_pos e] at hy; cases hy
    · rw [if_neg e] at hy
      rw [atKey_del_other (by intro h; injection h; contradiction)]
      exact h2 y r' hy zd
  · obtain ⟨es, clock, es', clock', hb, rfl⟩ := hturn
    simp [setBlock]
theorem Mv.len (h : Mv enc w mb f) {t e : TypeId} (ht : Tryz.prog.underlying t = some (.map 3 e)) (ty : TypeId) : (Builtin.len_ #[t] ty #[.map (some mb)]).run Tryz.prog w = .ok (.int .i64 ((supp f).length : Nat)) w := by
  obtain ⟨D, hD, h1, h2⟩ := h
  rw [← mv_size hD h1]
  exact hD.len ht ty
theorem Mv.clear (h : Mv enc w mb f) {t e : TypeId} (ht : Tryz.prog.underlying t = some (.map 3 e)) (ty : TypeId) :
    ∃ w', (Builtin.clear_ #[t] ty #[.map (some mb)]).run Tryz.prog w = .ok (.tuple #[]) w' ∧ Mv enc w' mb (fun _ => none) ∧ w.grownBy w' (some mb) ∧ w'.heap.size = w.heap.size := by
  obtain ⟨D, ⟨es, clock, hb, F, hs, rfl⟩, h1, h2⟩ := h
  refine ⟨setBlock w mb (.map #[] clock), ?_, ⟨.map [], ⟨#[], clock, heap_setBlock_same hb _, ⟨by simp, stamped_empty _, by simp⟩, Nat.le_refl _, rfl⟩, fun x => rfl, fun x a h => by cases h⟩, ⟨rfl, rfl, rfl, by simp [setBlock], fun i _ hi => heap_setBlock_other hb _ fun e => hi (by rw [e])⟩, by simp [setBlock]⟩
  simp [Builtin.clear_, run_underlying ht, MapKept.run_getObj_map hb, MapKept.run_setObj_map _ hb, Result.andThen, setBlock]

/-! ### A map is gone over -/
/-- 'range' under way over the map mb: those of L have come, cnt are still to come. -/
def Rn (enc : α → Value) (w : World) (mb r : Nat) (f : Int → Option α) (L : List Int) (cnt : Nat) : Prop :=
  ∃ (D : DataW α) (left : Lit → Bool), w.ranges Tryz.prog 3 (Rvm enc) mb r (Go.Maps.size D) D left cnt ∧ (∀ x, has D (.int .i64 x) = (f x).isSome) ∧ (∀ x a, f x = some a → ∀ zd, D.atKey (.int .i64 x) zd = .held a) ∧
    L.Nodup ∧ ∀ x, x ∈ L ↔ (has D (.int .i64 x) = true ∧ left (.int .i64 x) = false)
section
variable {r cnt : Nat} {L : List Int}
theorem Rn.kept {w' : World} {row : Option Nat} (h : Rn enc w mb r f L cnt) (hg : w.grownBy w' row) (hb : some mb ≠ row) (hr : some r ≠ row) : Rn enc w' mb r f L cnt := by
  obtain ⟨D, left, h1, h2⟩ := h
  exact ⟨D, left, h1.kept hg hb hr, h2⟩
theorem Rn.alloc (h : Rn enc w mb r f L cnt) (o : Obj) : Rn enc (w.alloc o) mb r f L cnt := h.kept (World.grownBy_alloc w o none) (by simp) (by simp)
theorem Rn.lt (h : Rn enc w mb r f L cnt) : r < w.heap.size := by obtain ⟨D, left, h, -⟩ := h; exact h.lt
theorem Rn.ne (h : Rn enc w mb r f L cnt) : r ≠ mb := by obtain ⟨D, left, h, -⟩ := h; exact h.ne
theorem Rn.mv (h : Rn enc w mb r f L cnt) : Mv enc w mb f := by obtain ⟨D, left, h, h1, h2, -⟩ := h; exact ⟨D, h.owns, h1, h2⟩
theorem Rn.measure (h : Rn enc w mb r f L cnt) : w.rangeLeft mb r = cnt := by obtain ⟨D, left, h, -⟩ := h; exact h.left_eq
theorem Rn.off {w' : World} {F : Nat → Prop} (h : Rn enc w mb r f L cnt) (ho : Off F w w') (hb : ¬ F mb) (hr : ¬ F r) : Rn enc w' mb r f L cnt := by
  obtain ⟨D, left, ⟨es, clock, since, seen, c0, k1, k2, k3, k4, k5, k6⟩, h2⟩ := h
  have l1 := (Array.getElem?_eq_some_iff.1 k1).1
  have l2 := (Array.getElem?_eq_some_iff.1 k5).1
  exact ⟨D, left, ⟨es, clock, since, seen, c0, (ho.block mb l1 hb).trans k1, k2, k3, k4, (ho.block r l2 hr).trans k5, k6⟩, h2⟩
theorem Rn.call {w' : World} (h : Rn enc w mb r f L cnt) (hb : Below w.heap.size w w') : Rn enc w' mb r f L cnt := h.off (.of hb fun _ => False) (fun h => h) fun h => h
theorem Rn.sub (h : Rn enc w mb r f L cnt) : L.Nodup ∧ ∀ x ∈ L, (f x).isSome = true := by
  obtain ⟨D, left, -, h1, -, h3, h4⟩ := h
  exact ⟨h3, fun x hx => by rw [← h1]; exact ((h4 x).1 hx).1⟩
end
variable (w) {ops : Array Oper} {rest : List Oper} {o : Oper} {a : Act} {Q : Exit → Act → World → Prop}
theorem wpList_range_mv (hg : o.guard = none) (m : Operand) (t : TypeId) (hop : o.op = Op.range t m) (e : TypeId) (ht : Tryz.prog.underlying t = some (.map 3 e)) (hm : a.eval m = .map (some mb)) (h : Mv enc w mb f)
    (hK : ∀ w', Rn enc w' mb w.heap.size f [] (supp f).length → w.grownBy w' none → w'.heap.size = w.heap.size + 1 → wpList Tryz.prog ops Q rest (a.put o.dst (.pointer (some ⟨w.heap.size, 0, none⟩))) w') :
    wpList Tryz.prog ops Q (o :: rest) a w := by
  obtain ⟨D, hD, h1, h2⟩ := h
  refine wpList_range_own _ hg m t hop 3 e ikey_law ht (Rvm enc) mb (Go.Maps.size D) D hm hD fun w' hr hgr hs => ?_
  exact hK w' ⟨D, _, by rw [← mv_size hD h1]; exact hr, h1, h2, List.nodup_nil, fun x => by cases has D (.int .i64 x) <;> simp⟩ hgr hs
theorem wpList_next_mv (hi : Inj enc) (hg : o.guard = none) (it : Operand) (hop : o.op = Op.next it false) (r cnt : Nat) (L : List Int) (hit : a.eval it = .pointer (some ⟨r, 0, none⟩)) (h : Rn enc w mb r f L cnt)
    (hDone : cnt = 0 → L.Nodup → (∀ x, x ∈ L ↔ (f x).isSome = true) → wpList Tryz.prog ops Q rest (a.put o.dst (.tuple #[.bool false])) w)
    (hMore : ∀ (x : Int) (c : α) (w' : World) (cnt' : Nat), f x = some c → x ∉ L → W64 x → Rn enc w' mb r f (L ++ [x]) cnt' → cnt' < cnt → w.grownBy w' (some r) → w'.heap.size = w.heap.size → (Instr.entry (.pointer (some ⟨r, 0, none⟩))).run Tryz.prog w' = .ok (.tuple #[.int .i64 x, enc c]) w' →
      wpList Tryz.prog ops Q rest (a.put o.dst (.tuple #[.bool true, .int .i64 x, enc c])) w') :
    wpList Tryz.prog ops Q (o :: rest) a w := by
  obtain ⟨D, left, hr, h1, h2, h3, h4⟩ := h
  refine wpList_next_ranges _ hg it hop 3 ikey_law (Rvm enc) (Value.int .i64) enc (fun key kl hk => by obtain ⟨y, hy, _, _⟩ := Maps.keyOf_int_inv Tryz.underlying3 hk; exact ⟨y, hy⟩) (fun v y hv => by obtain ⟨c, hc, _⟩ := Rvm_inv hv; exact ⟨c, hc⟩) mb r (Go.Maps.size D) D left cnt hit hr (fun hc hl => ?_) fun x c kl y w' cnt' hkey hlk hv hat hrg hlt hgr hs hen => ?_
  · exact hDone hc h3 fun x => by rw [h4 x, hl, h1]; simp
  · obtain ⟨x', ex, rfl, hwf⟩ := Maps.keyOf_int_inv Tryz.underlying3 hkey
    obtain rfl : x = x' := by injection ex
    have hhas : has D (.int .i64 x) = true := has_true_of_atKey hat
    have hnew : x ∉ L := fun hx => by have := ((h4 x).1 hx).2; rw [hlk] at this; cases this
    have hfx : f x = some c := by
      obtain ⟨c0, hc0⟩ := Option.isSome_iff_exists.1 (show (f x).isSome = true by rw [← h1]; exact hhas)
      have e1 := h2 x c0 hc0 (.held c0)
      rw [hat] at e1
      obtain ⟨c1, e2, e3⟩ := Rvm_inv hv
      rw [e3] at e1
      injection e1 with e1
      rw [hc0, ← e1]
      rw [hi _ _ e2]
    refine hMore x c w' cnt' hfx hnew (bounds_i64 hwf) ⟨D, _, hrg, h1, h2, List.nodup_append.2 ⟨h3, by simp, fun a ha b hb => by simp at hb; subst hb; exact fun e => hnew (e ▸ ha)⟩, fun y => ?_⟩ hlt hgr hs hen
    by_cases hy : y = x
    · subst hy; simp [hhas, Lit.sameKey]
    · simp [h4 y, hy, Lit.sameKey]
/-! ### A map that may be nil -/
/-- The map o, which may be nil, leads as f says. -/
def Mo (enc : α → Value) (w : World) (o : Option Nat) (f : Int → Option α) : Prop := (o = none ∧ ∀ x, f x = none) ∨ ∃ mb, o = some mb ∧ Mv enc w mb f
variable {w}
variable {mo : Option Nat}
theorem Mo.call {w' : World} (h : Mo enc w mo f) (hb : Below w.heap.size w w') : Mo enc w' mo f := by
  rcases h with h | ⟨mb, h1, h2⟩
  · exact .inl h
  · exact .inr ⟨mb, h1, h2.call hb⟩
theorem Mo.fin (h : Mo enc w mo f) : Fin1 f := by
  rcases h with ⟨-, h⟩ | ⟨mb, -, h2⟩
  · exact .of_list [] fun x hx => by rw [h] at hx; cases hx
  · exact h2.fin
theorem Mo.key64 (h : Mo enc w mo f) {x : Int} (hx : (f x).isSome = true) : W64 x := by
  rcases h with ⟨-, h⟩ | ⟨mb, -, h2⟩
  · rw [h] at hx; cases hx
  · exact h2.key64 hx
theorem Mo.look (hi : Inj enc) (h : Mo enc w mo f) {t e : TypeId} (ht : Tryz.prog.underlying t = some (.map 3 e)) {a0 : α} (hz : (zeroValue e).run Tryz.prog w = .ok (enc a0) w) {x : Int} (hx : W64 x) :
    (Instr.lookup t (.map mo) (.int .i64 x) true).run Tryz.prog w = .ok (.tuple #[enc ((f x).getD a0), .bool (f x).isSome]) w ∧ (Instr.lookup t (.map mo) (.int .i64 x) false).run Tryz.prog w = .ok (enc ((f x).getD a0)) w := by
  rcases h with ⟨rfl, h⟩ | ⟨mb, rfl, h2⟩
  · rw [h]
    exact ⟨Maps.look_nil true ikey_law ht hz (ikey_of hx), Maps.look_nil false ikey_law ht hz (ikey_of hx)⟩
  · exact h2.look hi ht hz hx
theorem Mo.len (h : Mo enc w mo f) {t e : TypeId} (ht : Tryz.prog.underlying t = some (.map 3 e)) (ty : TypeId) : (Builtin.len_ #[t] ty #[.map mo]).run Tryz.prog w = .ok (.int .i64 ((supp f).length : Nat)) w := by
  rcases h with ⟨rfl, h⟩ | ⟨mb, rfl, h2⟩
  · have : supp f = [] := supp_eq List.Pairwise.nil fun x => by rw [h]; simp
    rw [this]
    exact Maps.len_nil ht ty
  · exact h2.len ht ty
/-- 'range' under way over it. -/
def Ro (enc : α → Value) (w : World) (mo : Option Nat) (r : Nat) (f : Int → Option α) (L : List Int) (cnt : Nat) : Prop :=
  (mo = none ∧ w.heap[r]? = some (.mapIter none 0 #[] 0) ∧ (∀ x, f x = none) ∧ L = [] ∧ cnt = 0) ∨ ∃ mb, mo = some mb ∧ Rn enc w mb r f L cnt
/-- How many are still to come. -/
def leftO (mo : Option Nat) (r : Nat) (w : World) : Nat := match mo with
  | none => 0
  | some mb => w.rangeLeft mb r
variable {r cnt : Nat} {L : List Int}
theorem Ro.measure (h : Ro enc w mo r f L cnt) : leftO mo r w = cnt := by
  rcases h with ⟨rfl, -, -, -, h⟩ | ⟨mb, rfl, h⟩
  · exact h.symm
  · exact h.measure
theorem Ro.lt (h : Ro enc w mo r f L cnt) : r < w.heap.size := by
  rcases h with ⟨-, h, -⟩ | ⟨mb, -, h⟩
  · exact (Array.getElem?_eq_some_iff.1 h).1
  · exact h.lt
theorem Ro.off {w' : World} {F : Nat → Prop} (h : Ro enc w mo r f L cnt) (ho : Off F w w') (hb : ∀ mb, mo = some mb → ¬ F mb) (hr : ¬ F r) : Ro enc w' mo r f L cnt := by
  rcases h with ⟨h1, h2, h3⟩ | ⟨mb, h1, h2⟩
  · exact .inl ⟨h1, (ho.block r (Array.getElem?_eq_some_iff.1 h2).1 hr).trans h2, h3⟩
  · exact .inr ⟨mb, h1, h2.off ho (hb mb h1) hr⟩
theorem Ro.call {w' : World} (h : Ro enc w mo r f L cnt) (hb : Below w.heap.size w w') : Ro enc w' mo r f L cnt := h.off (.of hb fun _ => False) (fun _ _ h => h) fun h => h
theorem Ro.sub (h : Ro enc w mo r f L cnt) : L.Nodup ∧ ∀ x ∈ L, (f x).isSome = true := by
  rcases h with ⟨-, -, -, rfl, -⟩ | ⟨mb, -, h⟩
  · exact ⟨List.nodup_nil, fun x hx => by cases hx⟩
  · exact h.sub
/-- Its iterator isn't the block of a row. -/
theorem Ro.notCells {g : Nat} {t : TypeId} {cs : Array Value} {fr : Nat × Nat} (h : Ro enc w mo r f L cnt) (hg : w.heap[g]? = some (.cells cs t fr)) : r ≠ g := by
  intro e
  subst e
  rcases h with ⟨-, h, -⟩ | ⟨mb, -, D, left, ⟨es, clock, since, seen, c0, k1, k2, k3, k4, k5, k6⟩, h2⟩
  · rw [h] at hg; cases hg
  · rw [k5] at hg; cases hg
theorem Ro.notMap {g : Nat} {β : Type} {enc' : β → Value} {f' : Int → Option β} (h : Ro enc w mo r f L cnt) (hg : Mv enc' w g f') : r ≠ g := by
  intro e
  subst e
  obtain ⟨D', ⟨es', clock', hb, -⟩, -⟩ := hg
  rcases h with ⟨-, h, -⟩ | ⟨mb, -, D, left, ⟨es, clock, since, seen, c0, k1, k2, k3, k4, k5, k6⟩, h2⟩
  · rw [h] at hb; cases hb
  · rw [k5] at hb; cases hb
variable (w)
theorem wpList_range_mo (hg : o.guard = none) (m : Operand) (t : TypeId) (hop : o.op = Op.range t m) (e : TypeId) (ht : Tryz.prog.underlying t = some (.map 3 e)) (hm : a.eval m = .map mo) (h : Mo enc w mo f)
    (hK : ∀ w', Ro enc w' mo w.heap.size f [] (supp f).length → Below w.heap.size w w' → w'.heap.size = w.heap.size + 1 → wpList Tryz.prog ops Q rest (a.put o.dst (.pointer (some ⟨w.heap.size, 0, none⟩))) w') :
    wpList Tryz.prog ops Q (o :: rest) a w := by
  rcases h with ⟨rfl, h⟩ | ⟨mb, rfl, h⟩
  · refine wpList_plain hg fun K' hK' => ?_
    have hrun := run_range_nilMap (P := Tryz.prog) w t 3 e ht
    have hs : supp f = [] := supp_eq List.Pairwise.nil fun x => by rw [h]; simp
    rw [hs] at hK
    unfold Oper.wp
    simp [execOp, hop, hm, hrun, Result.andThen]
    exact hK' _ _ (hK _ (.inl ⟨rfl, heap_alloc_new w _, h, rfl, rfl⟩) ((Below.refl _ _).alloc (Nat.le_refl _) _) (by simp))
  · exact wpList_range_mv w hg m t hop e ht hm h fun w' h1 h2 h3 => hK w' (.inr ⟨mb, rfl, h1⟩) ((Below.refl _ _).grown h2 (Nat.le_refl _) fun j hj => by cases hj) h3
theorem wpList_next_mo (hi : Inj enc) (hg : o.guard = none) (it : Operand) (hop : o.op = Op.next it false) (r cnt : Nat) (L : List Int) (hit : a.eval it = .pointer (some ⟨r, 0, none⟩)) (h : Ro enc w mo r f L cnt)
    (hDone : cnt = 0 → L.Nodup → (∀ x, x ∈ L ↔ (f x).isSome = true) → wpList Tryz.prog ops Q rest (a.put o.dst (.tuple #[.bool false])) w)
    (hMore : ∀ (x : Int) (c : α) (w' : World) (cnt' : Nat), f x = some c → x ∉ L → W64 x → Ro enc w' mo r f (L ++ [x]) cnt' → cnt' < cnt → Off (fun b => b = r) w w' → w'.heap.size = w.heap.size → (Instr.entry (.pointer (some ⟨r, 0, none⟩))).run Tryz.prog w' = .ok (.tuple #[.int .i64 x, enc c]) w' →
      wpList Tryz.prog ops Q rest (a.put o.dst (.tuple #[.bool true, .int .i64 x, enc c])) w') :
    wpList Tryz.prog ops Q (o :: rest) a w := by
  rcases h with ⟨rfl, h1, h2, rfl, rfl⟩ | ⟨mb, rfl, h⟩
  · refine wpList_plain hg fun K' hK' => ?_
    have hrun : ∀ ty, (Instr.next (.pointer (some ⟨r, 0, none⟩)) false ty).run Tryz.prog w = .ok (.tuple #[.bool false]) w := fun ty => by
      simp only [Instr.next, getObj, Sem.run_bind, Sem.run, h1, Result.andThen]
      rfl
    unfold Oper.wp
    simp [execOp, hop, hit, hrun, Result.andThen]
    exact hK' _ _ (hDone rfl List.nodup_nil fun x => by rw [h2]; simp)
  · exact wpList_next_mv w hi hg it hop r cnt L hit h hDone fun x c w' cnt' k1 k2 k3 k4 k5 k6 k7 k8 => hMore x c w' cnt' k1 k2 k3 (.inr ⟨mb, rfl, k4⟩) k5 (.grown (Off.refl _ w) k6 fun g hg => by injection hg with hg; exact .inl hg.symm) k7 k8
theorem wpList_delete_mv (hg : o.guard = none) (m x : Operand) (t : TypeId) (hop : o.op = Op.call { callee := Callee.builtin Builtin.delete, args := #[m, x], argTypes := #[t, 3] }) (e : TypeId) (ht : Tryz.prog.underlying t = some (.map 3 e))
    (mb : Nat) (f : Int → Option α) (hm : a.eval m = .map (some mb)) (h : Mv enc w mb f) (key : Int) (hx : a.eval x = .int .i64 key) (h64 : W64 key)
    (hK : ∀ w', Mv enc w' mb (upd f key none) → Off (fun b => b = mb) w w' → w'.heap.size = w.heap.size → wpList Tryz.prog ops Q rest (a.put o.dst (.tuple #[])) w') :
    wpList Tryz.prog ops Q (o :: rest) a w := by
  refine wpList_plain hg fun K' hK' => ?_
  obtain ⟨w', hrun, r1, r2, r3⟩ := h.drop ht h64 o.type
  unfold Oper.wp
  simp [execOp, hop, resolve, invoke, builtin, hm, hx, hrun, Result.andThen]
  exact hK' _ _ (hK w' r1 (.grown (Off.refl _ w) r2 fun g hg => by injection hg with hg; exact .inl hg.symm) r3)
theorem wpList_clear_mv (hg : o.guard = none) (m : Operand) (t : TypeId) (hop : o.op = Op.call { callee := Callee.builtin Builtin.clear, args := #[m], argTypes := #[t] }) (e : TypeId) (ht : Tryz.prog.underlying t = some (.map 3 e))
    (mb : Nat) (f : Int → Option α) (hm : a.eval m = .map (some mb)) (h : Mv enc w mb f)
    (hK : ∀ w', Mv enc w' mb (fun _ => none) → Off (fun b => b = mb) w w' → w'.heap.size = w.heap.size → wpList Tryz.prog ops Q rest (a.put o.dst (.tuple #[])) w') :
    wpList Tryz.prog ops Q (o :: rest) a w := by
  refine wpList_plain hg fun K' hK' => ?_
  obtain ⟨w', hrun, r1, r2, r3⟩ := h.clear ht o.type
  unfold Oper.wp
  simp [execOp, hop, resolve, invoke, builtin, hm, hrun, Result.andThen]
  exact hK' _ _ (hK w' r1 (.grown (Off.refl _ w) r2 fun g hg => by injection hg with hg; exact .inl hg.symm) r3)
theorem wpList_put_mv (hi : Inj enc) (hg : o.guard = none) (m x v : Operand) (t : TypeId) (hop : o.op = Op.mapUpdate t m x v) (e : TypeId) (ht : Tryz.prog.underlying t = some (.map 3 e))
    (mb : Nat) (f : Int → Option α) (hm : a.eval m = .map (some mb)) (h : Mv enc w mb f) (key : Int) (hx : a.eval x = .int .i64 key) (h64 : W64 key) (c : α) (hv : a.eval v = enc c) (hn : (supp f).length ≤ 1000000000)
    (hK : ∀ w', Mv enc w' mb (upd f key (some c)) → Off (fun b => b = mb) w w' → w'.heap.size = w.heap.size → wpList Tryz.prog ops Q rest (a.put o.dst undef) w') :
    wpList Tryz.prog ops Q (o :: rest) a w := by
  refine wpList_plain hg fun K' hK' => ?_
  obtain ⟨w', hrun, r1, r2, r3⟩ := h.put hi ht h64 c hn
  unfold Oper.wp
  simp [execOp, hop, hm, hx, hv, hrun, Result.andThen]
  exact hK' _ _ (hK w' r1 (.grown (Off.refl _ w) r2 fun g hg => by injection hg with hg; exact .inl hg.symm) r3)
theorem wpList_len_mo (hg : o.guard = none) (m : Operand) (t : TypeId) (hop : o.op = Op.call { callee := Callee.builtin Builtin.len, args := #[m], argTypes := #[t] }) (e : TypeId) (ht : Tryz.prog.underlying t = some (.map 3 e)) (hm : a.eval m = .map mo) (h : Mo enc w mo f)
    (hK : wpList Tryz.prog ops Q rest (a.put o.dst (.int .i64 ((supp f).length : Nat))) w) : wpList Tryz.prog ops Q (o :: rest) a w := by
  refine wpList_plain hg fun K' hK' => ?_
  have hrun := h.len ht o.type
  unfold Oper.wp
  simp [execOp, hop, resolve, invoke, builtin, hm, hrun, Result.andThen]
  exact hK' _ _ hK
end
end Go.Proofs.YtckhddndeojobaaGreat
