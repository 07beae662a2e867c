/- Regions that draw their order, by what holds once each operation has come: whatever the order, each operation is looked at once. (No types of a layer.) -/
import Derived.Test.YtckhddndeojobaaGreatTail
namespace Go.Iv
set_option linter.unusedVariables false
section
variable {P : Program} {ops : Array Oper} {Q : Exit → Act → World → Prop}

/-- One more operation has come. -/
def upd (f : Nat → Bool) (i : Nat) : Nat → Bool := fun k => if k = i then true else f k
theorem upd_same (f : Nat → Bool) (i : Nat) : upd f i i = true := by simp [upd]
theorem upd_other (f : Nat → Bool) {i k : Nat} (h : k ≠ i) : upd f i k = f k := by simp [upd, h]
/-- All that an operation waits for has come. -/
def depsB (o : Oper) (f : Nat → Bool) : Bool := o.after.toList.all fun e => !Region.binds .any e || f e.on
/-- Each operation waits for earlier ones alone. -/
def forwardB (l : List Oper) : Nat → Bool
  | i => match l with
    | [] => true
    | o :: r => (o.after.toList.all fun e => !Region.binds .any e || decide (e.on < i)) && forwardB r (i + 1)

/-- What is to be shown of each operation: from wherever it may come, it leads on. -/
def Steps (P : Program) (ops : Array Oper) (Inv : (Nat → Bool) → Act → World → Prop) : List Oper → Nat → Prop
  | [], _ => True
  | o :: r, i => (∀ (f : Nat → Bool) (a : Act) (w : World) (Q' : Exit → Act → World → Prop), Inv f a w → f i = false → depsB o f = true →
      (∀ a' w', Inv (upd f i) a' w' → Q' .normal a' w') → wpList P ops Q' [o] a w) ∧ Steps P ops Inv r (i + 1)

theorem Steps.at {Inv : (Nat → Bool) → Act → World → Prop} : ∀ (l : List Oper) (k : Nat), Steps P ops Inv l k → ∀ (j : Nat) (o : Oper), l[j]? = some o →
    ∀ (f : Nat → Bool) (a : Act) (w : World) (Q' : Exit → Act → World → Prop), Inv f a w → f (k + j) = false → depsB o f = true → (∀ a' w', Inv (upd f (k + j)) a' w' → Q' .normal a' w') → wpList P ops Q' [o] a w
  | [], _, _, j, o, h => by simp at h
  | o' :: r, k, hs, 0, o, h => by
    have : o' = o := by simpa using h
    subst this
    exact hs.1
  | o' :: r, k, hs, j + 1, o, h => by
    have := Steps.at r (k + 1) hs.2 j o (by simpa using h)
    rwa [show k + (j + 1) = k + 1 + j by omega]
theorem forward_at : ∀ (l : List Oper) (k : Nat), forwardB l k = true → ∀ (j : Nat) (o : Oper), l[j]? = some o → ∀ e ∈ o.after.toList, Region.binds .any e = true → e.on < k + j
  | [], _, _, j, o, h => by simp at h
  | o' :: r, k, hb, 0, o, h => by
    have : o' = o := by simpa using h
    subst this
    unfold forwardB at hb
    obtain ⟨h1, -⟩ := Bool.and_eq_true_iff.1 hb
    intro e he hbi
    have := List.all_eq_true.1 h1 e he
    rw [hbi] at this
    simpa using this
  | o' :: r, k, hb, j + 1, o, h => by
    unfold forwardB at hb
    obtain ⟨-, h2⟩ := Bool.and_eq_true_iff.1 hb
    have := forward_at r (k + 1) h2 j o (by simpa using h)
    intro e he hbi
    have := this e he hbi
    omega

/-- Q, but K where all goes on. -/
def NQ (K : Act → World → Prop) (Q : Exit → Act → World → Prop) : Exit → Act → World → Prop
  | .normal, a, w => K a w
  | e, a, w => Q e a w
theorem outs {K : Act → World → Prop} (h : LetsOut (NQ K Q)) : LetsOut Q := by
  obtain ⟨a, w, h⟩ := h
  exact ⟨a, w, h⟩
theorem wp_nq {o : Oper} {a : Act} {w : World} {K : Act → World → Prop} (hh : o.wp P a w K (NQ K Q)) : o.wp P a w K Q := by
  unfold Oper.wp at *
  generalize (execOp a.eval o).run P w = r at *
  cases r with
  | ok n w' =>
    cases n <;> simp only [Oper.upon] at hh ⊢ <;>
      first
        | exact hh
        | exact Calls.mono hh (fun e w'' he => by cases e <;> first | exact he | exact outs he)
  | halt x w' => cases x <;> simp only [Oper.upon] at hh ⊢ <;> exact hh
theorem op_of_list {i : Nat} {o : Oper} (hi : ops[i]? = some o) {a : Act} {w : World} {K : Act → World → Prop} (h : wpList P ops (NQ K Q) [o] a w) : wpOp P ops Q i K a w := by
  unfold wpOp
  simp only [hi]
  unfold wpList at h
  split
  · rename_i hw
    rw [if_pos hw] at h
    exact h.imp (fun h => wp_nq (K := K) h) (fun h => ⟨h.1, outs h.2⟩)
  · rename_i hw
    rw [if_neg hw] at h
    exact h
theorem count_set (l : List Bool) (i : Nat) (h : l.getD i true = false) : (l.set i true).countP (fun b => !b) + 1 = l.countP (fun b => !b) := by
  induction l generalizing i with
  | nil => simp at h
  | cons b l ih =>
    cases i with
    | zero =>
      have hb : b = false := by simpa using h
      subst hb
      simp
    | succ i =>
      have := ih i (by simpa using h)
      simp only [List.set_cons_succ, List.countP_cons]
      omega
theorem any_of_inv {Inv : (Nat → Bool) → Act → World → Prop} (hf : forwardB ops.toList 0 = true) (hs : Steps P ops Inv ops.toList 0)
    (he : ∀ f a w, Inv f a w → (∀ k, k < ops.size → f k = true) → Q .normal a w) (n : Nat) :
    ∀ (done : Array Bool) (a : Act) (w : World), done.size = ops.size → done.toList.countP (fun b => !b) ≤ n → Inv (fun k => done.getD k false) a w → wpAny P .any ops Q n done a w := by
  have fin : ∀ (done : Array Bool) (a : Act) (w : World), done.size = ops.size → Inv (fun k => done.getD k false) a w → Region.ready .any ops done = [] → Q .normal a w := by
    intro done a w hsz hI hr
    refine he _ a w hI fun k => ?_
    induction k using Nat.strongRecOn with
    | _ k ih =>
      intro hk
      cases hd : done.getD k false with
      | true => rfl
      | false =>
        exfalso
        have hk' : k < done.size := by omega
        have : k ∈ Region.ready .any ops done := by
          rw [mem_ready]
          refine ⟨by simp [hk'] at hd ⊢; exact hd, ops[k], by simp [hk], fun e he hb => ?_⟩
          have hlt := forward_at ops.toList 0 hf k ops[k] (by simp [hk]) e (by simpa using he) hb
          exact ih e.on (by omega) (by omega)
        rw [hr] at this
        cases this
  induction n with
  | zero =>
    intro done a w hsz hc hI
    have hr : Region.ready .any ops done = [] := by
      rw [List.eq_nil_iff_forall_not_mem]
      intro i hi
      obtain ⟨h0, o, ho, -⟩ := mem_ready.1 hi
      have hall := List.countP_eq_zero.1 (Nat.le_zero.1 hc)
      have hi' : i < done.size := by have := (Array.getElem?_eq_some_iff.1 ho).1; omega
      have := hall done[i] (by simp)
      simp [hi'] at h0
      rw [h0] at this
      exact this rfl
    exact ⟨hr, fin done a w hsz hI hr⟩
  | succ n ih =>
    intro done a w hsz hc hI
    refine ⟨fun hr => fin done a w hsz hI hr, fun i hi => ?_⟩
    obtain ⟨h0, o, ho, hd⟩ := mem_ready.1 hi
    have hi2 : i < ops.size := (Array.getElem?_eq_some_iff.1 ho).1
    have hi' : i < done.size := by omega
    refine op_of_list ho (Steps.at ops.toList 0 hs i o (by simpa using ho) _ a w _ hI ?_ ?_ ?_)
    · rw [Nat.zero_add]; simp [hi'] at h0 ⊢; exact h0
    · unfold depsB
      rw [List.all_eq_true]
      intro e hem
      cases hb : Region.binds .any e with
      | false => rfl
      | true => simpa using hd e (by simpa using hem) hb
    · intro a' w' hI'
      refine ih _ a' w' (by simp [hsz]) ?_ ?_
      · have := count_set done.toList i (by simp [hi'] at h0 ⊢; exact h0)
        rw [Array.toList_setIfInBounds]
        omega
      · have e : (fun k => (done.setIfInBounds i true).getD k false) = upd (fun k => done.getD k false) (0 + i) := by
          funext k
          rw [Nat.zero_add]
          unfold upd
          split
          · rename_i hk; subst hk; simp [hi']
          · rename_i hk
            simp only [Array.getD_eq_getD_getElem?]
            rw [Array.getElem?_setIfInBounds_ne (fun h => hk h.symm)]
        rw [e]; exact hI'
end
/-- A region that draws its order: Inv holds at its beginning, each operation leads on, and when all have come it is what is asked. -/
theorem region {P : Program} {id : Nat} {Q : Exit → Act → World → Prop} {a : Act} {w : World} {l : List Oper} (Inv : (Nat → Bool) → Act → World → Prop) (hm : P.follows .mixedOrders = true) (hf : forwardB l 0 = true)
    (h0 : Inv (fun _ => false) a w.drew) (hs : Steps P l.toArray Inv l 0)
    (he : ∀ f a w, Inv f a w → (∀ k, k < l.length → f k = true) → Q .normal a w) : (Code.region id l.toArray true).wp P Q a w := by
  refine wp_region_any hm ?_
  refine any_of_inv (by simpa using hf) (by simpa using hs) (fun f a w h1 h2 => he f a w h1 (by simpa using h2)) _ _ a w.drew (by simp) (by have := List.countP_le_length (p := fun b => !b) (l := (Array.replicate l.toArray.size false).toList); simpa using this) ?_
  have : (fun k => (Array.replicate l.toArray.size false).getD k false) = fun _ => false := by funext k; simp [Array.getD_eq_getD_getElem?, Array.getElem?_replicate]; split <;> rfl
  rw [this]
  exact h0
end Go.Iv
namespace Go.Proofs.YtckhddndeojobaaGreat
open Go.Iv Go.RowKit
set_option linter.unusedVariables false
/-- A slot that holds v once its operation has come. -/
def sl (b : Bool) (v : Value) : Value := if b then v else undef
theorem sl_true (v : Value) : sl true v = v := rfl
theorem sl_false (v : Value) : sl false v = undef := rfl
/-- A world in which these blocks are known, and, once it was made (a), block p, which is v once that was stored (b), and z ahead of it. -/
structure Wn (W w : World) (base : List Row) (p : Nat) (t : TypeId) (z v : Array Value) (a b : Bool) : Prop where
  st : St W w ((if a then [(p, t, if b then v else z)] else []) ++ base)
  far : a = true → W.heap.size ≤ p ∧ ∀ r ∈ base, r.1 ≠ p
  ord : b = true → a = true
section
variable {W w w2 : World} {base : List Row} {p : Nat} {t : TypeId} {z v : Array Value} {a b : Bool}
theorem Wn.start (h : St W w base) (p : Nat) (t : TypeId) (z v : Array Value) : Wn W w base p t z v false false := ⟨by simpa using h, (fun h => by cases h), fun h => by cases h⟩
theorem Wn.startT (h : St W w ((p, t, z) :: base)) (v : Array Value) (hp : W.heap.size ≤ p) (hf : ∀ r ∈ base, r.1 ≠ p) : Wn W w base p t z v true false := ⟨by simpa using h, (fun _ => ⟨hp, hf⟩), fun _ => rfl⟩
theorem Wn.old (h : Wn W w base p t z v a b) : St W w base := h.st.few fun r hr => List.mem_append.2 (.inr hr)
theorem Wn.call (h : Wn W w base p t z v a b) (hb : Below w.heap.size w w2) : Wn W w2 base p t z v a b := ⟨h.st.call hb, h.far, h.ord⟩
theorem Wn.first (h : Wn W w base p t z v a b) (ha : a = false) : b = false := by
  cases hb : b with
  | false => rfl
  | true => rw [h.ord hb] at ha; cases ha
theorem Wn.made (h : Wn W w base p t z v false false) (q : Nat) (hq : q = w.heap.size) : Wn W (w.alloc (.cells z t)) base q t z v true false :=
  ⟨by simpa using h.old.alloc q hq t z, fun _ => ⟨by rw [hq]; exact h.st.below.size, fun r hr => by have := (h.old.knows r hr).lt; omega⟩, fun h => by cases h⟩
theorem Wn.is (h : Wn W w base p t z v true b) : Whole w p t (if b then v else z) := h.st.knows (p, t, if b then v else z) (by simp)
theorem Wn.stored2 {z0 z1 v0 v1 : Value} (h : Wn W w base p t #[z0, z1] #[v0, v1] true false) : Wn W ((w.setCell ⟨p, 0, none⟩ v0).setCell ⟨p, 1, none⟩ v1) base p t #[z0, z1] #[v0, v1] true true := by
  obtain ⟨hp, hf⟩ := h.far rfl
  have h1 : St W w ((p, t, #[z0, z1]) :: base) := by simpa using h.st
  exact ⟨by simpa using (h1.set0 hp hf 0 v0).set0 hp hf 1 v1, (fun _ => ⟨hp, hf⟩), fun _ => rfl⟩
end
end Go.Proofs.YtckhddndeojobaaGreat
