/- Words for memory at layer 4: a slice that shows its items; a block known whole; rows that the call owns; appends. -/
import Derived.Test.YtggmbkmkjkllkaaAmtO
import Derived.Test.YtggmbkmkjkllkaaAmtM
import Derived.WalkKit
import Derived.ProofKit
import Derived.OpenShut
import Derived.Handy
import Derived.WalkLawsBesides
import Derived.Outline
import Derived.Lib.Hide
import Derived.Lib.AppendStr
import Derived.Lib.UnsafeStr
import Derived.Deep.QuietTactic
import Derived.BigQuiet
import Derived.StillTailTactics
import Derived.Deep.Draws
import Derived.Deep.AppendLies
import Derived.Deep.Slices
import Derived.Deep.Fields
import Derived.Deep.RegionHeld3
import Derived.Deep.RegionWith
import Derived.OwnWalk
import Derived.Laws.OwnMore
import Derived.Laws.Rows
import Derived.Laws.AppendOwnNone
import Derived.Maps.AppendAt
import Derived.Carry
import Derived.ChangeOld
import Derived.ShutString
namespace Go.Proofs.Ytggmbkmkjkllkaa
open Go.RowKit Go.Am
set_option linter.unusedVariables false
set_option linter.unusedSimpArgs false

/-- The slice (A, n) shows the cells xs, 'size' cells an item, in a block below B. -/
def Sees (w : World) (B size : Nat) (A : Option Addr) (n : Nat) (xs : List Value) : Prop :=
  xs.length = n * size ∧ (0 < n → ∃ b off, A = some ⟨b, off, none⟩ ∧ b < B ∧ ∀ j u, xs[j]? = some u → w.cell? ⟨b, off + j, none⟩ = some u)

section
variable {w w' : World} {B B' size n : Nat} {A : Option Addr} {xs : List Value}
theorem Sees.nothing (w : World) (B size : Nat) (A : Option Addr) : Sees w B size A 0 [] := ⟨by simp, fun h => by omega⟩
theorem Sees.keep (h : Sees w B size A n xs) (hk : ∀ p : Addr, p.block < B → w'.cell? p = w.cell? p) : Sees w' B size A n xs := by
  refine ⟨h.1, fun hn => ?_⟩
  obtain ⟨b, off, rfl, hb, hc⟩ := h.2 hn
  exact ⟨b, off, rfl, hb, fun j u hu => (hk ⟨b, off + j, none⟩ hb).trans (hc j u hu)⟩
theorem Sees.more (h : Sees w B size A n xs) (hB : B ≤ B') : Sees w B' size A n xs := by
  refine ⟨h.1, fun hn => ?_⟩
  obtain ⟨b, off, rfl, hb, hc⟩ := h.2 hn
  exact ⟨b, off, rfl, by omega, hc⟩
theorem Sees.below (h : Sees w B size A n xs) (k : Below B w w') : Sees w' B size A n xs := h.keep fun _ hp => k.cell hp
theorem Sees.alloc (h : Sees w B size A n xs) (hB : B ≤ w.heap.size) (o : Obj) : Sees (w.alloc o) B size A n xs := h.keep fun p hp => World.cell?_alloc_lt w o p (by omega)
theorem Sees.drewN (h : Sees w B size A n xs) (k : Nat) : Sees (w.drewN k) B size A n xs := h
theorem Sees.set (h : Sees w B size A n xs) {p : Addr} (hB : B ≤ p.block) (u : Value) : Sees (w.setCell p u) B size A n xs :=
  h.keep fun q hq => World.cell?_setCell_other w p q u (fun e => by subst e; omega)
theorem Sees.own {base : Nat} {e : TypeId} {c : Nat} (h : w.ownsRow base e size (.slice A n c) n xs) : Sees w w.heap.size size A n xs := by
  refine ⟨h.1, fun hn => ?_⟩
  rcases h.2 with ⟨hv, h0⟩ | ⟨g, cap, cur, hv, hb, hg, h1, h2, h3, h4⟩
  · omega
  · simp only [Value.slice.injEq, and_true, true_and] at hv
    obtain ⟨rfl, rfl⟩ := hv
    refine ⟨g, 0, rfl, (Array.getElem?_eq_some_iff.1 hg).1, fun j u hu => ?_⟩
    have hj : j < xs.length := (List.getElem?_eq_some_iff.1 hu).1
    rw [Nat.zero_add, h.cellAt j (by have := h.1; omega)]
    exact hu
/-- The first k items. -/
theorem Sees.first (h : Sees w B size A n xs) {k : Nat} (hk : k ≤ n) : Sees w B size A k (xs.take (k * size)) := by
  have : k * size ≤ n * size := Nat.mul_le_mul_right _ hk
  refine ⟨by rw [List.length_take, h.1]; omega, fun hn => ?_⟩
  obtain ⟨b, off, rfl, hb, hc⟩ := h.2 (by omega)
  refine ⟨b, off, rfl, hb, fun j u hu => hc j u ?_⟩
  rw [List.getElem?_take] at hu
  split at hu
  · exact hu
  · cases hu
end

/-- Block g is just these cells, none frozen. -/
def Whole (w : World) (g : Nat) (t : TypeId) (cs : Array Value) : Prop := w.heap[g]? = some (.cells cs t (0, 0))
section
variable {w w' : World} {g : Nat} {t : TypeId} {cs : Array Value}
theorem Whole.lt (h : Whole w g t cs) : g < w.heap.size := (Array.getElem?_eq_some_iff.1 h).1
theorem Whole.cell (h : Whole w g t cs) (i : Nat) : w.cell? ⟨g, i, none⟩ = cs[i]? := cell_of_row w g i cs t (0, 0) h
theorem Whole.free (h : Whole w g t cs) (i : Nat) : w.frozen? ⟨g, i, none⟩ = false := frozen_of_row w g i cs t h
theorem Whole.fresh (w : World) (t : TypeId) (cs : Array Value) : Whole (w.alloc (.cells cs t)) w.heap.size t cs := heap_alloc_new w _
theorem Whole.drewN (h : Whole w g t cs) (n : Nat) : Whole (w.drewN n) g t cs := h
theorem Whole.alloc (h : Whole w g t cs) (o : Obj) : Whole (w.alloc o) g t cs := (Below.heap_alloc w o g h.lt).trans h
theorem Whole.set (h : Whole w g t cs) (i : Nat) (u : Value) : Whole (w.setCell ⟨g, i, none⟩ u) g t (cs.setIfInBounds i u) := heap_setCell_same w g i cs t u h
theorem Whole.away (h : Whole w g t cs) {p : Addr} (hp : g ≠ p.block) (u : Value) : Whole (w.setCell p u) g t cs := (Below.heap_setCell w p u g hp).trans h
theorem Whole.below {B : Nat} (h : Whole w g t cs) (k : Below B w w') (hg : g < B) : Whole w' g t cs := (k.block g hg).trans h
theorem Whole.grown {row : Option Nat} (h : Whole w g t cs) (k : w.grownBy w' row) (hg : some g ≠ row) : Whole w' g t cs := (k.block g h.lt hg).trans h
end

/-- Whole blocks whose items aren't of type e are as they were. -/
def KeepT (e : TypeId) (w w' : World) : Prop := ∀ g t cs, t ≠ e → Whole w g t cs → Whole w' g t cs
theorem KeepT.refl (e : TypeId) (w : World) : KeepT e w w := fun _ _ _ _ h => h
theorem KeepT.trans {e : TypeId} {a b c : World} (h : KeepT e a b) (k : KeepT e b c) : KeepT e a c := fun g t cs ht hw => k g t cs ht (h g t cs ht hw)
theorem KeepT.alloc {e : TypeId} {a w : World} (h : KeepT e a w) (o : Obj) : KeepT e a (w.alloc o) := fun g t cs ht hw => (h g t cs ht hw).alloc o
theorem KeepT.drewN {e : TypeId} {a w : World} (h : KeepT e a w) (n : Nat) : KeepT e a (w.drewN n) := h
theorem KeepT.of_below {e : TypeId} {w w' : World} (h : Below w.heap.size w w') : KeepT e w w' := fun g t cs _ hw => hw.below h hw.lt
theorem KeepT.of_own {e : TypeId} {w w' : World} {base size n : Nat} {v : Value} {xs : List Value} (h : w.ownsRow base e size v n xs) (hg : w.grownBy w' v.ownBlock) : KeepT e w w' := by
  intro g t cs ht hw
  refine hw.grown hg fun he => ?_
  rcases h.2 with ⟨rfl, _⟩ | ⟨g', cap, cur, rfl, _, hh, _⟩
  · simp [Value.ownBlock] at he
  · have : g = g' := by simpa [Value.ownBlock] using he
    subst this
    unfold Whole at hw
    rw [hh] at hw
    injection hw with hw
    injection hw with _ h2
    exact ht h2.symm

theorem info_byte : (Try.prog.info? 5).map (fun i => (i.zero, i.size, i.bytes)) = some (some (.int .u8 0), 1, 1) := by kernel_rfl

/-- What a step that writes bytes of the call's own leaves: nothing below B has changed, nor have whole blocks of other types. -/
structure StepB (B : Nat) (w w' : World) : Prop where
  below : Below B w w'
  keep : KeepT 5 w w'
theorem StepB.refl (B : Nat) (w : World) : StepB B w w := ⟨Below.refl _ _, KeepT.refl _ _⟩
theorem StepB.trans {B : Nat} {a b c : World} (h : StepB B a b) (k : StepB B b c) : StepB B a c := ⟨h.below.trans k.below, h.keep.trans k.keep⟩
theorem StepB.alloc {B : Nat} {a w : World} (h : StepB B a w) (hB : B ≤ w.heap.size) (o : Obj) : StepB B a (w.alloc o) := ⟨h.below.alloc hB o, h.keep.alloc o⟩

/-- The bytes bs are the call's own, in a block from B on (or there are none, and no block). -/
def OwnB (w : World) (B : Nat) (v : Value) (bs : List UInt8) : Prop := w.ownsRow B 5 1 v bs.length (Lib.byteCells bs)
theorem OwnB.none_ (w : World) (B : Nat) : OwnB w B (.slice none 0 0) [] := World.ownsRow_nil _ _ _ _
theorem OwnB.keep {w w' : World} {B B' : Nat} {v : Value} {bs : List UInt8} (h : OwnB w B v bs) (k : Below B' w w') (hB : w.heap.size ≤ B') : OwnB w' B v bs := by
  refine ⟨h.1, ?_⟩
  rcases h.2 with hn | ⟨g, cap, cur, rfl, hb, hg, r⟩
  · exact .inl hn
  · exact .inr ⟨g, cap, cur, rfl, hb, (k.block g (Nat.lt_of_lt_of_le (Array.getElem?_eq_some_iff.1 hg).1 hB)).trans hg, r⟩
theorem OwnB.less {w : World} {B B' : Nat} {v : Value} {bs : List UInt8} (h : OwnB w B v bs) (hB : B' ≤ B) : OwnB w B' v bs := by
  refine ⟨h.1, ?_⟩
  rcases h.2 with hn | ⟨g, cap, cur, rfl, hb, r⟩
  · exact .inl hn
  · exact .inr ⟨g, cap, cur, rfl, by omega, r⟩
theorem OwnB.slice {w : World} {B : Nat} {v : Value} {bs : List UInt8} (h : OwnB w B v bs) : ∃ a c, v = .slice a bs.length c ∧ bs.length ≤ c ∧ c ≤ maxLen := by
  rcases h.2 with ⟨h, h0⟩ | ⟨g, c, cur, h, _, _, h1, h2, _⟩
  · exact ⟨none, 0, by rw [h, h0], by omega, by unfold maxLen; omega⟩
  · exact ⟨_, c, h, h1, h2⟩
theorem OwnB.below {w w' : World} {B : Nat} {v : Value} {bs : List UInt8} (h : OwnB w B v bs) (hg : w.grownBy w' v.ownBlock) (hB : B ≤ w.heap.size) : Below B w w' :=
  (Below.refl B w).grown hg hB fun k hk => (h.lt k hk).1

theorem byte_one (bs : List UInt8) : ∀ u ∈ Lib.byteCells bs, u.oneCell' = true := by
  intro u hu
  obtain ⟨c, _, rfl⟩ := List.mem_map.1 hu
  rfl

theorem add_at (b o x : Nat) : (⟨b, o, none⟩ : Addr).add x = ⟨b, o + x, none⟩ := by unfold Addr.add; split <;> simp_all
theorem ba_eta (s : ByteArray) : (⟨s.data.toList.toArray⟩ : ByteArray) = s := by cases s; simp
/-- append(v, x...): items of a slice that shows them come behind what is owned; the source may be nil. -/
theorem wpList_appG {ops : Array Oper} {rest : List Oper} {o : Oper} {a : Act} {Q : Exit → Act → World → Prop} {w : World} (hgd : o.guard = none) (s x : Operand) (t e : TypeId) (z : Value) (size bytes : Nat)
    (ho : o.op = .call { callee := .builtin .append, args := #[s, x], argTypes := #[t, t] }) (hinfo : (Try.prog.info? e).map (fun i => (i.zero, i.size, i.bytes)) = some (some z, size, bytes))
    (ht : Try.prog.underlying t = some (.slice e)) (hzs : z.cells.size = size) (hsz : 0 < size)
    (B : Nat) (v : Value) (n : Nat) (xs : List Value) (hs : a.eval s = v) (hown : w.ownsRow B e size v n xs) (B2 : Nat) (A : Option Addr) (m c : Nat) (news : List Value) (hx : a.eval x = .slice A m c) (hsee : Sees w B2 size A m news)
    (hc0 : A = none → c = 0) (h1 : ∀ u ∈ news, u.oneCell' = true) (h63 : n + m ≤ 9223372036854775807) (hbytes : (n + m) * bytes ≤ 140737488355328) (hB : B ≤ w.heap.size)
    (h : ∀ v' w', w'.ownsRow B e size v' (n + m) (xs ++ news) → w.grownBy w' v.ownBlock → wpList Try.prog ops Q rest (a.put o.dst v') w') :
    wpList Try.prog ops Q (o :: rest) a w := by
  obtain ⟨i0, hi, hz0, hz1, hz2⟩ := info_parts hinfo
  cases A with
  | none =>
    have hm : m = 0 := by
      rcases Nat.eq_zero_or_pos m with h0 | h0
      · exact h0
      · obtain ⟨b, off, hA, _⟩ := hsee.2 h0
        cases hA
    subst hm
    have hn : news = [] := List.eq_nil_of_length_eq_zero (by simpa using hsee.1)
    subst hn
    obtain rfl := hc0 rfl
    refine wpList_append_own_none hgd s x t ho B e i0 size ht hi v n xs hs hown hx ?_
    exact h v w (by simpa using hown) ⟨rfl, rfl, rfl, Nat.le_refl _, fun _ _ _ => rfl⟩
  | some ad =>
    refine wpList_append_own w hgd s x t ho B e i0 z size bytes ht hi hz0 hz1 hz2 hzs hsz v n xs hs hown ad m c news hx hsee.1 ?_ h1 (by unfold maxLen; exact h63) hbytes hB ?_
    · intro j u hu
      rcases Nat.eq_zero_or_pos m with h0 | h0
      · subst h0
        have hn : news = [] := List.eq_nil_of_length_eq_zero (by simpa using hsee.1)
        subst hn
        simp at hu
      · obtain ⟨b, off, hA, _, hc⟩ := hsee.2 h0
        injection hA with hA
        subst hA
        rw [add_at]; exact hc j u hu
    · intro v' w' hown' hg _
      exact h v' w' hown' hg
/-- The same of an operation behind a guard that is met. -/
theorem wpList_appH {ops : Array Oper} {rest : List Oper} {o : Oper} {a : Act} {Q : Exit → Act → World → Prop} {w : World} (hgd : Region.wanted o (yielded ops a.tmps) = true) (s x : Operand) (t e : TypeId) (z : Value) (size bytes : Nat)
    (ho : o.op = .call { callee := .builtin .append, args := #[s, x], argTypes := #[t, t] }) (hinfo : (Try.prog.info? e).map (fun i => (i.zero, i.size, i.bytes)) = some (some z, size, bytes))
    (ht : Try.prog.underlying t = some (.slice e)) (hzs : z.cells.size = size) (hsz : 0 < size)
    (B : Nat) (v : Value) (n : Nat) (xs : List Value) (hs : a.eval s = v) (hown : w.ownsRow B e size v n xs) (B2 : Nat) (A : Option Addr) (m c : Nat) (news : List Value) (hx : a.eval x = .slice A m c) (hsee : Sees w B2 size A m news)
    (hc0 : A = none → c = 0) (h1 : ∀ u ∈ news, u.oneCell' = true) (h63 : n + m ≤ 9223372036854775807) (hbytes : (n + m) * bytes ≤ 140737488355328) (hB : B ≤ w.heap.size)
    (h : ∀ v' w', w'.ownsRow B e size v' (n + m) (xs ++ news) → w.grownBy w' v.ownBlock → wpList Try.prog ops Q rest (a.put o.dst v') w') :
    wpList Try.prog ops Q (o :: rest) a w := by
  refine wpList_step fun K hK => ?_
  rw [if_pos hgd]
  obtain ⟨i0, hi, hz0, hz1, hz2⟩ := info_parts hinfo
  cases A with
  | none =>
    have hm : m = 0 := by
      rcases Nat.eq_zero_or_pos m with h0 | h0
      · exact h0
      · obtain ⟨b, off, hA, _⟩ := hsee.2 h0
        cases hA
    subst hm
    have hn : news = [] := List.eq_nil_of_length_eq_zero (by simpa using hsee.1)
    subst hn
    obtain rfl := hc0 rfl
    have hrun := run_append_owned_none (P := Try.prog) (w := w) B t o.type e i0 size ht hi v n xs hown
    unfold Oper.wp
    simp [execOp, ho, resolve, invoke, builtin, hs, hx, hrun, Result.andThen]
    exact hK _ _ (h v w (by simpa using hown) ⟨rfl, rfl, rfl, Nat.le_refl _, fun _ _ _ => rfl⟩)
  | some ad =>
    refine wp_append_own w s x t ho B e i0 z size bytes ht hi hz0 hz1 hz2 hzs hsz v n xs hs hown ad m c news hx hsee.1 ?_ h1 (by unfold maxLen; exact h63) hbytes hB fun v' w' h2 h3 _ => hK _ _ (h v' w' h2 h3)
    intro j u hu
    rcases Nat.eq_zero_or_pos m with h0 | h0
    · subst h0
      have hn : news = [] := List.eq_nil_of_length_eq_zero (by simpa using hsee.1)
      subst hn
      simp at hu
    · obtain ⟨b, off, hA, _, hc⟩ := hsee.2 h0
      injection hA with hA
      subst hA
      rw [add_at]; exact hc j u hu
theorem own_empty (w : World) (e : TypeId) (size : Nat) : (w.alloc (.cells #[] e)).ownsRow w.heap.size e size (.slice (some ⟨w.heap.size, 0, none⟩) 0 0) 0 [] :=
  ⟨by simp, .inr ⟨w.heap.size, 0, #[], rfl, Nat.le_refl _, heap_alloc_new w _, Nat.le_refl _, Nat.zero_le _, by simp, by simp⟩⟩
/-- A slice that came in as nil has no room. -/
theorem OwnB.slice0 {w : World} {B : Nat} {v : Value} {bs : List UInt8} (h : OwnB w B v bs) : ∃ a c, v = .slice a bs.length c ∧ bs.length ≤ c ∧ c ≤ maxLen ∧ (a = none → c = 0) := by
  rcases h.2 with ⟨h, h0⟩ | ⟨g, c, cur, h, _, _, h1, h2, _⟩
  · exact ⟨none, 0, by rw [h, h0], by omega, by unfold maxLen; omega, fun _ => rfl⟩
  · exact ⟨_, c, h, h1, h2, fun h => by cases h⟩
theorem laidOut : laidOutB Try.prog = true := by kernel_rfl
theorem own : ownKnob Try.prog.godebug = none := by kernel_rfl
theorem seesB_whole {w : World} {g : Nat} {t : TypeId} {bs : List UInt8} (h : Whole w g t (Lib.byteCells bs).toArray) : Sees w (g + 1) 1 (some ⟨g, 0, none⟩) bs.length (Lib.byteCells bs) :=
  ⟨by simp [Lib.byteCells], fun _ => ⟨g, 0, rfl, by omega, fun j u hu => by rw [Nat.zero_add, h.cell j]; simpa using hu⟩⟩
theorem seesB_mark (w : World) (t : TypeId) (bs : List UInt8) (fr : Nat × Nat) : Sees (w.alloc (.cells (Lib.byteCells bs).toArray t fr)) (w.heap.size + 1) 1 (some ⟨w.heap.size, 0, none⟩) bs.length (Lib.byteCells bs) :=
  ⟨by simp [Lib.byteCells], fun _ => ⟨w.heap.size, 0, rfl, by omega, fun j u hu => by rw [Nat.zero_add, World.cell?_alloc_mark]; simpa using hu⟩⟩
theorem OwnB.sees {w : World} {B : Nat} {A : Option Addr} {n c : Nat} {l : List UInt8} (h : OwnB w B (.slice A n c) l) (hn : n = l.length) : Sees w w.heap.size 1 A l.length (Lib.byteCells l) := by
  subst hn; exact Sees.own h


theorem own_keep {w w' : World} {B B' size n : Nat} {e : TypeId} {v : Value} {xs : List Value} (h : w.ownsRow B e size v n xs) (k : Below B' w w') (hB : w.heap.size ≤ B') : w'.ownsRow B e size v n xs := by
  refine ⟨h.1, ?_⟩
  rcases h.2 with hn | ⟨g, cap, cur, rfl, hb, hg, r⟩
  · exact .inl hn
  · exact .inr ⟨g, cap, cur, rfl, hb, (k.block g (Nat.lt_of_lt_of_le (Array.getElem?_eq_some_iff.1 hg).1 hB)).trans hg, r⟩
theorem own_slice0 {w : World} {B size n : Nat} {e : TypeId} {v : Value} {xs : List Value} (h : w.ownsRow B e size v n xs) : ∃ a c, v = .slice a n c ∧ n ≤ c ∧ c ≤ 9223372036854775807 ∧ (a = none → c = 0) := by
  rcases h.2 with ⟨h, h0⟩ | ⟨g, c, cur, h, _, _, h1, h2, _⟩
  · exact ⟨none, 0, by rw [h, h0], by omega, by omega, fun _ => rfl⟩
  · exact ⟨_, c, h, h1, h2, fun h => by cases h⟩
theorem drew_below (w : World) (n : Nat) : Below w.heap.size w (w.drewN n) := by
  have h := Below.refl w.heap.size w
  exact ⟨h.os, h.tape, h.output, h.size, h.block⟩

/-- Numbers as cells. -/
def vals (L : List Int) : List Value := L.map fun n => Value.int .i64 n
theorem vals_length (L : List Int) : (vals L).length = L.length := by simp [vals]
theorem vals_one (E : List Int) : ∀ u ∈ vals E, u.oneCell' = true := by
  intro u hu
  obtain ⟨c, _, rfl⟩ := List.mem_map.1 hu
  rfl
theorem vals_append (l m : List Int) : vals (l ++ m) = vals l ++ vals m := by simp [vals]
theorem vals_at (E : List Int) (k : Nat) (n : Int) (h : E[k]? = some n) : (vals E)[k]? = some (.int .i64 n) := by
  unfold vals; rw [List.getElem?_map, h]; rfl
theorem vals_set (L : List Int) (i : Nat) (n : Int) : (vals L).set i (.int .i64 n) = vals (L.set i n) := by unfold vals; rw [List.map_set]
def OwnN (w : World) (B : Nat) (v : Value) (L : List Int) : Prop := w.ownsRow B 2 1 v L.length (vals L)
theorem OwnN.keep {w w' : World} {B B' : Nat} {v : Value} {L : List Int} (h : OwnN w B v L) (k : Below B' w w') (hB : w.heap.size ≤ B') : OwnN w' B v L := own_keep h k hB
theorem OwnN.sees {w : World} {B : Nat} {A : Option Addr} {n c : Nat} {L : List Int} (h : OwnN w B (.slice A n c) L) (hn : n = L.length) : Sees w w.heap.size 1 A L.length (vals L) := by
  subst hn; exact Sees.own h
theorem info_i64 : (Try.prog.info? 2).map (fun i => (i.zero, i.size, i.bytes)) = some (some (.int .i64 0), 1, 8) := by kernel_rfl

/-- append(v, n): one number more. -/
theorem wpList_appN {ops : Array Oper} {rest : List Oper} {o : Oper} {a : Act} {Q : Exit → Act → World → Prop} {w : World} (hgd : o.guard = none) (s x : Operand)
    (ho : o.op = .call { callee := .builtin .append, args := #[s, x], argTypes := #[27, 27] })
    (B : Nat) (v : Value) (E : List Int) (hs : a.eval s = v) (hown : OwnN w B v E) (n : Int) (g : Nat) (hx : a.eval x = .slice (some ⟨g, 0, none⟩) 1 1) (hgs : g = w.heap.size)
    (hB : B ≤ w.heap.size) (hlen : E.length + 1 ≤ 1000000000)
    (h : ∀ v' w', OwnN w' B v' (E ++ [n]) → Below B w w' → wpList Try.prog ops Q rest (a.put o.dst v') w') :
    wpList Try.prog ops Q (o :: rest) a (w.alloc (.cells #[.int .i64 n] 2)) := by
  subst hgs
  have hse : Sees (w.alloc (.cells #[.int .i64 n] 2)) (w.heap.size + 1) 1 (some ⟨w.heap.size, 0, none⟩) 1 (vals [n]) := by
    refine ⟨rfl, fun _ => ⟨w.heap.size, 0, rfl, by omega, fun j u hu => ?_⟩⟩
    rw [Nat.zero_add, (Whole.fresh w 2 _).cell j]; simpa [vals] using hu
  refine wpList_appG hgd s x 27 2 _ 1 8 ho info_i64 Try.underlying27 rfl (by decide) B v E.length (vals E) hs (World.ownsRow.alloc hown _) _ _ 1 1 (vals [n]) hx hse (fun h => by cases h) (vals_one _) (by omega) (by omega) (by simp; omega) ?_
  intro v' w' ho' hg
  refine h v' w' ?_ (((Below.refl B w).alloc hB _).grown hg (by simp; omega) fun k hk => (hown.lt k hk).1)
  unfold OwnN
  rw [vals_append, List.length_append]; exact ho'
end Go.Proofs.Ytggmbkmkjkllkaa
