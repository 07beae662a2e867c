/- Words for memory, for any layer: a slice that shows its cells; blocks known whole; what is kept; appends; a lexical walk behind a wall. (No types of a layer.) -/
import Derived.Test.YtckhddndeojobaaGreatRows
import Derived.WalkKit
import Derived.ProofKit
import Derived.OpenShut
import Derived.Handy
import Derived.WalkLawsBesides
import Derived.Outline
import Derived.Lib.Hide
import Derived.Lib.AppendStr
import Derived.Lib.UnsafeStr
import Derived.Deep.QuietTactic
import Derived.BigQuiet
import Derived.StillTailTactics
import Derived.Deep.Draws
import Derived.Deep.AppendLies
import Derived.Deep.Slices
import Derived.Deep.Fields
import Derived.Deep.RegionHeld3
import Derived.Deep.RegionWith
import Derived.OwnWalk
import Derived.Laws.OwnMore
import Derived.Laws.Rows
import Derived.Laws.AppendOwnNone
import Derived.Maps.AppendAt
import Derived.Carry
import Derived.ChangeOld
import Derived.ShutString
import Derived.Test.YtckhddndeojobaaGreatProg
namespace Go.Proofs.YtckhddndeojobaaGreat
open Go.RowKit
set_option linter.unusedVariables false
set_option maxRecDepth 100000
set_option linter.unusedSimpArgs false

/-- The slice (A, n) shows the cells xs, 'size' cells an item, in a block below B. -/
def Sees (w : World) (B size : Nat) (A : Option Addr) (n : Nat) (xs : List Value) : Prop :=
  xs.length = n * size ∧ (0 < n → ∃ b off, A = some ⟨b, off, none⟩ ∧ b < B ∧ ∀ j u, xs[j]? = some u → w.cell? ⟨b, off + j, none⟩ = some u)

section
variable {w w' : World} {B B' size n : Nat} {A : Option Addr} {xs : List Value}
theorem Sees.nothing (w : World) (B size : Nat) (A : Option Addr) : Sees w B size A 0 [] := ⟨by simp, fun h => by omega⟩
theorem Sees.keep (h : Sees w B size A n xs) (hk : ∀ p : Addr, p.block < B → w'.cell? p = w.cell? p) : Sees w' B size A n xs := by
  refine ⟨h.1, fun hn => ?_⟩
  obtain ⟨b, off, rfl, hb, hc⟩ := h.2 hn
  exact ⟨b, off, rfl, hb, fun j u hu => (hk ⟨b, off + j, none⟩ hb).trans (hc j u hu)⟩
theorem Sees.more (h : Sees w B size A n xs) (hB : B ≤ B') : Sees w B' size A n xs := by
  refine ⟨h.1, fun hn => ?_⟩
  obtain ⟨b, off, rfl, hb, hc⟩ := h.2 hn
  exact ⟨b, off, rfl, by omega, hc⟩
theorem Sees.below (h : Sees w B size A n xs) (k : Below B w w') : Sees w' B size A n xs := h.keep fun _ hp => k.cell hp
theorem Sees.alloc (h : Sees w B size A n xs) (hB : B ≤ w.heap.size) (o : Obj) : Sees (w.alloc o) B size A n xs := h.keep fun p hp => World.cell?_alloc_lt w o p (by omega)
theorem Sees.drewN (h : Sees w B size A n xs) (k : Nat) : Sees (w.drewN k) B size A n xs := h
theorem Sees.set (h : Sees w B size A n xs) {p : Addr} (hB : B ≤ p.block) (u : Value) : Sees (w.setCell p u) B size A n xs :=
  h.keep fun q hq => World.cell?_setCell_other w p q u (fun e => by subst e; omega)
theorem Sees.own {base : Nat} {e : TypeId} {c : Nat} (h : w.ownsRow base e size (.slice A n c) n xs) : Sees w w.heap.size size A n xs := by
  refine ⟨h.1, fun hn => ?_⟩
  rcases h.2 with ⟨hv, h0⟩ | ⟨g, cap, cur, hv, hb, hg, h1, h2, h3, h4⟩
  · omega
  · simp only [Value.slice.injEq, and_true, true_and] at hv
    obtain ⟨rfl, rfl⟩ := hv
    refine ⟨g, 0, rfl, (Array.getElem?_eq_some_iff.1 hg).1, fun j u hu => ?_⟩
    have hj : j < xs.length := (List.getElem?_eq_some_iff.1 hu).1
    rw [Nat.zero_add, h.cellAt j (by have := h.1; omega)]
    exact hu
/-- The first k items. -/
theorem Sees.first (h : Sees w B size A n xs) {k : Nat} (hk : k ≤ n) : Sees w B size A k (xs.take (k * size)) := by
  have : k * size ≤ n * size := Nat.mul_le_mul_right _ hk
  refine ⟨by rw [List.length_take, h.1]; omega, fun hn => ?_⟩
  obtain ⟨b, off, rfl, hb, hc⟩ := h.2 (by omega)
  refine ⟨b, off, rfl, hb, fun j u hu => hc j u ?_⟩
  rw [List.getElem?_take] at hu
  split at hu
  · exact hu
  · cases hu
end

/-- Block g is just these cells, none frozen. -/
def Whole (w : World) (g : Nat) (t : TypeId) (cs : Array Value) : Prop := w.heap[g]? = some (.cells cs t (0, 0))
section
variable {w w' : World} {g : Nat} {t : TypeId} {cs : Array Value}
theorem Whole.lt (h : Whole w g t cs) : g < w.heap.size := (Array.getElem?_eq_some_iff.1 h).1
theorem Whole.cell (h : Whole w g t cs) (i : Nat) : w.cell? ⟨g, i, none⟩ = cs[i]? := cell_of_row w g i cs t (0, 0) h
theorem Whole.free (h : Whole w g t cs) (i : Nat) : w.frozen? ⟨g, i, none⟩ = false := frozen_of_row w g i cs t h
theorem Whole.fresh (w : World) (t : TypeId) (cs : Array Value) : Whole (w.alloc (.cells cs t)) w.heap.size t cs := heap_alloc_new w _
theorem Whole.drewN (h : Whole w g t cs) (n : Nat) : Whole (w.drewN n) g t cs := h
theorem Whole.alloc (h : Whole w g t cs) (o : Obj) : Whole (w.alloc o) g t cs := (Below.heap_alloc w o g h.lt).trans h
theorem Whole.set (h : Whole w g t cs) (i : Nat) (u : Value) : Whole (w.setCell ⟨g, i, none⟩ u) g t (cs.setIfInBounds i u) := heap_setCell_same w g i cs t u h
theorem Whole.away (h : Whole w g t cs) {p : Addr} (hp : g ≠ p.block) (u : Value) : Whole (w.setCell p u) g t cs := (Below.heap_setCell w p u g hp).trans h
theorem Whole.below {B : Nat} (h : Whole w g t cs) (k : Below B w w') (hg : g < B) : Whole w' g t cs := (k.block g hg).trans h
theorem Whole.grown {row : Option Nat} (h : Whole w g t cs) (k : w.grownBy w' row) (hg : some g ≠ row) : Whole w' g t cs := (k.block g h.lt hg).trans h
end

/-- Whole blocks whose items aren't of type e are as they were. -/
def KeepT (e : TypeId) (w w' : World) : Prop := ∀ g t cs, t ≠ e → Whole w g t cs → Whole w' g t cs
theorem KeepT.refl (e : TypeId) (w : World) : KeepT e w w := fun _ _ _ _ h => h
theorem KeepT.trans {e : TypeId} {a b c : World} (h : KeepT e a b) (k : KeepT e b c) : KeepT e a c := fun g t cs ht hw => k g t cs ht (h g t cs ht hw)
theorem KeepT.alloc {e : TypeId} {a w : World} (h : KeepT e a w) (o : Obj) : KeepT e a (w.alloc o) := fun g t cs ht hw => (h g t cs ht hw).alloc o
theorem KeepT.drewN {e : TypeId} {a w : World} (h : KeepT e a w) (n : Nat) : KeepT e a (w.drewN n) := h
theorem KeepT.of_below {e : TypeId} {w w' : World} (h : Below w.heap.size w w') : KeepT e w w' := fun g t cs _ hw => hw.below h hw.lt
theorem KeepT.of_own {e : TypeId} {w w' : World} {base size n : Nat} {v : Value} {xs : List Value} (h : w.ownsRow base e size v n xs) (hg : w.grownBy w' v.ownBlock) : KeepT e w w' := by
  intro g t cs ht hw
  refine hw.grown hg fun he => ?_
  rcases h.2 with ⟨rfl, _⟩ | ⟨g', cap, cur, rfl, _, hh, _⟩
  · simp [Value.ownBlock] at he
  · have : g = g' := by simpa [Value.ownBlock] using he
    subst this
    unfold Whole at hw
    rw [hh] at hw
    injection hw with hw
    injection hw with _ h2
    exact ht h2.symm

theorem add_at (b o x : Nat) : (⟨b, o, none⟩ : Addr).add x = ⟨b, o + x, none⟩ := by unfold Addr.add; split <;> simp_all
/-- append(v, x...): items of a slice that shows them come behind what is owned; the source may be nil. -/
theorem wpList_appG {ops : Array Oper} {rest : List Oper} {o : Oper} {a : Act} {Q : Exit → Act → World → Prop} {w : World} (hgd : o.guard = none) (s x : Operand) (t e : TypeId) (z : Value) (size bytes : Nat)
    (ho : o.op = .call { callee := .builtin .append, args := #[s, x], argTypes := #[t, t] }) (hinfo : (Tryz.prog.info? e).map (fun i => (i.zero, i.size, i.bytes)) = some (some z, size, bytes))
    (ht : Tryz.prog.underlying t = some (.slice e)) (hzs : z.cells.size = size) (hsz : 0 < size)
    (B : Nat) (v : Value) (n : Nat) (xs : List Value) (hs : a.eval s = v) (hown : w.ownsRow B e size v n xs) (B2 : Nat) (A : Option Addr) (m c : Nat) (news : List Value) (hx : a.eval x = .slice A m c) (hsee : Sees w B2 size A m news)
    (hc0 : A = none → c = 0) (h1 : ∀ u ∈ news, u.oneCell' = true) (h63 : n + m ≤ 9223372036854775807) (hbytes : (n + m) * bytes ≤ 140737488355328) (hB : B ≤ w.heap.size)
    (h : ∀ v' w', w'.ownsRow B e size v' (n + m) (xs ++ news) → w.grownBy w' v.ownBlock → wpList Tryz.prog ops Q rest (a.put o.dst v') w') :
    wpList Tryz.prog ops Q (o :: rest) a w := by
  obtain ⟨i0, hi, hz0, hz1, hz2⟩ := info_parts hinfo
  cases A with
  | none =>
    have hm : m = 0 := by
      rcases Nat.eq_zero_or_pos m with h0 | h0
      · exact h0
      · obtain ⟨b, off, hA, _⟩ := hsee.2 h0
        cases hA
    subst hm
    have hn : news = [] := List.eq_nil_of_length_eq_zero (by simpa using hsee.1)
    subst hn
    obtain rfl := hc0 rfl
    refine wpList_append_own_none hgd s x t ho B e i0 size ht hi v n xs hs hown hx ?_
    exact h v w (by simpa using hown) ⟨rfl, rfl, rfl, Nat.le_refl _, fun _ _ _ => rfl⟩
  | some ad =>
    refine wpList_append_own w hgd s x t ho B e i0 z size bytes ht hi hz0 hz1 hz2 hzs hsz v n xs hs hown ad m c news hx hsee.1 ?_ h1 (by unfold maxLen; exact h63) hbytes hB ?_
    · intro j u hu
      rcases Nat.eq_zero_or_pos m with h0 | h0
      · subst h0
        have hn : news = [] := List.eq_nil_of_length_eq_zero (by simpa using hsee.1)
        subst hn
        simp at hu
      · obtain ⟨b, off, hA, _, hc⟩ := hsee.2 h0
        injection hA with hA
        subst hA
        rw [add_at]; exact hc j u hu
    · intro v' w' hown' hg _
      exact h v' w' hown' hg
/-- The same of an operation behind a guard that is met. -/
theorem wpList_appH {ops : Array Oper} {rest : List Oper} {o : Oper} {a : Act} {Q : Exit → Act → World → Prop} {w : World} (hgd : Region.wanted o (yielded ops a.tmps) = true) (s x : Operand) (t e : TypeId) (z : Value) (size bytes : Nat)
    (ho : o.op = .call { callee := .builtin .append, args := #[s, x], argTypes := #[t, t] }) (hinfo : (Tryz.prog.info? e).map (fun i => (i.zero, i.size, i.bytes)) = some (some z, size, bytes))
    (ht : Tryz.prog.underlying t = some (.slice e)) (hzs : z.cells.size = size) (hsz : 0 < size)
    (B : Nat) (v : Value) (n : Nat) (xs : List Value) (hs : a.eval s = v) (hown : w.ownsRow B e size v n xs) (B2 : Nat) (A : Option Addr) (m c : Nat) (news : List Value) (hx : a.eval x = .slice A m c) (hsee : Sees w B2 size A m news)
    (hc0 : A = none → c = 0) (h1 : ∀ u ∈ news, u.oneCell' = true) (h63 : n + m ≤ 9223372036854775807) (hbytes : (n + m) * bytes ≤ 140737488355328) (hB : B ≤ w.heap.size)
    (h : ∀ v' w', w'.ownsRow B e size v' (n + m) (xs ++ news) → w.grownBy w' v.ownBlock → wpList Tryz.prog ops Q rest (a.put o.dst v') w') :
    wpList Tryz.prog ops Q (o :: rest) a w := by
  refine wpList_step fun K hK => ?_
  rw [if_pos hgd]
  obtain ⟨i0, hi, hz0, hz1, hz2⟩ := info_parts hinfo
  cases A with
  | none =>
    have hm : m = 0 := by
      rcases Nat.eq_zero_or_pos m with h0 | h0
      · exact h0
      · obtain ⟨b, off, hA, _⟩ := hsee.2 h0
        cases hA
    subst hm
    have hn : news = [] := List.eq_nil_of_length_eq_zero (by simpa using hsee.1)
    subst hn
    obtain rfl := hc0 rfl
    have hrun := run_append_owned_none (P := Tryz.prog) (w := w) B t o.type e i0 size ht hi v n xs hown
    unfold Oper.wp
    simp [execOp, ho, resolve, invoke, builtin, hs, hx, hrun, Result.andThen]
    exact hK _ _ (h v w (by simpa using hown) ⟨rfl, rfl, rfl, Nat.le_refl _, fun _ _ _ => rfl⟩)
  | some ad =>
    refine wp_append_own w s x t ho B e i0 z size bytes ht hi hz0 hz1 hz2 hzs hsz v n xs hs hown ad m c news hx hsee.1 ?_ h1 (by unfold maxLen; exact h63) hbytes hB fun v' w' h2 h3 _ => hK _ _ (h v' w' h2 h3)
    intro j u hu
    rcases Nat.eq_zero_or_pos m with h0 | h0
    · subst h0
      have hn : news = [] := List.eq_nil_of_length_eq_zero (by simpa using hsee.1)
      subst hn
      simp at hu
    · obtain ⟨b, off, hA, _, hc⟩ := hsee.2 h0
      injection hA with hA
      subst hA
      rw [add_at]; exact hc j u hu
theorem own_empty (w : World) (e : TypeId) (size : Nat) : (w.alloc (.cells #[] e)).ownsRow w.heap.size e size (.slice (some ⟨w.heap.size, 0, none⟩) 0 0) 0 [] :=
  ⟨by simp, .inr ⟨w.heap.size, 0, #[], rfl, Nat.le_refl _, heap_alloc_new w _, Nat.le_refl _, Nat.zero_le _, by simp, by simp⟩⟩
theorem laidOut : laidOutB Tryz.prog = true := by kernel_rfl
theorem own : ownKnob Tryz.prog.godebug = none := by kernel_rfl
theorem own_keep {w w' : World} {B B' size n : Nat} {e : TypeId} {v : Value} {xs : List Value} (h : w.ownsRow B e size v n xs) (k : Below B' w w') (hB : w.heap.size ≤ B') : w'.ownsRow B e size v n xs := by
  refine ⟨h.1, ?_⟩
  rcases h.2 with hn | ⟨g, cap, cur, rfl, hb, hg, r⟩
  · exact .inl hn
  · exact .inr ⟨g, cap, cur, rfl, hb, (k.block g (Nat.lt_of_lt_of_le (Array.getElem?_eq_some_iff.1 hg).1 hB)).trans hg, r⟩
theorem own_slice0 {w : World} {B size n : Nat} {e : TypeId} {v : Value} {xs : List Value} (h : w.ownsRow B e size v n xs) : ∃ a c, v = .slice a n c ∧ n ≤ c ∧ c ≤ 9223372036854775807 ∧ (a = none → c = 0) := by
  rcases h.2 with ⟨h, h0⟩ | ⟨g, c, cur, h, _, _, h1, h2, _⟩
  · exact ⟨none, 0, by rw [h, h0], by omega, by omega, fun _ => rfl⟩
  · exact ⟨_, c, h, h1, h2, fun h => by cases h⟩
theorem drew_below (w : World) (n : Nat) : Below w.heap.size w (w.drewN n) := by
  have h := Below.refl w.heap.size w
  exact ⟨h.os, h.tape, h.output, h.size, h.block⟩

theorem below_drewN {B : Nat} {a w : World} (h : Below B a w) (n : Nat) : Below B a (w.drewN n) := ⟨h.os, h.tape, h.output, h.size, h.block⟩

/-! ### Many blocks known whole -/
abbrev Row := Nat × TypeId × Array Value
/-- Each of these blocks has just these cells, none frozen. -/
def Knows (w : World) (L : List Row) : Prop := ∀ r ∈ L, Whole w r.1 r.2.1 r.2.2
theorem Knows.nil (w : World) : Knows w [] := fun r h => by cases h
theorem Knows.keep {w w' : World} {L : List Row} (h : Knows w L) (k : Below w.heap.size w w') : Knows w' L := fun r hr => (h r hr).below k (h r hr).lt
theorem Knows.keepB {w w' : World} {L : List Row} {B : Nat} (h : Knows w L) (k : Below B w w') (hB : w.heap.size ≤ B) : Knows w' L := fun r hr => (h r hr).below k (Nat.lt_of_lt_of_le (h r hr).lt hB)
theorem Knows.alloc {w : World} {L : List Row} (h : Knows w L) (g : Nat) (hg : g = w.heap.size) (t : TypeId) (cs : Array Value) : Knows (w.alloc (.cells cs t)) ((g, t, cs) :: L) := fun r hr => by
  subst hg
  rcases List.mem_cons.1 hr with rfl | hr
  · exact Whole.fresh w t cs
  · exact (h r hr).alloc _
theorem Knows.other {w : World} {L : List Row} (h : Knows w L) (o : Obj) : Knows (w.alloc o) L := fun r hr => (h r hr).alloc o
theorem Knows.drewN {w : World} {L : List Row} (h : Knows w L) (n : Nat) : Knows (w.drewN n) L := fun r hr => (h r hr).drewN n
theorem Knows.at {w : World} {L : List Row} (h : Knows w L) (i : Nat) {g : Nat} {t : TypeId} {cs : Array Value} (hr : L[i]? = some (g, t, cs)) : Whole w g t cs := h _ (List.mem_of_getElem? hr)
/-- What a block of two cells shows, and that they may be set. -/
theorem Knows.two {w : World} {L : List Row} (h : Knows w L) (i : Nat) (g : Nat) {t : TypeId} {a b : Value} (hr : L[i]? = some (g, t, #[a, b])) :
    w.cell? ⟨g, 0, none⟩ = some a ∧ w.cell? ⟨g, 1, none⟩ = some b ∧ w.frozen? ⟨g, 0, none⟩ = false ∧ w.frozen? ⟨g, 1, none⟩ = false ∧ g < w.heap.size :=
  ⟨(h.at i hr).cell 0, (h.at i hr).cell 1, (h.at i hr).free 0, (h.at i hr).free 1, (h.at i hr).lt⟩
theorem Knows.three {w : World} {L : List Row} (h : Knows w L) (i : Nat) (g : Nat) {t : TypeId} {a b c : Value} (hr : L[i]? = some (g, t, #[a, b, c])) :
    w.cell? ⟨g, 0, none⟩ = some a ∧ w.cell? ⟨g, 1, none⟩ = some b ∧ w.cell? ⟨g, 2, none⟩ = some c ∧ g < w.heap.size :=
  ⟨(h.at i hr).cell 0, (h.at i hr).cell 1, (h.at i hr).cell 2, (h.at i hr).lt⟩
theorem Knows.one {w : World} {L : List Row} (h : Knows w L) (i : Nat) (g : Nat) {t : TypeId} {a : Value} (hr : L[i]? = some (g, t, #[a])) :
    w.cell? ⟨g, 0, none⟩ = some a ∧ w.frozen? ⟨g, 0, none⟩ = false ∧ g < w.heap.size :=
  ⟨(h.at i hr).cell 0, (h.at i hr).free 0, (h.at i hr).lt⟩
/-- A cell of the i-th block is set. -/
theorem Knows.set {w : World} {L : List Row} (h : Knows w L) (i : Nat) {g : Nat} {t : TypeId} {cs : Array Value} (hr : L[i]? = some (g, t, cs)) (hd : ∀ j r, L[j]? = some r → r.1 = g → j = i) (k : Nat) (u : Value) :
    Knows (w.setCell ⟨g, k, none⟩ u) (L.set i (g, t, cs.setIfInBounds k u)) := by
  intro r hm
  obtain ⟨j, hj⟩ := List.mem_iff_getElem?.1 hm
  by_cases hji : j = i
  · subst hji
    rw [List.getElem?_set_self (List.getElem?_eq_some_iff.1 hr).1] at hj
    injection hj with hj; subst hj
    exact (h.at j hr).set k u
  · rw [List.getElem?_set_ne (fun e => hji e.symm)] at hj
    exact (h r (List.mem_of_getElem? hj)).away (fun e => hji (hd j r hj e)) u
theorem Knows.set0 {w : World} {L : List Row} {g : Nat} {t : TypeId} {cs : Array Value} (h : Knows w ((g, t, cs) :: L)) (hd : ∀ r ∈ L, r.1 ≠ g) (k : Nat) (u : Value) :
    Knows (w.setCell ⟨g, k, none⟩ u) ((g, t, cs.setIfInBounds k u) :: L) := by
  intro r hm
  rcases List.mem_cons.1 hm with rfl | hm
  · exact (h.at 0 rfl).set k u
  · exact (h r (List.mem_cons_of_mem _ hm)).away (hd r hm) u

/-- Where a walk stands: below W's size nothing has changed, and these blocks are known. -/
structure St (W w : World) (L : List Row) : Prop where
  below : Below W.heap.size W w
  knows : Knows w L
theorem St.start (W : World) : St W W [] := ⟨Below.refl _ _, Knows.nil _⟩
theorem St.call {W w w' : World} {L : List Row} (h : St W w L) (hb : Below w.heap.size w w') : St W w' L := ⟨h.below.trans (hb.mono h.below.size), h.knows.keep hb⟩
theorem St.same {W w w' : World} {L : List Row} (h : St W w L) (hb : w' = w) : St W w' L := by subst hb; exact h
theorem St.alloc {W w : World} {L : List Row} (h : St W w L) (g : Nat) (hg : g = w.heap.size) (t : TypeId) (cs : Array Value) : St W (w.alloc (.cells cs t)) ((g, t, cs) :: L) := ⟨h.below.alloc h.below.size _, h.knows.alloc g hg t cs⟩
theorem St.other {W w : World} {L : List Row} (h : St W w L) (o : Obj) : St W (w.alloc o) L := ⟨h.below.alloc h.below.size _, h.knows.other o⟩
theorem St.drewN {W w : World} {L : List Row} (h : St W w L) (n : Nat) : St W (w.drewN n) L := ⟨below_drewN h.below n, h.knows.drewN n⟩
theorem St.drawn {W w : World} {L : List Row} (h : St W w L) : ∀ w0, w0 = w.drew → St W w0 L := fun w0 e => by subst e; exact h.drewN 1
theorem St.two {W w : World} {L : List Row} (h : St W w L) (i : Nat) (g : Nat) {t : TypeId} {a b : Value} (hr : L[i]? = some (g, t, #[a, b])) :
    w.cell? ⟨g, 0, none⟩ = some a ∧ w.cell? ⟨g, 1, none⟩ = some b ∧ w.frozen? ⟨g, 0, none⟩ = false ∧ w.frozen? ⟨g, 1, none⟩ = false ∧ g < w.heap.size := h.knows.two i g hr
theorem St.one {W w : World} {L : List Row} (h : St W w L) (i : Nat) (g : Nat) {t : TypeId} {a : Value} (hr : L[i]? = some (g, t, #[a])) :
    w.cell? ⟨g, 0, none⟩ = some a ∧ w.frozen? ⟨g, 0, none⟩ = false ∧ g < w.heap.size := h.knows.one i g hr

/-! ### The lexical walk behind a wall: it is not unfolded (a run of operations that are left out is not reckoned through by itself) -/
structure WQ (P : Program) (ops : Array Oper) (C : World → Prop) (Q : Act → Prop) (l : List Oper) (a : Act) : Prop where
  out : wpQuiet P ops C Q l a
theorem WQ.step {P : Program} {ops : Array Oper} {C : World → Prop} {Q : Act → Prop} {a : Act} {o : Oper} {rest : List Oper}
    (h : ∀ K : Act → Prop, (∀ a, WQ P ops C Q rest a → K a) → if Region.wanted o (yielded ops a.tmps) then o.quiet P a C K else K (a.put o.dst undef)) : WQ P ops C Q (o :: rest) a :=
  ⟨wpQuiet_step fun K hK => h K fun a hw => hK a hw.out⟩
/-- The worlds in which the same is known, as a class of which nothing else is told. -/
theorem St.class {W w : World} {L : List Row} (h : St W w L) : ∃ C : World → Prop, C w.drew ∧ Hid (∀ a b, C a → Below a.heap.size a b → C b) ∧ Hid (∀ a, C a → St W a L) :=
  ⟨fun a => St W a L, h.drewN 1, Lib.hid fun a b ha hb => ha.call hb, Lib.hid fun a ha => ha⟩
/-- A region that draws its order, whose operations only read, and whose callees lead from the class C to it again: one walk, in the text's order. -/
theorem region_in {P : Program} {id : Nat} {Q : Exit → Act → World → Prop} {a : Act} {w : World} {l : List Oper} (C : World → Prop) (hC : C w.drew) (hm : P.follows .mixedOrders = true) (hB : Region.lexB .any l.toArray = true)
    (h : WQ P l.toArray C (fun a' => ∀ w', C w' → Q .normal a' w') l a) : (Code.region id l.toArray true).wp P Q a w :=
  wp_region_quiet (C := C) hm hB hC (by simpa using h.out)
theorem WQ.nil {P : Program} {ops : Array Oper} {C : World → Prop} {Q : Act → Prop} {a : Act} (h : Q a) : WQ P ops C Q [] a := ⟨wpQuiet_nil h⟩
end Go.Proofs.YtckhddndeojobaaGreat
