/- Tables of locks in memory, by their footprint. -/
import Derived.Test.YtcjefigcaifmeaaMapG
import Derived.Test.YtcjefigcaifmeaaLokP
import Derived.Test.YtcjefigcaifmeaaLokS
namespace Go.Proofs.Ytcjefigcaifmeaa
open Go.RowKit Go.Lk
set_option linter.unusedVariables false
set_option linter.unusedSimpArgs false
set_option maxRecDepth 100000

/-! ### What maps lead to -/
/-- A hold. (A structure of its own: the walks take pairs apart.) -/
structure Hd where
  tx : Int
  b : Bool
abbrev hE (p : Hd) : Value := .agg #[.int .i64 p.tx, .bool p.b]
abbrev rE (p : Option Nat × Option Nat) : Value := .agg #[.map p.1, .map p.2]
def pE : Option Nat → Value
  | some b => ptr b
  | none => .pointer none
abbrev uE (_ : Unit) : Value := .agg #[]
theorem hE_inj : Inj hE := fun a b h => by
  obtain ⟨a1, a2⟩ := a
  obtain ⟨b1, b2⟩ := b
  simpa [hE] using h
theorem rE_inj : Inj rE := fun a b h => by
  obtain ⟨a1, a2⟩ := a
  obtain ⟨b1, b2⟩ := b
  simpa [rE] using h
theorem pE_inj : Inj pE := fun a b h => by
  cases a <;> cases b <;> simp [pE, ptr] at h ⊢
  exact h
theorem uE_inj : Inj uE := fun _ _ _ => rfl
theorem zero_hE (w : World) : (zeroValue 60).run Try.prog w = .ok (hE ⟨0, false⟩) w := by kernel_rfl
theorem zero_rE (w : World) : (zeroValue 63).run Try.prog w = .ok (rE (none, none)) w := by kernel_rfl
theorem zero_pE (w : World) : (zeroValue 70).run Try.prog w = .ok (pE none) w := by kernel_rfl
/-- Holders, or waiting ones, as a map leads to them. -/
def hF (f : Lk.Fn) : Int → Option Hd := fun x => (f x).map fun b => ⟨x, b⟩
theorem hF_some (f : Lk.Fn) (x : Int) : (hF f x).isSome = (f x).isSome := by unfold hF; cases f x <;> rfl
theorem hF_upd (f : Lk.Fn) (x : Int) (b : Bool) : upd (hF f) x (some ⟨x, b⟩) = hF (upd f x (some b)) := by
  funext y
  unfold hF upd
  split <;> simp_all
theorem hF_del (f : Lk.Fn) (x : Int) : upd (hF f) x none = hF (upd f x none) := by
  funext y
  unfold hF upd
  split <;> rfl
theorem supp_hF (f : Lk.Fn) (h : Fin1 f) : supp (hF f) = supp f := supp_eq (supp_rises h) fun x => by rw [supp_mem h, hF_some]
theorem fin_hF {f : Lk.Fn} (h : Fin1 (hF f)) : Fin1 f := h.less fun x hx => by rw [hF_some]; exact hx
abbrev Mh (w : World) (mb : Nat) (f : Lk.Fn) : Prop := Mv hE w mb (hF f)
abbrev Moh (w : World) (mo : Option Nat) (f : Lk.Fn) : Prop := Mo hE w mo (hF f)

/-! ### A table's blocks -/
inductive Nm where
  | face
  | rows
  | pars
  | h (k : Int)
  | w (k : Int)
  | p (x : Int)
  | ks (x : Int)
def live (s : Tb) : Nm → Bool
  | .h k => s.row k
  | .w k => s.row k
  | .p x => s.inn x
  | .ks x => s.inn x
  | _ => true
def rowF (s : Tb) (loc : Nm → Nat) : Int → Option (Option Nat × Option Nat) := fun k => if s.row k = true then some (some (loc (.h k)), some (loc (.w k))) else none
def parF (s : Tb) (loc : Nm → Nat) : Int → Option (Option Nat) := fun x => if s.inn x = true then some (some (loc (.p x))) else none
def uF (g : Int → Bool) : Int → Option Unit := fun k => if g k = true then some () else none
def ksF (s : Tb) (x : Int) : Int → Option Unit := uF (s.ks x)
/-- What a block of it is. -/
def Has (w : World) (s : Tb) (loc : Nm → Nat) : Nm → Prop
  | .face => Whole w (loc .face) 53 #[.map (some (loc .rows)), .map (some (loc .pars))]
  | .rows => Mv rE w (loc .rows) (rowF s loc)
  | .pars => Mv pE w (loc .pars) (parF s loc)
  | .h k => Mh w (loc (.h k)) (s.h k)
  | .w k => Mh w (loc (.w k)) (s.w k)
  | .p x => Whole w (loc (.p x)) 69 #[.map (some (loc (.ks x))), .bool (s.waits x), .bool (s.dead x)]
  | .ks x => Mv uE w (loc (.ks x)) (ksF s x)
section
variable {w w' : World} {s s' : Tb} {loc loc' : Nm → Nat}
theorem Has.lt {a : Nm} (h : Has w s loc a) : loc a < w.heap.size := by
  cases a with
  | face => exact Whole.lt h
  | rows => exact Mv.lt h
  | pars => exact Mv.lt h
  | h k => exact Mv.lt h
  | w k => exact Mv.lt h
  | p x => exact Whole.lt h
  | ks x => exact Mv.lt h
theorem Has.at {a : Nm} (h : Has w s loc a) (he : w'.heap[loc a]? = w.heap[loc a]?) : Has w' s loc a := by
  cases a with
  | face => exact he.trans h
  | rows => exact Mv.at h he
  | pars => exact Mv.at h he
  | h k => exact Mv.at h he
  | w k => exact Mv.at h he
  | p x => exact he.trans h
  | ks x => exact Mv.at h he
/-- A table whose blocks lie as loc says. -/
structure Tm (w : World) (s : Tb) (loc : Nm → Nat) : Prop where
  inj : ∀ a b, live s a = true → live s b = true → loc a = loc b → a = b
  has : ∀ a, live s a = true → Has w s loc a
def Foot (s : Tb) (loc : Nm → Nat) : Nat → Prop := fun b => ∃ a, live s a = true ∧ loc a = b
theorem Tm.low (T : Tm w s loc) {b : Nat} (hb : Foot s loc b) : b < w.heap.size := by obtain ⟨a, ha, rfl⟩ := hb; exact (T.has a ha).lt
theorem Tm.off {G : Nat → Prop} (T : Tm w s loc) (ho : Off G w w') (hG : ∀ b, Foot s loc b → ¬ G b) : Tm w' s loc :=
  ⟨T.inj, fun a ha => (T.has a ha).at (ho.block _ (T.has a ha).lt (hG _ ⟨a, ha, rfl⟩))⟩
theorem Tm.call (T : Tm w s loc) (hb : Below w.heap.size w w') : Tm w' s loc := T.off (.of hb fun _ => False) fun b _ h => h
/-- One block of it changes, and what that tells. -/
theorem Tm.one (T : Tm w s loc) (a : Nm) (ha : live s a = true) (ho : Off (fun b => b = loc a) w w') (hl : ∀ n, live s' n = live s n) (hs : ∀ n, n ≠ a → live s n = true → Has w s loc n → Has w s' loc n) (hn : Has w' s' loc a) : Tm w' s' loc := by
  refine ⟨fun m n hm hn2 e => T.inj m n (by rw [← hl]; exact hm) (by rw [← hl]; exact hn2) e, fun n hn2 => ?_⟩
  rw [hl] at hn2
  by_cases e : n = a
  · subst e; exact hn
  · have h := hs n e hn2 (T.has n hn2)
    exact h.at (ho.block _ (T.has n hn2).lt fun e2 => e (T.inj n a hn2 ha e2))
/-- A table by its footprint. -/
def Tab (w : World) (g : Nat) (s : Tb) (F : Nat → Prop) : Prop := ∃ loc, loc .face = g ∧ Tm w s loc ∧ ∀ b, F b ↔ Foot s loc b
/-- The table g has become s, and nothing else that is old has changed. -/
structure WentT (F : Nat → Prop) (w w' : World) (g : Nat) (s : Tb) : Prop where
  off : Off F w w'
  tab : ∃ F', (∀ b, F' b → F b ∨ w.heap.size ≤ b) ∧ Tab w' g s F'
variable {g : Nat} {F : Nat → Prop}
theorem Tm.tab (T : Tm w s loc) : Tab w (loc .face) s (Foot s loc) := ⟨loc, rfl, T, fun b => Iff.rfl⟩
theorem Tab.call (x : Tab w g s F) (hb : Below w.heap.size w w') : Tab w' g s F := by
  obtain ⟨loc, h1, h2, h3⟩ := x
  exact ⟨loc, h1, h2.call hb, h3⟩
theorem Tab.off {G : Nat → Prop} (x : Tab w g s F) (ho : Off G w w') (hG : ∀ b, F b → ¬ G b) : Tab w' g s F := by
  obtain ⟨loc, h1, h2, h3⟩ := x
  exact ⟨loc, h1, h2.off ho fun b hb => hG b ((h3 b).2 hb), h3⟩
theorem Tab.low (x : Tab w g s F) {b : Nat} (hb : F b) : b < w.heap.size := by
  obtain ⟨loc, h1, h2, h3⟩ := x
  exact h2.low ((h3 b).1 hb)
theorem Tab.mine (x : Tab w g s F) : F g := by
  obtain ⟨loc, h1, h2, h3⟩ := x
  exact (h3 g).2 ⟨.face, rfl, h1⟩
theorem WentT.same (x : Tab w g s F) (hb : Below w.heap.size w w') : WentT F w w' g s := ⟨.of hb F, F, fun b h => .inl h, x.call hb⟩
theorem WentT.before {w1 : World} (hb : Below w.heap.size w w1) (hm : WentT F w1 w' g s) : WentT F w w' g s := by
  obtain ⟨ho, F', hF, hd⟩ := hm
  refine ⟨(Off.of hb F).trans ho, F', fun b hf => ?_, hd⟩
  rcases hF b hf with h | h
  · exact .inl h
  · exact .inr (Nat.le_trans hb.size h)
theorem WentT.after {w1 : World} (hm : WentT F w w1 g s) (hb : Below w1.heap.size w1 w') : WentT F w w' g s := by
  obtain ⟨ho, F', hF, hd⟩ := hm
  exact ⟨ho.call hb, F', hF, hd.call hb⟩
theorem WentT.then {w1 : World} (hm : WentT F w w1 g s) (hn : ∀ F1, Tab w1 g s F1 → WentT F1 w1 w' g s') : WentT F w w' g s' := by
  obtain ⟨ho, F', hF, hd⟩ := hm
  obtain ⟨ho2, F2, hF2, hd2⟩ := hn F' hd
  refine ⟨ho.then hF ho2, F2, fun b hb => ?_, hd2⟩
  rcases hF2 b hb with h | h
  · exact hF b h
  · exact .inr (Nat.le_trans ho.size h)
/-- Nothing that is no part of the table has changed. -/
theorem WentT.whole (hm : WentT F w w' g s) {x : Nat} {t : TypeId} {cs : Array Value} (k : Whole w x t cs) (hx : ¬ F x) : Whole w' x t cs := hm.off.whole k hx

/-! ### What is read of it -/
theorem Tm.face (T : Tm w s loc) : w.cell? ⟨loc .face, 0, none⟩ = some (.map (some (loc .rows))) ∧ w.cell? ⟨loc .face, 1, none⟩ = some (.map (some (loc .pars))) ∧ loc .face < w.heap.size := by
  have h : Whole w (loc .face) 53 #[.map (some (loc .rows)), .map (some (loc .pars))] := T.has .face rfl
  exact ⟨h.cell 0, h.cell 1, h.lt⟩
/-- A key's row, as the table's map tells it. -/
def rowV (s : Tb) (loc : Nm → Nat) (k : Int) : Option Nat × Option Nat := (rowF s loc k).getD (none, none)
theorem Tm.rows (T : Tm w s loc) {k : Int} (hk : W64 k) :
    (Instr.lookup 50 (.map (some (loc .rows))) (.int .i64 k) true).run Try.prog w = .ok (.tuple #[rE (rowV s loc k), .bool (s.row k)]) w ∧ (Instr.lookup 50 (.map (some (loc .rows))) (.int .i64 k) false).run Try.prog w = .ok (rE (rowV s loc k)) w := by
  have h : Mv rE w (loc .rows) (rowF s loc) := T.has .rows rfl
  have hl := h.look rE_inj Try.underlying50 (zero_rE w) hk
  have e : (rowF s loc k).isSome = s.row k := by unfold rowF; split <;> simp_all
  rw [e] at hl
  exact hl
theorem Tm.pars (T : Tm w s loc) {x : Int} (hx : W64 x) :
    (Instr.lookup 51 (.map (some (loc .pars))) (.int .i64 x) true).run Try.prog w = .ok (.tuple #[pE ((parF s loc x).getD none), .bool (s.inn x)]) w ∧ (Instr.lookup 51 (.map (some (loc .pars))) (.int .i64 x) false).run Try.prog w = .ok (pE ((parF s loc x).getD none)) w := by
  have h : Mv pE w (loc .pars) (parF s loc) := T.has .pars rfl
  have hl := h.look pE_inj Try.underlying51 (zero_pE w) hx
  have e : (parF s loc x).isSome = s.inn x := by unfold parF; split <;> simp_all
  rw [e] at hl
  exact hl
theorem parF_in {x : Int} (h : s.inn x = true) : pE ((parF s loc x).getD none) = ptr (loc (.p x)) := by unfold parF; rw [if_pos h]; rfl
theorem parF_out {x : Int} (h : s.inn x = false) : pE ((parF s loc x).getD none) = .pointer none := by unfold parF; rw [if_neg (by rw [h]; simp)]; rfl
theorem rowV_in {k : Int} (h : s.row k = true) : rowV s loc k = (some (loc (.h k)), some (loc (.w k))) := by unfold rowV rowF; rw [if_pos h]; rfl
theorem rowV_out {k : Int} (h : s.row k = false) : rowV s loc k = (none, none) := by unfold rowV rowF; rw [if_neg (by rw [h]; simp)]; rfl
/-- The two maps of a key's row. -/
theorem Tm.row (T : Tm w s loc) {K : Int → Prop} (m : Mid s K) (k : Int) : Moh w (rowV s loc k).1 (s.h k) ∧ Moh w (rowV s loc k).2 (s.w k) := by
  cases hr : s.row k with
  | true =>
    rw [rowV_in hr]
    exact ⟨.inr ⟨_, rfl, T.has (.h k) hr⟩, .inr ⟨_, rfl, T.has (.w k) hr⟩⟩
  | false =>
    rw [rowV_out hr]
    refine ⟨.inl ⟨rfl, fun x => none_of fun h => ?_⟩, .inl ⟨rfl, fun x => none_of fun h => ?_⟩⟩
    · rw [hF_some] at h
      obtain ⟨c, hc⟩ := some_of h
      have := (m.hin k x c hc).2
      rw [hr] at this; cases this
    · rw [hF_some] at h
      obtain ⟨c, hc⟩ := some_of h
      have := (m.win k x c hc).2
      rw [hr] at this; cases this
theorem Tm.party (T : Tm w s loc) {x : Int} (hx : s.inn x = true) : Whole w (loc (.p x)) 69 #[.map (some (loc (.ks x))), .bool (s.waits x), .bool (s.dead x)] ∧ Mv uE w (loc (.ks x)) (ksF s x) := ⟨T.has (.p x) hx, T.has (.ks x) hx⟩
end
end Go.Proofs.Ytcjefigcaifmeaa
