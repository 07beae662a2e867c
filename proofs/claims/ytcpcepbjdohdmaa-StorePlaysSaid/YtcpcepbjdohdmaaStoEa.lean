/- Layer 12: rows of entries whose numbers change. (Written by gstoe.py.) -/
import Derived.Test.YtcpcepbjdohdmaaStoE
namespace Go.Proofs.Ytcpcepbjdohdmaa
open Go.ChangeShapes Go.WideShapes Go.ChangeAt Go.RowKit Go.Cn Go.So
set_option linter.unusedVariables false
set_option linter.unusedSimpArgs false
set_option maxRecDepth 100000
/-- A row of entries of which only their numbers' being numbers is told. -/
def AnyE (w : World) (b : Nat) (n : Nat) : Prop := ∃ cs, Whole w b 58 cs ∧ ∀ k, k < n → ∃ x : Int, cs[k * 2 + 1]? = some (.int .i64 x)
theorem AnyE.own {w : World} {B n cap : Nat} {A : Option Addr} {l : List En} (h : w.ownsRow B 58 2 (.slice A n cap) n (flat encE l)) (hl : l.length = n) (hn : 0 < n) : ∃ b, A = some ⟨b, 0, none⟩ ∧ B ≤ b ∧ b < w.heap.size ∧ AnyE w b n := by
  have hs := Sees.own h
  rcases h.2 with ⟨-, h0⟩ | ⟨g, c, cur, hv, hb, hg, -⟩
  · omega
  · injection hv with e1 e2 e3
    subst e1
    refine ⟨g, rfl, hb, (Array.getElem?_eq_some_iff.1 hg).1, cur, hg, fun k hk => ?_⟩
    subst hl
    obtain ⟨b, off, hA, -, hc⟩ := hs.item encE_len (by omega) k l[k] (List.getElem?_eq_getElem hk)
    injection hA with hA
    injection hA with e1 e2
    subst e1 e2
    have q0 := hc 1 _ rfl
    rw [Nat.zero_add, Whole.cell (show Whole w g 58 cur from hg)] at q0
    exact ⟨_, q0⟩
theorem AnyE.set {w : World} {b n : Nat} (h : AnyE w b n) (k : Nat) (x : Int) : AnyE (w.setCell ⟨b, k * 2 + 1, none⟩ (.int .i64 x)) b n := by
  obtain ⟨cs, hw, hc⟩ := h
  refine ⟨_, hw.set (k * 2 + 1) (.int .i64 x), fun j hj => ?_⟩
  obtain ⟨y, hy⟩ := hc j hj
  by_cases hjk : j = k
  · subst hjk
    refine ⟨x, ?_⟩
    have := (Array.getElem?_eq_some_iff.1 hy).1
    rw [Array.getElem?_setIfInBounds_self_of_lt this]
  · refine ⟨y, ?_⟩
    rw [Array.getElem?_setIfInBounds_ne (by omega)]
    exact hy
theorem AnyE.call {w w' : World} {b n : Nat} (h : AnyE w b n) (hb : Below w.heap.size w w') : AnyE w' b n := by
  obtain ⟨cs, hw, hc⟩ := h
  exact ⟨cs, hw.below hb hw.lt, hc⟩
theorem AnyE.at {w w' : World} {b n : Nat} (h : AnyE w b n) (hb : w'.heap[b]? = w.heap[b]?) : AnyE w' b n := by
  obtain ⟨cs, hw, hc⟩ := h
  exact ⟨cs, hb.trans hw, hc⟩
/-- One of them changes: nothing that a walk knows of else. -/
theorem Ps.any {W w : World} {L : List Row} {g : Nat} {s : Sto} {Y : Nat → Prop} {b : Nat} (h : Ps W w L g s Y) (hb : W.heap.size ≤ b) (hL : ∀ r ∈ L, r.1 ≠ b) (hY : Y b) (j : Nat) (u : Value) : Ps W (w.setCell ⟨b, j, none⟩ u) L g s Y :=
  h.off (G := fun x => x = b) ((Off.refl (fun x => x = b) w).set (p := ⟨b, j, none⟩) (.inl rfl) u) (fun x hx => by subst hx; exact hb) (fun r hr => hL r hr) fun x hx => by subst hx; exact hY
theorem Dv.away {w : World} {A : Option Addr} {cap : Nat} {l : List Dr} {b : Nat} (h : Dv w A cap l) (hb : ¬ ym A b) (j : Nat) (u : Value) : Dv (w.setCell ⟨b, j, Option.none⟩ u) A cap l :=
  h.keep (Y := ym A) ⟨by simp, fun x hx => Below.heap_setCell _ _ _ _ (fun e => hb (by simp only at e; exact e ▸ hx))⟩ fun a ha => ⟨a, ha, rfl⟩
end Go.Proofs.Ytcpcepbjdohdmaa
