/- Locks: LocksPlays: the document's calls as the program's; words for the law. -/
import Derived.Test.YtcjefigcaifmeaaLokTd
import Derived.Test.YtcjefigcaifmeaaLokAx
import Derived.Test.YtcjefigcaifmeaaLokPl
import Derived.Test.YtcjefigcaifmeaaLokB
namespace Go.Proofs.Ytcjefigcaifmeaa
open Go.ChangeShapes Go.WideShapes Go.ChangeAt Go.RowKit Go.Lk
set_option linter.unusedVariables false
set_option linter.unusedSimpArgs false
set_option maxRecDepth 100000
theorem go_next {s s' : Tb} {H W H' W' : List Rw} {D D' : List Int} {n : Nat} (g : Go2 s H W D n) (hn : n < 30) (h : Rel H' s'.h) (w : Rel W' s'.w) (d : RelD D' s'.dead) (l1 : H'.length ≤ H.length + W.length + 1) (l2 : W'.length ≤ W.length + 1) (l3 : D'.length ≤ D.length + H.length) : Go2 s' H' W' D' (n + 1) := by
  have a1 := g.lw
  have a2 := g.lh
  have a3 := g.ld
  exact ⟨h, w, d, by omega, by omega, by omega⟩
theorem docAskG {s : Tb} {H W : List Rw} {D : List Int} {n : Nat} (m : Fine s) (g2 : Go2 s H W D n) (hn : n < 30) (B : Nat) (vH vW vD : Value) (x k : Int) (b : Bool) (hx : W64 x) (w : World) (hB : B ≤ w.heap.size) (hH : OwR w B vH H) (hW : OwR w B vW W) (hD : OwD w B vD D) :
    ∃ H' W' D', Go2 (askS s x b k) H' W' D' (n + 1) ∧ Calls Try.prog 7 #[.agg #[vH, vW, vD], .int .i64 x, .int .i64 k, .bool b] w fun e w' => ∃ A1 c1 A2 c2 A3 c3 A cap A' cap', e = .returned (.tuple #[.agg #[.slice A1 H'.length c1, .slice A2 W'.length c2, .slice A3 D'.length c3], .agg #[.bool (askA s x b k).granted, .slice A (askA s x b k).wounded.length cap, .slice A' (askA s x b k).woken.length cap'], .int .i64 (askE s x k)]) ∧
      OwR w' B (.slice A1 H'.length c1) H' ∧ OwR w' B (.slice A2 W'.length c2) W' ∧ OwD w' B (.slice A3 D'.length c3) D' ∧ OwD w' w.heap.size (.slice A (askA s x b k).wounded.length cap) (askA s x b k).wounded ∧ OwG w' w.heap.size (.slice A' (askA s x b k).woken.length cap') (askA s x b k).woken ∧ Below w.heap.size w w' := by
  obtain ⟨H', W', D', e1, k1, k2, k3, l1, l2, l3⟩ := ask_all (k := k) (b := b) m g2.h g2.w g2.d hx.2
  have a1 := g2.lw
  have a2 := g2.lh
  have a3 := g2.ld
  refine ⟨H', W', D', go_next g2 hn k1 k2 k3 l1 l2 l3, ?_⟩
  have := docAsk_any B vH vW vD H W D x k b w hB hH hW hD (by omega) (by omega) (by omega)
  rw [e1] at this
  refine this.mono ?_
  rintro e w' ⟨vh, vw, vd, A, cap, A', cap', rfl, h1, h2, h3, h4, h5, h6⟩
  obtain ⟨A1, c1, rfl, -⟩ := own_slice0 h1
  obtain ⟨A2, c2, rfl, -⟩ := own_slice0 h2
  obtain ⟨A3, c3, rfl, -⟩ := own_slice0 h3
  exact ⟨A1, c1, A2, c2, A3, c3, A, cap, A', cap', rfl, h1, h2, h3, h4, h5, h6⟩
theorem docEndG {s : Tb} {H W : List Rw} {D : List Int} {n : Nat} (m : Fine s) (g2 : Go2 s H W D n) (hn : n < 30) (B : Nat) (vH vW vD : Value) (x : Int) (w : World) (hB : B ≤ w.heap.size) (hH : OwR w B vH H) (hW : OwR w B vW W) (hD : OwD w B vD D) :
    ∃ H' W' D', Go2 (endS s x) H' W' D' (n + 1) ∧ Calls Try.prog 11 #[.agg #[vH, vW, vD], .int .i64 x] w fun e w' => ∃ A1 c1 A2 c2 A3 c3 A cap, e = .returned (.tuple #[.agg #[.slice A1 H'.length c1, .slice A2 W'.length c2, .slice A3 D'.length c3], .slice A (endA s x).length cap, .int .i64 (if x < 1 then 130 else 0)]) ∧
      OwR w' B (.slice A1 H'.length c1) H' ∧ OwR w' B (.slice A2 W'.length c2) W' ∧ OwD w' B (.slice A3 D'.length c3) D' ∧ OwG w' w.heap.size (.slice A (endA s x).length cap) (endA s x) ∧ Below w.heap.size w w' := by
  have a1 := g2.lw
  have a2 := g2.lh
  have a3 := g2.ld
  by_cases hx : x < 1
  · obtain ⟨e1, e2⟩ := end_nobody (s := s) hx
    refine ⟨H, W, D, by rw [e1]; exact go_next g2 hn g2.h g2.w g2.d (by omega) (by omega) (by omega), ?_⟩
    refine (docEndN_any B vH vW vD H W D x w hB hH hW hD hx).mono ?_
    rintro e w' ⟨vh, vw, vd, rfl, h1, h2, h3, h6⟩
    obtain ⟨A1, c1, rfl, -⟩ := own_slice0 h1
    obtain ⟨A2, c2, rfl, -⟩ := own_slice0 h2
    obtain ⟨A3, c3, rfl, -⟩ := own_slice0 h3
    rw [e2, if_pos hx]
    exact ⟨A1, c1, A2, c2, A3, c3, none, 0, rfl, h1, h2, h3, own_zero3 _ _ _ _, h6⟩
  · obtain ⟨H', W', e1, k1, k2, k3, l1, l2, l3⟩ := end_all m g2.h g2.w g2.d (x := x) (by omega)
    refine ⟨H', W', D.filter fun y => y != x, go_next g2 hn k1 k2 k3 l1 l2 (by omega), ?_⟩
    have := docEnd_any B vH vW vD H W D x w hB hH hW hD (by omega) (by omega) (by omega) (by omega)
    rw [e1] at this
    refine this.mono ?_
    rintro e w' ⟨vh, vw, vd, vo, rfl, h1, h2, h3, h4, h6⟩
    obtain ⟨A1, c1, rfl, -⟩ := own_slice0 h1
    obtain ⟨A2, c2, rfl, -⟩ := own_slice0 h2
    obtain ⟨A3, c3, rfl, -⟩ := own_slice0 h3
    obtain ⟨A4, c4, rfl, -⟩ := own_slice0 h4
    rw [if_neg hx]
    exact ⟨A1, c1, A2, c2, A3, c3, A4, c4, rfl, h1, h2, h3, h4, h6⟩
theorem dead_in {s : Tb} {D : List Int} (r : RelD D s.dead) (x : Int) : decide (x ∈ D) = s.dead x := by
  rw [Bool.eq_iff_iff, decide_eq_true_eq]
  exact r x
/-- Three cells of a known block, which isn't the first one, are told anew. -/
theorem Pd.setK3 {W w : World} {L : List Row} {g : Nat} {s : Tb} {p : Nat} {vh vw vd : Value} {H Wt : List Rw} {D : List Int} {n q : Nat} {t : TypeId} {cs : Array Value} (h : Pd W w ((q, t, cs) :: L) g s p vh vw vd H Wt D n) (hq : W.heap.size ≤ q) (hd : ∀ r ∈ L, r.1 ≠ q) (h1 : t ≠ 74) (h2 : t ≠ 3) (hc : cs.size = 3) (u0 u1 u2 : Value) :
    Pd W (((w.setCell ⟨q, 0, none⟩ u0).setCell ⟨q, 1, none⟩ u1).setCell ⟨q, 2, none⟩ u2) ((q, t, #[u0, u1, u2]) :: L) g s p vh vw vd H Wt D n := by
  have := ((h.set0 hq hd h1 h2 0 u0).set0 hq hd h1 h2 1 u1).set0 hq hd h1 h2 2 u2
  rwa [arr3 cs hc] at this
theorem own_small {w : World} {B size n cap : Nat} {e : TypeId} {A : Option Addr} {xs : List Value} (h : w.ownsRow B e size (.slice A n cap) n xs) : n ≤ 9223372036854775807 := by
  obtain ⟨a, c, e, h1, h2, -⟩ := own_slice0 h
  omega
theorem own_set3k {w : World} {B size n q : Nat} {e t : TypeId} {v : Value} {xs : List Value} {cs : Array Value} (h : w.ownsRow B e size v n xs) (hq : Whole w q t cs) (ht : t ≠ e) (u0 u1 u2 : Value) : (((w.setCell ⟨q, 0, none⟩ u0).setCell ⟨q, 1, none⟩ u1).setCell ⟨q, 2, none⟩ u2).ownsRow B e size v n xs :=
  own_set (own_set (own_set h (own_kind h hq ht)) (own_kind h hq ht)) (own_kind h hq ht)
end Go.Proofs.Ytcjefigcaifmeaa
