/- Layer 15: what the laws need besides: entries that are the same; what stays, and goes, behind a call. -/
import Derived.Test.YtckhddndeojobaaGreatVltA
namespace Go.Vt
open Go.Cn Go.So Go.Lk
set_option linter.unusedVariables false
section
variable {v : Vt} {m : Nat}
theorem stays_one {S : List En} {u : Int} (h : Stay S v.s u) (o : Op15) : Stay S (oneV v o).s u := by
  unfold oneV
  split
  · exact stays_open h _ _ _
  split
  · exact stays_hold h _ _
  split
  · exact stays_commit h _ _
  split
  · exact stays_drop h _
  split
  · exact stays_close h _
  split
  · exact stays_prune h _
  · exact h
theorem goes_one (o : Op15) (j : Int) : Goes (fateOf v j) (fateOf (oneV v o) j) := by
  unfold oneV
  split
  · exact goes_open _ _ _ _
  split
  · exact goes_hold _ _ _
  split
  · exact goes_commit _ _ _
  split
  · exact goes_drop _ _
  split
  · exact goes_close _ _
  split
  · exact goes_prune _ _
  · exact Goes.refl _
theorem Good.told (h : Good v m) : tellsE v.s v.s.closed = 0 := by
  have h1 := h.sto.range
  have h2 := h.top
  exact tells_zero.2 ⟨(isT_iff _).2 (by omega), Int.le_refl _, by omega⟩
end
end Go.Vt
namespace Go.Proofs.YtckhddndeojobaaGreat
open Go.ChangeShapes Go.WideShapes Go.ChangeAt Go.RowKit Go.Cn Go.So Go.Vt
set_option linter.unusedVariables false
set_option linter.unusedSimpArgs false
set_option maxRecDepth 100000
theorem own_block {w : World} {B size n c : Nat} {e : TypeId} {A : Option Addr} {xs : List Value} {a : Addr} (h : w.ownsRow B e size (.slice A n c) n xs) (ha : A = some a) : B ≤ a.block ∧ a.block < w.heap.size := by
  subst ha
  rcases h.2 with ⟨hn, -⟩ | ⟨g, cap, cur, e1, hb, hg, -⟩
  · cases hn
  · injection e1 with e1 e2 e3
    injection e1 with e1
    subst e1
    exact ⟨hb, (Array.getElem?_eq_some_iff.1 hg).1⟩
set_option maxHeartbeats 2000000 in
theorem rsame_any (A : Option Addr) (cap : Nat) (A' : Option Addr) (cap' : Nat) (l : List En) (w : World) (hr : Sees w w.heap.size 2 A l.length (flat encE l)) (hr' : Sees w w.heap.size 2 A' l.length (flat encE l)) (hc : l.length ≤ cap) (hc' : l.length ≤ cap') (hl : l.length ≤ 100000) :
    Calls Tryz.prog 11 #[.slice A l.length cap, .slice A' l.length cap'] w fun e w' => e = .returned (.bool true) ∧ Below w.heap.size w w' := by
  have HR := Lib.hid hr
  have HR' := Lib.hid hr'
  clear hr hr'
  go_enter Tryz.func11, Tryz.ntmps11
  go_wp2_with fail
  go_loopw [5] (fun i wr => ∃ k : Nat, k ≤ l.length ∧ i = .int .i64 (k : Int) ∧ Below w.heap.size w wr) (fun i _ => l.length - (intOf i).toNat)
  case atStart => exact ⟨0, by omega, rfl, Below.refl _ _⟩
  case round =>
    obtain ⟨k, hk, rfl, hb⟩ := hrel
    have HB := Lib.hid hb
    clear hb
    by_cases hlt : k < l.length
    · obtain ⟨v, hv⟩ : ∃ v, l[k]? = some v := ⟨_, List.getElem?_eq_getElem hlt⟩
      obtain ⟨b0, off, rfl, hb0, h0⟩ := (HR.out.below HB.out).item encE_len (by omega) k v hv
      obtain ⟨b1, off1, rfl, hb1, h1⟩ := (HR'.out.below HB.out).item encE_len (by omega) k v hv
      have g0 := h0 0 _ rfl
      have g1 := h0 1 _ rfl
      have k0 := h1 0 _ rfl
      have k1 := h1 1 _ rfl
      rw [Nat.add_zero] at g0 k0
      have hkl : (k : Int) < (l.length : Int) := by omega
      clear hv h0 h1
      go_wp2_with fail
      go_quiet (fail)
      go_wp2_with fail
      go_roundw
      case rel => exact ⟨k + 1, by omega, by go_num, below_drewN HB.out _⟩
      case measure => simp [intOf]; omega
    · obtain rfl : k = l.length := by omega
      go_wp2_with fail
      go_ret
      exact ⟨rfl, HB.out⟩
end Go.Proofs.YtckhddndeojobaaGreat
