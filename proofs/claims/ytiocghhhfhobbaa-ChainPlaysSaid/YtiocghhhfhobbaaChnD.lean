/- Contracts at layer 11, of the document's: Counts, Same, Get, Put, Prune. -/
import Derived.Test.YtiocghhhfhobbaaChnP
namespace Go.Proofs.Ytiocghhhfhobbaa
open Go.RowKit Go.Cn
set_option linter.unusedVariables false
set_option linter.unusedSimpArgs false
set_option maxRecDepth 100000

theorem rcounts_any (A : Option Addr) (cap : Nat) (l : List Ve) (t : Int) (w : World) (hr : Rv w A cap l) (hs : Rise l) (hl : l.length ≤ 100000) :
    Calls Try.prog 27 #[.slice A l.length cap, .int .i64 t] w fun e w' => e = .returned (.int .i64 ((upTo l t : Nat) - 1 : Int)) ∧ w' = w := by
  have HR := Lib.hid hr
  have htop := hr.top
  have hroom := hr.room
  have hup := upTo_le l t
  have HT := Lib.hid (fun k v hk => lt_upTo hs t k v hk)
  clear hr
  generalize upTo l t = u at *
  go_enter Try.func27, Try.ntmps27
  go_wp2_with fail
  go_loopw [5, 6] (fun o i wr => ∃ k z : Nat, k ≤ l.length ∧ i = .int .i64 (k : Int) ∧ o = .int .i64 ((z : Int) - 1) ∧ (k ≤ u ∧ z = k ∨ u < k ∧ z = u) ∧ wr = w) (fun _ i _ => l.length - (intOf i).toNat)
  case atStart => exact ⟨0, 0, by omega, rfl, rfl, by omega, rfl⟩
  case round =>
    obtain ⟨k, z, hk, rfl, rfl, hz, e⟩ := hrel
    subst e
    by_cases hlt : k < l.length
    · obtain ⟨v, hv⟩ : ∃ v, l[k]? = some v := ⟨_, List.getElem?_eq_getElem hlt⟩
      obtain ⟨b0, off, rfl, hb0, g0, -⟩ := HR.out.cell k v hv
      have hu := HT.out k v hv
      have hkl : (k : Int) < (l.length : Int) := by omega
      clear hv
      by_cases hp : v.1 ≤ t
      · have h4 : k < u := hu.1 hp
        clear hu
        go_wp2_with fail
        go_roundw
        case rel => exact ⟨k + 1, k + 1, by omega, by go_num, by simp, by omega, by first | rfl | trivial⟩
        case measure => simp [intOf]; omega
      · have h4 : ¬ k < u := fun h => hp (hu.2 h)
        clear hu
        go_wp2_with fail
        go_roundw
        case rel => exact ⟨k + 1, z, by omega, by go_num, rfl, by omega, by first | rfl | trivial⟩
        case measure => simp [intOf]; omega
    · obtain rfl : k = l.length := by omega
      obtain rfl : z = u := by omega
      go_wp2_with fail
      go_ret
      exact ⟨rfl, rfl⟩
set_option maxHeartbeats 2000000 in
theorem rsame_any (A : Option Addr) (cap : Nat) (A' : Option Addr) (cap' : Nat) (l : List Ve) (w : World) (hr : Rv w A cap l) (hr' : Rv w A' cap' l) (hl : l.length ≤ 100000) :
    Calls Try.prog 13 #[.slice A l.length cap, .slice A' l.length cap'] w fun e w' => e = .returned (.bool true) ∧ Below w.heap.size w w' := by
  have HR := Lib.hid hr
  have HR' := Lib.hid hr'
  have htop := hr.top
  have hroom := hr.room
  have htop' := hr'.top
  have hroom' := hr'.room
  clear hr hr'
  go_enter Try.func13, Try.ntmps13
  go_wp2_with fail
  go_loopw [5] (fun i wr => ∃ k : Nat, k ≤ l.length ∧ i = .int .i64 (k : Int) ∧ Below w.heap.size w wr) (fun i _ => l.length - (intOf i).toNat)
  case atStart => exact ⟨0, by omega, rfl, Below.refl _ _⟩
  case round =>
    obtain ⟨k, hk, rfl, hb⟩ := hrel
    have HB := Lib.hid hb
    clear hb
    by_cases hlt : k < l.length
    · obtain ⟨v, hv⟩ : ∃ v, l[k]? = some v := ⟨_, List.getElem?_eq_getElem hlt⟩
      obtain ⟨b0, off, rfl, hb0, g0, g1⟩ := (HR.out.call HB.out).cell k v hv
      obtain ⟨b1, off1, rfl, hb1, k0, k1⟩ := (HR'.out.call HB.out).cell k v hv
      have hkl : (k : Int) < (l.length : Int) := by omega
      clear hv
      go_wp2_with fail
      go_quiet (fail)
      go_wp2_with fail
      go_roundw
      case rel => exact ⟨k + 1, by omega, by go_num, below_drewN HB.out _⟩
      case measure => simp [intOf]; omega
    · obtain rfl : k = l.length := by omega
      go_wp2_with fail
      go_ret
      exact ⟨rfl, HB.out⟩
theorem box_res (w : World) (A : Option Addr) (n cap : Nat) (m : Int) : St w ((w.alloc (.cells #[.slice A n cap, .int .i64 m] 27)).alloc (.cells #[.slice none 0 0, .int .i64 0] 27)) [(w.heap.size + 1, 27, #[.slice none 0 0, .int .i64 0]), (w.heap.size, 27, #[.slice A n cap, .int .i64 m])] :=
  ((St.start w).alloc w.heap.size rfl _ _).alloc (w.heap.size + 1) (by simp) _ _
theorem box_ver (w : World) (A : Option Addr) (n cap : Nat) (m : Int) : St w ((w.alloc (.cells #[.slice A n cap, .int .i64 m] 27)).alloc (.cells #[.int .i64 0, .int .i64 0] 34)) [(w.heap.size + 1, 34, #[.int .i64 0, .int .i64 0]), (w.heap.size, 27, #[.slice A n cap, .int .i64 m])] :=
  ((St.start w).alloc w.heap.size rfl _ _).alloc (w.heap.size + 1) (by simp) _ _
set_option maxHeartbeats 2000000 in
theorem rget_any (A : Option Addr) (cap : Nat) (c : Cs) (t : Int) (w : World) (hr : Rv w A cap c.l) (hok : Ok0 c) :
    Calls Try.prog 21 #[.agg #[.slice A c.l.length cap, .int .i64 c.mark], .int .i64 t] w fun e w' => e = .returned (.tuple #[aggV (getV c t), .int .i64 (getE c t)]) ∧ Below w.heap.size w w' := by
  have H := Lib.hid (box_ver w A c.l.length cap c.mark)
  have HR := Lib.hid hr
  have hfew := hok.few
  have HC := Lib.hid (fun w0 (h : Rv w0 A cap c.l) => rcounts_any A cap c.l t w0 h hok.rise (by omega))
  obtain ⟨d0, d1, f0, f1, z0⟩ := H.out.two 0 (w.heap.size + 1) rfl
  obtain ⟨c0, c1, -, -, z⟩ := H.out.two 1 w.heap.size rfl
  clear hr hok
  rcases get_cases c t with ⟨e1, e2, e3⟩ | ⟨e1, e4, e2, e3⟩ | ⟨e1, e4, e5, e2, e3⟩ | ⟨e1, e4, n, e5, e6, e7, e2⟩
  · rw [e2, e3]
    have e0 := (isT_no t).1 e1
    clear e1 e2 e3
    rcases e0 with e0 | e0
    case' inr => have e8 : ¬ t < 0 := by omega
    all_goals
      go_enter Try.func21, Try.ntmps21
      go_wp2_with fail
      refine bodyPost_ret (by simp [results, Try.results21, go_sem, d0, d1, f0, f1, z0]; try rfl) rfl ?_
      refine ⟨rfl, ?_⟩
      have hb := H.out.below
      go_grown
  all_goals
    obtain ⟨t0, t1⟩ := (isT_iff t).1 e1
    have t2 : ¬ t < 0 := by omega
    have t3 : ¬ 1125899906842624 < t := by omega
    clear e1
  · rw [e2, e3]
    clear e2 e3
    go_enter Try.func21, Try.ntmps21
    go_wp2_with fail
    refine bodyPost_ret (by simp [results, Try.results21, go_sem, d0, d1, f0, f1, z0]; try rfl) rfl ?_
    refine ⟨rfl, ?_⟩
    have hb := H.out.below
    go_grown
  · rw [e2, e3]
    rw [e5] at HC
    have i1 : ¬ t < c.mark := by omega
    clear e2 e3 e4 e5
    go_enter Try.func21, Try.ntmps21
    go_wp2_with fail
    refine (HC.out _ (HR.out.call H.out.below)).mono ?_
    rintro e w1 ⟨rfl, e1⟩
    subst w1
    go_wp2_with fail
    refine bodyPost_ret (by simp [results, Try.results21, go_sem, d0, d1, f0, f1, z0]; try rfl) rfl ?_
    refine ⟨rfl, ?_⟩
    have hb := H.out.below
    go_grown
  · rw [e2]
    rw [e5, show (((n + 1 : Nat) : Int) - 1) = (n : Int) by omega] at HC
    have i1 : ¬ t < c.mark := by omega
    have i2 : (n : Int) < (c.l.length : Int) := by omega
    generalize getV c t = v at *
    obtain ⟨b0, off, rfl, hb0, g0, g1⟩ := (HR.out.call H.out.below).cell n v e7
    clear e2 e4 e5 e7
    go_enter Try.func21, Try.ntmps21
    go_wp2_with fail
    refine (HC.out _ (HR.out.call H.out.below)).mono ?_
    rintro e w1 ⟨rfl, e1⟩
    subst w1
    go_wp2_with fail
    refine bodyPost_ret (by simp [results, Try.results21, go_sem, d0, d1, f0, f1, z0]; try rfl) rfl ?_
    refine ⟨rfl, ?_⟩
    have hb := H.out.below
    go_grown
end Go.Proofs.Ytiocghhhfhobbaa
