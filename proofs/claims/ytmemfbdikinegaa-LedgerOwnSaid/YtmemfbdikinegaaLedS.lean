/- A row of entries that is owned, sorted by the library by its keys; entries that are the same. -/
import Derived.Test.YtmemfbdikinegaaLokS
import Derived.Test.YtmemfbdikinegaaLedM
namespace Go.Proofs.Ytmemfbdikinegaa
open Go.Shelf Go.Sort Go.RowKit Go.Lk Go.Ld
set_option linter.unusedVariables false
set_option linter.unusedSimpArgs false
set_option maxRecDepth 100000

/-- The entry of a key, by what stands at each. -/
def encL (vl : Int → Int) (k : Int) : List Value := [.int .i64 k, .int .i64 (vl k)]
theorem encL_len (vl : Int → Int) (k : Int) : (encL vl k).length = 2 := rfl
theorem encL_one (vl : Int → Int) (k : Int) : ∀ v ∈ encL vl k, v.oneCell' = true := by
  intro v hv
  simp only [encL, List.mem_cons, List.not_mem_nil, or_false] at hv
  rcases hv with rfl | rfl <;> rfl
theorem closureE_any (x y b c : Int) (w : World) : Calls Try.prog 21 #[.agg #[.int .i64 x, .int .i64 b], .agg #[.int .i64 y, .int .i64 c]] w fun e w' => e = .returned (.int .i64 (cmpI x y)) ∧ ∃ q os', w' = grow (w.drewN q) os' := by
  have HC := Lib.hid (fun w0 => compare_any x y w0)
  generalize cmpI x y = r at *
  go_enter Try.func21, Try.ntmps21
  go_wp2_with fail
  refine (HC.out _).mono ?_
  rintro e w1 ⟨rfl, e1⟩
  subst w1
  go_wp2_with fail
  go_ret
  exact ⟨rfl, 0, _, by rw [alloc_eq_grow, alloc_eq_grow, grow_grow]; rfl⟩
theorem sortE_own (vl : Int → Int) (B g n cap : Nat) (l : List Int) (w : World) (hn : l.length = n) (h : w.ownsRow B 31 2 (.slice (some ⟨g, 0, none⟩) n cap) n (flat (encL vl) l)) (hl : n ≤ 1000000000) :
    Calls Try.prog 20 #[.slice (some ⟨g, 0, none⟩) n cap, .func (.func 21) #[] #[]] w fun e w' => e = .returned (.tuple #[]) ∧
      w'.ownsRow B 31 2 (.slice (some ⟨g, 0, none⟩) n cap) n (flat (encL vl) (l.mergeSort fun x y => decide (x ≤ y))) ∧ w.grownBy w' (some g) := by
  subst hn
  have eg : ∀ args w, (callFunc 21 args).run Try.prog w = .ok (.enter 21 args) w := enters_of Try.func21 (by kernel_rfl) rfl
  have hg : g < w.heap.size := by
    rcases h.2 with ⟨h0, _⟩ | ⟨g', cap', cur, hv, hb, hg, -⟩
    · simp at h0
    · simp only [Value.slice.injEq, Option.some.injEq, Addr.mk.injEq, and_true, true_and] at hv
      obtain ⟨rfl, rfl⟩ := hv
      exact (Array.getElem?_eq_some_iff.1 hg).1
  have hH : HoldsK (encL vl) 2 w g 0 l.toArray := by
    unfold HoldsK
    rw [flatK_flat (encL_len vl)]
    intro j hj
    have hj' : j < (flat (encL vl) l).length := by simpa using hj
    have hlen := flat_length (encL_len vl) l
    refine ⟨?_, ?_⟩
    · rw [Nat.zero_add, h.cellAt j (by omega), List.getElem?_eq_getElem hj']
      simp [hj']
    · rcases h.2 with ⟨h0, _⟩ | ⟨g', cap', cur, hv, hb, hg2, -⟩
      · simp at h0
      · simp only [Value.slice.injEq, Option.some.injEq, Addr.mk.injEq, and_true, true_and] at hv
        obtain ⟨rfl, rfl⟩ := hv
        simp [World.frozen?, hg2]
  have hcon := AnyQ.slices_SortFunc_total shfF 2 Try.isAgg31 Try.sizeOf31 (encL vl) (encL_len vl) (encL_one vl) cmpI swo_cmp 21 #[] g 0 cap l.toArray w eg (fun _ _ _ _ x y => closureE_any x y _ _ _) hH hg (by simpa using (by omega : l.length < 4611686018427387904)) total_cmp
  have e1 : (fun x y => !(ltOf cmpI) y x) = fun (x y : Int) => decide (x ≤ y) := by
    funext x y
    rw [ltOf_cmp]
    by_cases hxy : x ≤ y
    · simp [hxy]
    · simp [hxy]; omega
  rw [e1] at hcon
  refine Calls.mono hcon ?_
  rintro e w' ⟨rfl, m, os, rfl⟩
  refine ⟨rfl, ?_, ?_⟩
  · unfold sortWorldK putRowK
    rw [flatK_flat (encL_len vl)]
    have := own_put (enc := id) (m := m) (os := os) h (flat (encL vl) (l.mergeSort fun x y => decide (x ≤ y))) (by rw [flat_length (encL_len vl), flat_length (encL_len vl), List.length_mergeSort])
    rwa [List.map_id] at this
  · unfold sortWorldK putRowK
    exact grown_put _

theorem sortE_none (p : Option Addr) (cap : Nat) (fv : Value) (w : World) : Calls Try.prog 20 #[.slice p 0 cap, fv] w fun e w' => e = .returned (.tuple #[]) ∧ w' = w := AnyF.slices_SortFunc_none shfF p cap fv w
set_option maxHeartbeats 2000000 in
theorem rsame_any (A : Option Addr) (cap : Nat) (A' : Option Addr) (cap' : Nat) (vl : Int → Int) (l : List Int) (w : World) (hr : Sees w w.heap.size 2 A l.length (flat (encL vl) l)) (hr' : Sees w w.heap.size 2 A' l.length (flat (encL vl) l)) (hc : l.length ≤ cap) (hc' : l.length ≤ cap') (hl : l.length ≤ 100000) :
    Calls Try.prog 14 #[.slice A l.length cap, .slice A' l.length cap'] w fun e w' => e = .returned (.bool true) ∧ Below w.heap.size w w' := by
  have HR := Lib.hid hr
  have HR' := Lib.hid hr'
  clear hr hr'
  go_enter Try.func14, Try.ntmps14
  go_wp2_with fail
  go_loopw [5] (fun i wr => ∃ k : Nat, k ≤ l.length ∧ i = .int .i64 (k : Int) ∧ Below w.heap.size w wr) (fun i _ => l.length - (intOf i).toNat)
  case atStart => exact ⟨0, by omega, rfl, Below.refl _ _⟩
  case round =>
    obtain ⟨k, hk, rfl, hb⟩ := hrel
    have HB := Lib.hid hb
    clear hb
    by_cases hlt : k < l.length
    · obtain ⟨v, hv⟩ : ∃ v, l[k]? = some v := ⟨_, List.getElem?_eq_getElem hlt⟩
      obtain ⟨b0, off, rfl, hb0, h0⟩ := (HR.out.below HB.out).item (encL_len vl) (by omega) k v hv
      obtain ⟨b1, off1, rfl, hb1, h1⟩ := (HR'.out.below HB.out).item (encL_len vl) (by omega) k v hv
      have g0 := h0 0 _ rfl
      have g1 := h0 1 _ rfl
      have k0 := h1 0 _ rfl
      have k1 := h1 1 _ rfl
      rw [Nat.add_zero] at g0 k0
      have hkl : (k : Int) < (l.length : Int) := by omega
      clear hv h0 h1
      go_wp2_with fail
      go_quiet (fail)
      go_wp2_with fail
      go_roundw
      case rel => exact ⟨k + 1, by omega, by go_num, below_drewN HB.out _⟩
      case measure => simp [intOf]; omega
    · obtain rfl : k = l.length := by omega
      go_wp2_with fail
      go_ret
      exact ⟨rfl, HB.out⟩
end Go.Proofs.Ytmemfbdikinegaa
