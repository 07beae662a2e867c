/- Contracts of the program's calls at layer 9, of a net that says a string: Send; slices.IndexFunc, slices.DeleteFunc, Purge. -/
import Derived.Test.YtmbednikbdfnmaaPosterS
namespace Go.Proofs.Ytmbednikbdfnmaa
open Go.RowKit Go.Po Go.Maps
set_option linter.unusedVariables false
set_option linter.unusedSimpArgs false
set_option maxRecDepth 100000

/-- The place of the first letter to somebody, or -1. -/
def sfirst (l : List (Lt (List UInt8))) (x : Int) : Int := match l.findIdx? (fun y => decide (y.to = x)) with | some i => i | none => -1
theorem spurge1_any (bx : Nat) (x : Int) (l : Lt (List UInt8)) (hl : W64 l.to) (hx : W64 x) (w : World) (hb : Whole w bx 3 #[.int .i64 x]) :
    Calls Try.prog 66 (#[.agg #[.int .i64 l.id, .int .i64 l.frm, .int .i64 l.to, sP l.m]] ++ #[ptr bx]) w fun e w' => e = .returned (.bool (decide (l.to = x))) ∧ Below w.heap.size w w' := by
  have h1 := (hb.alloc (.cells #[.int .i64 l.id, .int .i64 l.frm, .int .i64 l.to, sP l.m] 54)).cell 0
  show Calls Try.prog _ #[.agg #[.int .i64 l.id, .int .i64 l.frm, .int .i64 l.to, sP l.m], ptr bx] w _
  go_enter Try.func66, Try.ntmps66
  go_wp2_with fail
  go_ret
  refine ⟨ret_bool ?_, (Below.refl _ _).alloc (Nat.le_refl _) _⟩
  rw [Bool.eq_iff_iff]
  simp
set_option maxHeartbeats 1000000 in
theorem sindex_any (fn : Nat) (hen : ∀ (args : Array Value) (w : World), (callFunc fn args).run Try.prog w = .ok (.enter fn args) w) (bx : Nat) (x : Int)
    (A : Option Addr) (cap : Nat) (l : List (Lt (List UInt8))) (hl : l.length ≤ 1000000) (hcap : l.length ≤ cap)
    (hfn : ∀ y ∈ l, ∀ w1 : World, Whole w1 bx 3 #[.int .i64 x] → Calls Try.prog fn (#[.agg #[.int .i64 y.id, .int .i64 y.frm, .int .i64 y.to, sP y.m]] ++ #[ptr bx]) w1 fun e w' => e = .returned (.bool (decide (y.to = x))) ∧ Below w1.heap.size w1 w')
    (w : World) (hs : Sees w w.heap.size 4 A l.length (flat (encL sP) l)) (hb : Whole w bx 3 #[.int .i64 x]) :
    Calls Try.prog 82 #[.slice A l.length cap, .func (.func fn) #[] #[ptr bx]] w fun e w' => e = .returned (.int .i64 (sfirst l x)) ∧ Below w.heap.size w w' := by
  have HS := Lib.hid hs
  have HW := Lib.hid hb
  have HFN := Lib.hid hfn
  clear hs hb hfn
  go_enter Try.func82, Try.ntmps82
  go_wp2_with fail
  go_loopw [8] (fun i wr => ∃ k : Nat, k ≤ l.length ∧ i = .int .i64 (k : Int) ∧ (∀ j y, j < k → l[j]? = some y → decide (y.to = x) = false) ∧ Below w.heap.size w wr) (fun i _ => l.length - (intOf i).toNat)
  case atStart => exact ⟨0, Nat.zero_le _, rfl, fun j y h => by omega, Below.refl _ _⟩
  case round =>
    obtain ⟨k, hk, rfl, hall, hbel⟩ := hrel
    have HALL := Lib.hid hall
    have HB := Lib.hid hbel
    have hbsz := hbel.size
    clear hall hbel
    by_cases hlt : k < l.length
    · obtain ⟨y, hy⟩ : ∃ y, l[k]? = some y := ⟨_, List.getElem?_eq_getElem hlt⟩
      obtain ⟨b0, off, rfl, hb, hcc⟩ := (HS.out.below HB.out).item (encL_len sP) (by omega) k y hy
      have q0 := hcc 0 _ rfl
      have q1 := hcc 1 _ rfl
      have q2 := hcc 2 _ rfl
      have q3 := hcc 3 _ rfl
      rw [Nat.add_zero] at q0
      have HF := Lib.hid (HFN.out y (List.mem_of_getElem? hy) wr (HW.out.below HB.out HW.out.lt))
      have HST : Hid (decide (y.to = x) = false → ∀ j z, j < k + 1 → l[j]? = some z → decide (z.to = x) = false) := Lib.hid fun h j z hj hz => by
        by_cases e : j = k
        · subst e
          rw [hy] at hz
          injection hz with hz
          subst hz
          exact h
        · exact HALL.out j z (by omega) hz
      have HFI : Hid (decide (y.to = x) = true → sfirst l x = k) := Lib.hid fun h => by
        unfold sfirst
        have : l.findIdx? (fun y => decide (y.to = x)) = some k := by
          rw [List.findIdx?_eq_some_iff_getElem]
          obtain ⟨h1, h2⟩ := List.getElem?_eq_some_iff.1 hy
          refine ⟨h1, by rw [h2]; exact h, fun j hj => ?_⟩
          have := HALL.out j (l[j]'(by omega)) hj (List.getElem?_eq_getElem _)
          rw [this]
          decide
        rw [this]
      clear hcc hy hb
      have i1 : (k : Int) < (l.length : Int) := by omega
      generalize hpr : decide (y.to = x) = pr at *
      clear hpr
      go_wp2_with fail
      refine HF.out.mono ?_
      rintro e w1 ⟨rfl, hb1⟩
      have HB1 := Lib.hid (HB.out.trans (hb1.mono hbsz))
      clear hb1
      cases pr with
      | true =>
        go_wp2_with fail
        go_ret
        rw [HFI.out (by trivial)]
        exact ⟨rfl, HB1.out⟩
      | false =>
        go_wp2_with fail
        go_roundw
        case rel => exact ⟨k + 1, by omega, by simp, HST.out (by trivial), HB1.out⟩
        case measure => simp [intOf]; omega
    · have hk : k = l.length := by omega
      subst hk
      have HFI : Hid (sfirst l x = -1) := Lib.hid (by
        unfold sfirst
        have : l.findIdx? (fun y => decide (y.to = x)) = none := by
          rw [List.findIdx?_eq_none_iff]
          intro z hz
          obtain ⟨j, hj⟩ := List.mem_iff_getElem?.1 hz
          exact HALL.out j z (List.getElem?_eq_some_iff.1 hj).1 hj
        rw [this])
      go_wp2_with fail
      go_ret
      rw [HFI.out]
      exact ⟨rfl, HB.out⟩
/-- A letter is laid at a place of a row. -/
theorem flat_at_set {α : Type} (p : α → Value) (l : List (Lt α)) (a : Nat) (y : Lt α) :
    ((((flat (encL p) l).set (a * 4) (.int .i64 y.id)).set (a * 4 + 1) (.int .i64 y.frm)).set (a * 4 + 2) (.int .i64 y.to)).set (a * 4 + 3) (p y.m) = flat (encL p) (l.set a y) := by
  induction l generalizing a with
  | nil => simp [flat]
  | cons z l ih =>
    cases a with
    | zero =>
      rw [List.set_cons_zero, show z :: l = [z] ++ l from rfl, flat_append, flat_one, show y :: l = [y] ++ l from rfl, flat_append, flat_one]
      simp [encL]
    | succ a =>
      rw [List.set_cons_succ, show z :: l = [z] ++ l from rfl, flat_append, flat_one, show z :: l.set a y = [z] ++ l.set a y from rfl, flat_append, flat_one, ← ih a]
      rw [show (a + 1) * 4 = a * 4 + 4 by omega, show a * 4 + 4 + 1 = a * 4 + 1 + 4 by omega, show a * 4 + 4 + 2 = a * 4 + 2 + 4 by omega, show a * 4 + 4 + 3 = a * 4 + 3 + 4 by omega]
      simp [encL]
/-- Those that stay, of the first k. -/
def skept (l : List (Lt (List UInt8))) (x : Int) (k : Nat) : List (Lt (List UInt8)) := (l.take k).filter fun y => decide (y.to ≠ x)
theorem skept_le (l : List (Lt (List UInt8))) (x : Int) (k : Nat) : (skept l x k).length ≤ k := by
  unfold skept
  have := List.length_filter_le (fun y : Lt (List UInt8) => decide (y.to ≠ x)) (l.take k)
  rw [List.length_take] at this
  omega
theorem skept_next {l : List (Lt (List UInt8))} {k : Nat} {y : Lt (List UInt8)} (hy : l[k]? = some y) (x : Int) : skept l x (k + 1) = if decide (y.to = x) = true then skept l x k else skept l x k ++ [y] := by
  unfold skept
  rw [List.take_add_one, hy, List.filter_append]
  by_cases h : y.to = x <;> simp [h]
theorem skept_all (l : List (Lt (List UInt8))) (x : Int) : skept l x l.length = l.filter fun y => decide (y.to ≠ x) := by unfold skept; rw [List.take_length]
theorem skept_first {l : List (Lt (List UInt8))} {x : Int} {k : Nat} (h : l.findIdx? (fun y => decide (y.to = x)) = some k) : skept l x (k + 1) = l.take k ∧ k < l.length := by
  rw [List.findIdx?_eq_some_iff_getElem] at h
  obtain ⟨h1, h2, h3⟩ := h
  refine ⟨?_, h1⟩
  rw [skept_next (List.getElem?_eq_getElem h1), if_pos h2]
  unfold skept
  rw [List.filter_eq_self]
  intro z hz
  obtain ⟨j, hj⟩ := List.mem_iff_getElem?.1 hz
  rw [List.getElem?_take] at hj
  split at hj
  · rename_i hjk
    obtain ⟨h5, h6⟩ := List.getElem?_eq_some_iff.1 hj
    have := h3 j hjk
    rw [h6] at this
    simpa using this
  · cases hj
theorem own_set4 {α : Type} {p : α → Value} {w : World} {B g n cap : Nat} {e : TypeId} {l : List (Lt α)} (h : w.ownsRow B e 4 (.slice (some ⟨g, 0, none⟩) n cap) n (flat (encL p) l)) (a : Nat) (y : Lt α) :
    ((((w.setCell ⟨g, a * 4, none⟩ (.int .i64 y.id)).setCell ⟨g, a * 4 + 1, none⟩ (.int .i64 y.frm)).setCell ⟨g, a * 4 + 2, none⟩ (.int .i64 y.to)).setCell ⟨g, a * 4 + 3, none⟩ (p y.m)).ownsRow B e 4 (.slice (some ⟨g, 0, none⟩) n cap) n (flat (encL p) (l.set a y)) ∧
      w.grownBy ((((w.setCell ⟨g, a * 4, none⟩ (.int .i64 y.id)).setCell ⟨g, a * 4 + 1, none⟩ (.int .i64 y.frm)).setCell ⟨g, a * 4 + 2, none⟩ (.int .i64 y.to)).setCell ⟨g, a * 4 + 3, none⟩ (p y.m)) (some g) := by
  rw [← flat_at_set]
  have h1 := h.stored (a * 4) (.int .i64 y.id)
  have h2 := h1.1.stored (a * 4 + 1) (.int .i64 y.frm)
  have h3 := h2.1.stored (a * 4 + 2) (.int .i64 y.to)
  have h4 := h3.1.stored (a * 4 + 3) (p y.m)
  exact ⟨h4.1, ((h1.2.trans h2.2).trans h3.2).trans h4.2⟩
theorem own_letter {α : Type} {p : α → Value} {w : World} {B g n cap : Nat} {e : TypeId} {l : List (Lt α)} (h : w.ownsRow B e 4 (.slice (some ⟨g, 0, none⟩) n cap) n (flat (encL p) l)) {i : Nat} {y : Lt α} (hi : l[i]? = some y) :
    (w.cell? ⟨g, i * 4, none⟩ = some (.int .i64 y.id) ∧ w.cell? ⟨g, i * 4 + 1, none⟩ = some (.int .i64 y.frm) ∧ w.cell? ⟨g, i * 4 + 2, none⟩ = some (.int .i64 y.to) ∧ w.cell? ⟨g, i * 4 + 3, none⟩ = some (p y.m)) ∧ ∀ j, w.frozen? ⟨g, j, none⟩ = false := by
  have hlt := (List.getElem?_eq_some_iff.1 hi).1
  have hn := h.1
  rw [flat_length (encL_len p)] at hn
  have hat := flat_at (encL_len p) l i y hi
  refine ⟨⟨?_, ?_, ?_, ?_⟩, fun j => h.frozenAt j⟩
  · rw [h.cellAt (i * 4) (by omega)]; exact hat 0 (by omega)
  · rw [h.cellAt (i * 4 + 1) (by omega)]; exact hat 1 (by omega)
  · rw [h.cellAt (i * 4 + 2) (by omega)]; exact hat 2 (by omega)
  · rw [h.cellAt (i * 4 + 3) (by omega)]; exact hat 3 (by omega)
set_option maxHeartbeats 2000000 in
theorem sdeletes_any (fn : Nat) (hen : ∀ (args : Array Value) (w : World), (callFunc fn args).run Try.prog w = .ok (.enter fn args) w) (bx : Nat) (x : Int)
    (A : Option Addr) (cap : Nat) (l : List (Lt (List UInt8))) (hl : l.length ≤ 1000000)
    (hfn : ∀ y ∈ l, ∀ w1 : World, Whole w1 bx 3 #[.int .i64 x] → Calls Try.prog fn (#[.agg #[.int .i64 y.id, .int .i64 y.frm, .int .i64 y.to, sP y.m]] ++ #[ptr bx]) w1 fun e w' => e = .returned (.bool (decide (y.to = x))) ∧ Below w1.heap.size w1 w')
    (w : World) (hown : w.ownsRow 0 54 4 (.slice A l.length cap) l.length (flat (encL sP) l)) (hb : Whole w bx 3 #[.int .i64 x]) :
    Calls Try.prog 65 #[.slice A l.length cap, .func (.func fn) #[] #[ptr bx]] w fun e w' =>
      e = .returned (.slice A (l.filter fun y => decide (y.to ≠ x)).length cap) ∧ w'.ownsRow 0 54 4 (.slice A (l.filter fun y => decide (y.to ≠ x)).length cap) (l.filter fun y => decide (y.to ≠ x)).length (flat (encL sP) (l.filter fun y => decide (y.to ≠ x))) ∧ w.grownBy w' (Value.slice A l.length cap).ownBlock := by
  obtain ⟨A', cap', hv, h1, h2, h3⟩ := own_slice0 hown
  simp only [Value.slice.injEq, true_and] at hv
  obtain ⟨rfl, rfl⟩ := hv
  have HIX := Lib.hid (sindex_any fn hen bx x A cap l hl h1 hfn w (Sees.own hown) hb)
  have HO := Lib.hid hown
  have HW := Lib.hid hb
  have HFN := Lib.hid hfn
  clear hfn
  rcases hfi : l.findIdx? (fun y => decide (y.to = x)) with _ | k
  · have HR : Hid (sfirst l x = -1) := Lib.hid (by unfold sfirst; rw [hfi])
    have HE : (l.filter fun y => decide (y.to ≠ x)) = l := by
      rw [List.filter_eq_self]
      intro y hy
      have := List.findIdx?_eq_none_iff.1 hfi y hy
      simpa using this
    rw [HE]
    rw [HR.out] at HIX
    clear hown hb hfi HE
    go_enter Try.func65, Try.ntmps65
    go_wp2_with fail
    refine HIX.out.mono ?_
    rintro e w1 ⟨rfl, hb1⟩
    have HB1 := Lib.hid hb1
    clear hb1
    go_wp2_with fail
    go_ret
    refine ⟨rfl, own_keep HO.out HB1.out (Nat.le_refl _), HB1.out.os, HB1.out.tape, HB1.out.output, HB1.out.size, fun i hi _ => HB1.out.block i hi⟩
  · obtain ⟨hk1, hk2⟩ := skept_first hfi
    have HR : Hid (sfirst l x = k) := Lib.hid (by unfold sfirst; rw [hfi])
    rw [HR.out] at HIX
    obtain ⟨g, rfl⟩ : ∃ g, A = some ⟨g, 0, none⟩ := by
      rcases hown.2 with ⟨h, h0⟩ | ⟨g, cap', cur, h, -⟩
      · omega
      · simp only [Value.slice.injEq, true_and] at h; exact ⟨g, h.1⟩
    have HNE : Hid (some bx ≠ some g) := Lib.hid fun e => by
      injection e with e
      obtain ⟨cs, hcs⟩ := own_whole hown rfl
      exact whole_unlike hb hcs (by decide) e
    have HK1 := Lib.hid hk1
    have HALL := Lib.hid (skept_all l x)
    have hsub : (k : Int) ≠ -1 := by omega
    clear hown hb hfi hk1
    show Calls Try.prog _ _ w fun e w' => _ ∧ _ ∧ w.grownBy w' (some g)
    go_enter Try.func65, Try.ntmps65
    go_wp2_with fail
    refine HIX.out.mono ?_
    rintro e w1 ⟨rfl, hb1⟩
    have HB1 := Lib.hid hb1
    clear hb1
    go_wp2_with fail
    have q9 : ((k : Int) == -1) = false := by simp <;> omega
    rw [q9]
    clear q9
    go_loopw [5, 6] (fun i j wr => ∃ c : Nat, k + 1 ≤ c ∧ c ≤ l.length ∧ i = .int .i64 ((skept l x c).length : Int) ∧ j = .int .i64 (c : Int) ∧ (skept l x c).length < c ∧
      wr.ownsRow 0 54 4 (.slice (some ⟨g, 0, none⟩) l.length cap) l.length (flat (encL sP) (skept l x c ++ l.drop (skept l x c).length)) ∧ w.grownBy wr (some g)) (fun _ j _ => l.length - (intOf j).toNat)
    case atStart =>
      refine ⟨k + 1, Nat.le_refl _, hk2, ?_, by simp, ?_, ?_, ⟨HB1.out.os, HB1.out.tape, HB1.out.output, HB1.out.size, fun i hi _ => HB1.out.block i hi⟩⟩
      · rw [HK1.out, List.length_take, Nat.min_eq_left (by omega)]
      · rw [HK1.out, List.length_take]; omega
      · rw [HK1.out, List.length_take, Nat.min_eq_left (by omega), List.take_append_drop]
        exact own_keep HO.out HB1.out (Nat.le_refl _)
    case round =>
      obtain ⟨c, hc1, hc2, rfl, rfl, hlt, ho, hg⟩ := hrel
      have HOR := Lib.hid ho
      have HG := Lib.hid hg
      have HWR := Lib.hid (HW.out.grown hg HNE.out)
      clear ho hg
      by_cases hcl : c < l.length
      · obtain ⟨y, hy⟩ : ∃ y, l[c]? = some y := ⟨_, List.getElem?_eq_getElem hcl⟩
        obtain ⟨z, hz⟩ : ∃ z, l[(skept l x c).length]? = some z := ⟨_, List.getElem?_eq_getElem (by omega)⟩
        have HN := Lib.hid (skept_next hy x)
        have hmy : (skept l x c ++ l.drop (skept l x c).length)[c]? = some y := by
          rw [List.getElem?_append_right (by omega), List.getElem?_drop, show (skept l x c).length + (c - (skept l x c).length) = c by omega]; exact hy
        have HMZ : Hid ((skept l x c ++ l.drop (skept l x c).length)[(skept l x c).length]? = some z) := Lib.hid (by
          rw [List.getElem?_append_right (Nat.le_refl _), Nat.sub_self, List.getElem?_drop, Nat.add_zero]; exact hz)
        have HSET : Hid ((skept l x c ++ l.drop (skept l x c).length).set (skept l x c).length y = (skept l x c ++ [y]) ++ l.drop ((skept l x c).length + 1)) := Lib.hid (by
          rw [List.set_append_right _ _ (Nat.le_refl _), Nat.sub_self, List.drop_eq_getElem_cons (show (skept l x c).length < l.length by omega), List.set_cons_zero, List.append_assoc]; rfl)
        obtain ⟨⟨q0, q1, q2, q3⟩, -⟩ := own_letter HOR.out hmy
        have HF := Lib.hid (HFN.out y (List.mem_of_getElem? hy) _ (HWR.out.alloc (.cells #[.int .i64 y.id, .int .i64 y.frm, .int .i64 y.to, sP y.m] 54)))
        have HWL : Hid (Whole (wr.alloc (.cells #[.int .i64 y.id, .int .i64 y.frm, .int .i64 y.to, sP y.m] 54)) wr.heap.size 54 #[.int .i64 y.id, .int .i64 y.frm, .int .i64 y.to, sP y.m]) := Lib.hid (Whole.fresh wr _ _)
        have i1 : (c : Int) < (l.length : Int) := by omega
        clear hmy hy hz
        generalize hks : skept l x c = ks at *
        have HKS := Lib.hid hks
        clear hks
        generalize hpr : decide (y.to = x) = pr at *
        clear hpr
        generalize hkl : ks.length = a at *
        have HKL := Lib.hid hkl
        clear hkl
        go_wp2_with fail
        refine HF.out.mono ?_
        rintro e w2 ⟨rfl, hb2⟩
        have HB2 := Lib.hid (((Below.refl wr.heap.size wr).alloc (Nat.le_refl _) (.cells #[.int .i64 y.id, .int .i64 y.frm, .int .i64 y.to, sP y.m] 54)).trans (hb2.mono (by simp)))
        have HO2 := Lib.hid (own_keep HOR.out HB2.out (Nat.le_refl _))
        have HG2 : Hid (w.grownBy w2 (some g)) := Lib.hid (HG.out.trans ⟨HB2.out.os, HB2.out.tape, HB2.out.output, HB2.out.size, fun i hi _ => HB2.out.block i hi⟩)
        have hwl := HWL.out.below hb2 HWL.out.lt
        obtain ⟨s0, s1, s2, s3⟩ := (show _ ∧ _ ∧ _ ∧ _ from ⟨hwl.cell 0, hwl.cell 1, hwl.cell 2, hwl.cell 3⟩)
        clear hb2 hwl
        cases pr with
        | true =>
          go_wp2_with fail
          go_roundw
          case rel =>
            refine ⟨c + 1, by omega, by omega, ?_, by simp, ?_, ?_, HG2.out⟩
            · rw [HN.out, if_pos (by trivial), HKL.out]
            · rw [HN.out, if_pos (by trivial), HKL.out]; omega
            · rw [HN.out, if_pos (by trivial), HKL.out]; exact HO2.out
          case measure => simp [intOf]; omega
        | false =>
          obtain ⟨⟨z0, z1, z2, z3⟩, zf⟩ := own_letter HO2.out HMZ.out
          have zf0 := zf (a * 4)
          have zf1 := zf (a * 4 + 1)
          have zf2 := zf (a * 4 + 2)
          have zf3 := zf (a * 4 + 3)
          have i2 : (a : Int) < (l.length : Int) := by omega
          clear zf
          go_wp2_with fail
          go_roundw
          case rel =>
            have h4 := own_set4 HO2.out a y
            rw [HSET.out] at h4
            refine ⟨c + 1, by omega, by omega, ?_, by simp, ?_, ?_, HG2.out.trans h4.2⟩
            · rw [HN.out, if_neg (by simp)]; simp [HKL.out]
            · rw [HN.out, if_neg (by simp)]; simp [HKL.out]; omega
            · rw [HN.out, if_neg (by simp)]
              rw [show (ks ++ [y]).length = a + 1 by simp [HKL.out]]
              exact h4.1
          case measure => simp [intOf]; omega
      · have hcl : c = l.length := by omega
        subst hcl
        rw [HALL.out] at HOR hlt ⊢
        generalize hks9 : (l.filter fun y => decide (y.to ≠ x)) = ks at *
        have HKF := Lib.hid hks9
        clear hks9
        have HTK : Hid (ks.length * 4 = ks.length * 4 ∧ (flat (encL sP) (ks ++ l.drop ks.length)).take (ks.length * 4) = flat (encL sP) ks) := Lib.hid ⟨rfl, by rw [flat_take, List.take_left]⟩
        have ho3 := own_cut HOR.out (k := ks.length) (by omega)
        rw [HTK.out.2] at ho3
        obtain ⟨w2, hrun, ho2, hg2⟩ := run_clear_own (P := Try.prog) (w := wr) (B := 0) (size := 4) (k := ks.length) (t := 46) (ty := 0) Try.underlying46 szero rfl (by decide) (by intro u hu; simp [Value.cells] at hu; rcases hu with rfl | rfl <;> rfl) ho3 (n := l.length - ks.length) (by omega) (by omega) (cap - ks.length)
        have HO2 := Lib.hid ho2
        have HG2 := Lib.hid (HG.out.trans hg2)
        have hne : ¬ cap = ks.length := by omega
        clear ho2 hg2 ho3 HTK HALL HK1
        generalize hka : ks.length = a at *
        have HKA := Lib.hid hka
        clear hka
        go_wp2_with fail
        go_ret
        rw [HKF.out, HKA.out]
        exact ⟨rfl, HO2.out, HG2.out⟩
set_option maxHeartbeats 1000000 in
theorem spurge_any (g : Nat) (n : Nt (List UInt8)) (F : Nat → Prop) (x : Int) (hx : W64 x) (w : World) (x0 : sNet w g n F) :
    Calls Try.prog 35 #[ptr g, .int .i64 x] w fun e w' => e = .returned (.int .i64 (n.purge x).2) ∧ sWent F w w' g (n.purge x).1 := by
  obtain ⟨mb, v, nx⟩ := x0
  have HX := Lib.hid nx
  have HB := Lib.hid ((Below.refl w.heap.size w).alloc (Nat.le_refl _) (.cells #[.int .i64 x] 3))
  have HX1 := Lib.hid (nx.call HB.out)
  have HH := Lib.hid (shas_any g mb v n F x hx _ HX1.out)
  have q0 := (Whole.fresh w 3 #[.int .i64 x]).cell 0
  by_cases hn : n.has x
  · have HE : Hid (n.purge x = ({ n with under := n.under.filter fun l => decide (l.to ≠ x) }, 0)) := Lib.hid (by unfold Nt.purge; rw [if_pos hn])
    have HF : Hid (Fine { n with under := n.under.filter fun l => decide (l.to ≠ x) }) := Lib.hid (by have := nx.fine.purge x; rwa [HE.out] at this)
    rw [HE.out]
    rw [decide_eq_true hn] at HH
    obtain ⟨A, cap, hv, h1, h2, h3⟩ := nx.slice
    have HV := Lib.hid hv
    obtain ⟨c0, c1, c2, c3⟩ := HX1.out.cells
    obtain ⟨f1, f2⟩ := HX1.out.free
    rw [hv] at c2
    have hfew := nx.fine.few
    have hmf : ∀ (fn : Fn) (first cap : Array Value) (w : World), (Instr.makeFunc fn first cap).run Try.prog w = .ok (.func fn first cap) w := fun _ _ _ _ => rfl
    have HD := Lib.hid (sdeletes_any 66 (enters Try.func66 (by kernel_rfl) rfl) w.heap.size x A cap n.under (by omega)
      (fun y hy w1 hw1 => spurge1_any w.heap.size x y (by have := (nx.fine.good y hy).to; have := nx.fine.nodes; exact ⟨by omega, by omega⟩) hx w1 hw1) _ (by have := HX1.out.own; rwa [hv] at this) (Whole.fresh w 3 #[.int .i64 x]))
    have HH2 : Hid (∀ w1 : World, (w.alloc (.cells #[.int .i64 x] 3)).grownBy w1 (Value.slice A n.under.length cap).ownBlock → w1.cell? ⟨g, 2, none⟩ = some (.slice A n.under.length cap) ∧ w1.frozen? ⟨g, 2, none⟩ = false) := Lib.hid fun w1 hg => by
      have hk := hg.block g (HX1.out.low g HX1.out.mine.1) (fun e => nx.gv sunlike (by rw [hv]; exact e.symm) rfl)
      exact ⟨(World.cell?_of_block (a := ⟨g, 2, none⟩) hk).trans c2, (World.frozen?_of_block (a := ⟨g, 2, none⟩) hk).trans f2⟩
    generalize hm2 : (n.under.filter fun y => decide (y.to ≠ x)).length = m2 at HD
    have HM2 := Lib.hid hm2
    clear nx hv hn hm2
    generalize n.under.length = m at *
    go_enter Try.func35, Try.ntmps35
    go_wp2_with fail
    refine HH.out.mono ?_
    rintro e w1 ⟨rfl, e1⟩
    subst w1
    go_wp2_with fail
    refine HD.out.mono ?_
    rintro e w1 ⟨rfl, ho, hg⟩
    obtain ⟨t0, t1⟩ := HH2.out w1 hg
    have HO := Lib.hid ho
    have HG := Lib.hid hg
    clear ho hg HD HH2
    go_wp2_with fail
    go_ret
    refine ⟨rfl, Went.before HB.out (HX1.out.wentUnder sunlike HF.out (by rw [HM2.out]; exact HO.out) (by rw [HV.out]; exact HG.out) (by rw [HV.out]; exact .inl (by cases A <;> rfl)))⟩
  · have HE : Hid (n.purge x = (n, 90)) := Lib.hid (by unfold Nt.purge; rw [if_neg hn])
    rw [HE.out]
    rw [decide_eq_false hn] at HH
    clear nx hn
    go_enter Try.func35, Try.ntmps35
    go_wp2_with fail
    refine HH.out.mono ?_
    rintro e w1 ⟨rfl, e1⟩
    subst w1
    go_wp2_with fail
    go_ret
    exact ⟨rfl, Went.same HX.out HB.out⟩
set_option maxHeartbeats 1000000 in
theorem ssend_any (g : Nat) (n : Nt (List UInt8)) (F : Nat → Prop) (a b : Int) (ha : W64 a) (hb : W64 b) (m : (List UInt8)) (hs : n.sent + 1 ≤ 9223372036854775807) (w : World) (x0 : sNet w g n F) :
    Calls Try.prog 24 #[ptr g, .int .i64 a, .int .i64 b, sP m] w fun e w' => e = .returned (.tuple #[.int .i64 (n.send a b m).2.1, .int .i64 (n.send a b m).2.2]) ∧ sWent F w w' g (n.send a b m).1 := by
  obtain ⟨mb, v, x⟩ := x0
  have HX := Lib.hid x
  have HHA := Lib.hid (shas_any g mb v n F a ha w x)
  have HHB := Lib.hid (shas_any g mb v n F b hb w x)
  have hno : ∀ (_ : ¬ (n.has a ∧ n.has b)), n.send a b m = (n, 0, 90) := fun h => by unfold Nt.send; rw [if_pos h]
  by_cases hna : n.has a
  · rw [decide_eq_true hna] at HHA
    by_cases hnb : n.has b
    · rw [decide_eq_true hnb] at HHB
      have hl : (⟨n.sent + 1, a, b, m⟩ : Lt (List UInt8)).fine n.nodes n.sent := ⟨⟨by show (1 : Int) ≤ (n.sent : Int) + 1; omega, by show (n.sent : Int) + 1 ≤ n.sent + 1; omega⟩, hna, hnb⟩
      obtain ⟨c0, c1, c2, c3⟩ := x.cells
      have HB := Lib.hid ((Below.refl w.heap.size w).alloc (Nat.le_refl _) (.cells #[.int .i64 (n.sent + 1), .int .i64 a, .int .i64 b, sP m] 54))
      have HW := Lib.hid (Whole.fresh w 54 #[.int .i64 ((n.sent : Int) + 1), .int .i64 a, .int .i64 b, sP m])
      have HP := Lib.hid (sput_any g n F ⟨n.sent + 1, a, b, m⟩ hl _ ⟨mb, v, x.call HB.out⟩)
      have hss : (n.sent : Int) + 1 ≤ 9223372036854775807 := by omega
      have hea : (encL sP (⟨n.sent + 1, a, b, m⟩ : Lt (List UInt8))).toArray = #[.int .i64 ((n.sent : Int) + 1), .int .i64 a, .int .i64 b, sP m] := rfl
      rw [hea] at HP
      by_cases hfull : n.under.length = 1000
      · have HE : Hid (n.send a b m = (n, 0, 91)) := Lib.hid (by unfold Nt.send; rw [if_neg (fun h => h ⟨hna, hnb⟩), if_pos hfull])
        have hp : n.put ⟨n.sent + 1, a, b, m⟩ = (n, 91) := by unfold Nt.put; rw [if_pos hfull]
        rw [HE.out]
        rw [hp] at HP
        clear x hno hna hnb hl hea hfull hp
        go_enter Try.func24, Try.ntmps24
        go_wp2_with fail
        refine HHA.out.mono ?_
        rintro e w1 ⟨rfl, e1⟩
        subst w1
        go_wp2_with fail
        refine HHB.out.mono ?_
        rintro e w1 ⟨rfl, e1⟩
        subst w1
        go_wp2_with fail
        refine HP.out.mono ?_
        rintro e w2 ⟨rfl, hm⟩
        have HM := Lib.hid (Went.before HB.out hm)
        clear hm
        go_wp2_with fail
        go_ret2
        exact ⟨rfl, HM.out⟩
      · have HE : Hid (n.send a b m = ({ n with under := n.under ++ [(⟨n.sent + 1, a, b, m⟩ : Lt (List UInt8))], sent := n.sent + 1 }, (n.sent : Int) + 1, 0)) := Lib.hid (by unfold Nt.send; rw [if_neg (fun h => h ⟨hna, hnb⟩), if_neg hfull])
        have hp : n.put ⟨n.sent + 1, a, b, m⟩ = ({ n with under := n.under ++ [(⟨n.sent + 1, a, b, m⟩ : Lt (List UInt8))] }, 0) := by unfold Nt.put; rw [if_neg hfull]
        rw [HE.out]
        rw [hp] at HP
        clear x hno hna hnb hl hea hfull hp
        go_enter Try.func24, Try.ntmps24
        go_wp2_with fail
        refine HHA.out.mono ?_
        rintro e w1 ⟨rfl, e1⟩
        subst w1
        go_wp2_with fail
        refine HHB.out.mono ?_
        rintro e w1 ⟨rfl, e1⟩
        subst w1
        go_wp2_with fail
        refine HP.out.mono ?_
        rintro e w2 ⟨rfl, hm⟩
        have HM := Lib.hid (Went.before HB.out hm)
        have hw2 := hm.off.whole HW.out (fun h => by have := HX.out.low _ h; omega)
        have s0 := hw2.cell 0
        obtain ⟨ho, F', hF', mb', v', x2⟩ := hm
        obtain ⟨d0, d1, d2, d3⟩ := x2.cells
        obtain ⟨f1, f2⟩ := x2.free
        have HX2 := Lib.hid x2
        have HFF := Lib.hid hF'
        have HWN : Hid (w.heap.size ≠ g) := Lib.hid fun e => by have := HX.out.low g HX.out.mine.1; omega
        have hwn := HWN.out
        clear ho hF' x2 hw2
        go_wp2_with fail
        go_ret2
        have hx3 := HX2.out.setSent sunlike (n.sent + 1) (by show n.sent ≤ n.sent + 1; omega)
        have ho := HM.out.off.set (p := (⟨g, 1, none⟩ : Addr)) (.inl HX.out.mine.1) (.int .i64 ((n.sent : Int) + 1))
        refine ⟨rfl, ho, F', fun b hb => ?_, mb', v', by simpa using hx3⟩
        rcases HFF.out b hb with h | h
        · exact .inl h
        · exact .inr (Nat.le_trans HB.out.size h)
    · rw [decide_eq_false hnb] at HHB
      rw [hno (fun h => hnb h.2)]
      clear x hno hna hnb
      go_enter Try.func24, Try.ntmps24
      go_wp2_with fail
      refine HHA.out.mono ?_
      rintro e w1 ⟨rfl, e1⟩
      subst w1
      go_wp2_with fail
      refine HHB.out.mono ?_
      rintro e w1 ⟨rfl, e1⟩
      subst w1
      go_wp2_with fail
      go_ret2
      exact ⟨rfl, Went.same HX.out (Below.refl _ _)⟩
  · rw [decide_eq_false hna] at HHA
    rw [hno (fun h => hna h.1)]
    clear x hno hna
    go_enter Try.func24, Try.ntmps24
    go_wp2_with fail
    refine HHA.out.mono ?_
    rintro e w1 ⟨rfl, e1⟩
    subst w1
    go_wp2_with fail
    go_ret2
    exact ⟨rfl, Went.same HX.out (Below.refl _ _)⟩
end Go.Proofs.Ytmbednikbdfnmaa
