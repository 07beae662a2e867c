/- Layer 12: awake. -/
import Derived.Test.YtcpcepbjdohdmaaStoO
namespace Go.So
open Go.Cn
set_option linter.unusedVariables false
theorem rise_eq {l m : List Int} (hl : l.Pairwise fun a b => a < b) (hm : m.Pairwise fun a b => a < b) (h : ∀ x, x ∈ l ↔ x ∈ m) : l = m :=
  List.Perm.eq_of_pairwise (le := fun a b : Int => a < b) (fun a b _ _ h1 h2 => by omega) hl hm ((List.perm_ext_iff_of_nodup (hl.imp fun h => by omega) (hm.imp fun h => by omega)).2 h)
theorem keysL_eq {s : Sto} {l : List Int} (hl : l.Pairwise fun a b => a < b) (h : ∀ k, k ∈ l ↔ (0 ≤ k ∧ k < 8192) ∧ (s.ch k).isSome = true) : keysL s = l :=
  rise_eq (keysL_rise s) hl fun k => by
    rw [h k]
    unfold keysL
    rw [List.mem_filter, allK_mem]
/-- A store of the keys 1 and 2 alone. -/
def two (a b : Option Cs) (cl m : Int) : Sto := ⟨fun k => if k = 1 then a else if k = 2 then b else none, cl, m⟩
theorem two_new : newS = two none none 0 0 := by
  unfold newS two
  congr 1
  funext k
  split
  · rfl
  · split <;> rfl
theorem two_add1 (a b : Option Cs) (cl m t v : Int) : addS (two a b cl m) t (1, v) = two (some (put (a.getD ⟨[], 0⟩) t v)) b cl m := by
  unfold addS two
  congr 1
  funext k
  by_cases h : k = 1
  · subst h; simp
  · simp [h]
theorem two_add2 (a b : Option Cs) (cl m t v : Int) : addS (two a b cl m) t (2, v) = two a (some (put (b.getD ⟨[], 0⟩) t v)) cl m := by
  unfold addS two
  congr 1
  funext k
  by_cases h : k = 2
  · subst h; simp
  · simp [h]
theorem two_keys (a b : Cs) (cl m : Int) : keysL (two (some a) (some b) cl m) = [1, 2] := by
  refine keysL_eq (by simp) fun k => ?_
  unfold two
  simp only [List.mem_cons, List.not_mem_nil, or_false]
  constructor
  · rintro (rfl | rfl)
    · simp
    · simp
  · rintro ⟨-, h⟩
    by_cases h1 : k = 1
    · exact .inl h1
    · by_cases h2 : k = 2
      · exact .inr h2
      · simp [h1, h2] at h
theorem two_prune (a b : Cs) (cl m t : Int) (h : pruneSE (two (some a) (some b) cl m) t = 0 ∧ m < t) : pruneS (two (some a) (some b) cl m) t = two (some (prune a t)) (some (prune b t)) cl t := by
  unfold pruneS
  rw [show (two (some a) (some b) cl m).mark = m from rfl, if_pos h]
  unfold two
  congr 1
  funext k
  by_cases h1 : k = 1
  · simp [h1]
  · by_cases h2 : k = 2
    · simp [h2]
    · simp [h1, h2]
abbrev aw1 : Sto := two (some ⟨[(5, 100)], 0⟩) (some ⟨[(5, 50)], 0⟩) 0 0
abbrev aw2 : Sto := two (some ⟨[(5, 100)], 0⟩) (some ⟨[(5, 50), (9, 80)], 0⟩) 0 0
abbrev aw3 : Sto := two (some ⟨[(5, 100), (7, 70)], 0⟩) (some ⟨[(5, 50), (9, 80)], 0⟩) 0 0
abbrev aw4 : Sto := two (some ⟨[(5, 100), (7, 70)], 0⟩) (some ⟨[(5, 50), (9, 80)], 0⟩) 9 0
abbrev aw5 : Sto := two (some ⟨[(7, 70)], 9⟩) (some ⟨[(9, 80)], 9⟩) 9 9
theorem aw_1 : putSE newS 5 [(1, 100), (2, 50)] = 0 ∧ putS newS 5 [(1, 100), (2, 50)] = aw1 := by
  have h : putSE newS 5 [(1, 100), (2, 50)] = 0 := by rfl
  refine ⟨h, ?_⟩
  unfold putS
  rw [if_pos h]
  show addS (addS newS 5 (1, 100)) 5 (2, 50) = _
  rw [two_new, two_add1, two_add2]
  rfl
theorem aw_2 : putSE aw1 9 [(2, 80)] = 0 ∧ putS aw1 9 [(2, 80)] = aw2 := by
  have h : putSE aw1 9 [(2, 80)] = 0 := by rfl
  refine ⟨h, ?_⟩
  unfold putS
  rw [if_pos h]
  show addS aw1 9 (2, 80) = _
  rw [two_add2]
  rfl
theorem aw_3 : putSE aw2 7 [(1, 70)] = 0 ∧ putS aw2 7 [(1, 70)] = aw3 := by
  have h : putSE aw2 7 [(1, 70)] = 0 := by rfl
  refine ⟨h, ?_⟩
  unfold putS
  rw [if_pos h]
  show addS aw2 7 (1, 70) = _
  rw [two_add1]
  rfl
theorem aw_4 : tellsE aw3 8 = 128 ∧ snapS aw3 8 = [] ∧ closeSE 9 = 0 ∧ closeS aw3 9 = aw4 := ⟨rfl, rfl, rfl, rfl⟩
theorem aw_6 : tellsE aw4 8 = 0 ∧ snapS aw4 8 = [(1, 70), (2, 50)] ∧ getSE aw4 2 9 = 0 ∧ getSV aw4 2 9 = (9, 80) ∧ lastS aw4 1 = (7, 70) ∧ (aw4.ch 1).isSome = true ∧ pruneSE aw4 9 = 0 := by
  refine ⟨rfl, ?_, rfl, rfl, rfl, rfl, rfl⟩
  unfold snapS
  rw [if_pos (show tellsE aw4 8 = 0 from rfl), ← snap_keys, two_keys]
  rfl
theorem aw_9 : pruneS aw4 9 = aw5 := by rw [two_prune _ _ _ _ _ ⟨rfl, by omega⟩]; rfl
theorem aw_10 : tellsE aw5 8 = 126 ∧ snapS aw5 8 = [] ∧ sizeS aw5 = 2 := by
  refine ⟨rfl, rfl, ?_⟩
  rw [← size_keys, two_keys]
  rfl
end Go.So
namespace Go.Proofs.Ytcpcepbjdohdmaa
open Go.ChangeShapes Go.WideShapes Go.ChangeAt Go.RowKit Go.Cn Go.So
set_option linter.unusedVariables false
set_option linter.unusedSimpArgs false
set_option maxRecDepth 100000
theorem er_new (w : World) (g : Nat) (hg : g = w.heap.size) (cs : Array Value) (l : List En) (h : cs.toList = flat encE l) (hl : l.length ≤ 1000) (h64 : ∀ e ∈ l, W64 e.1 ∧ W64 e.2) : Er (w.alloc (.cells cs 58)) (some ⟨g, 0, none⟩) l.length l := by
  subst hg
  refine ⟨⟨encE_flat l, fun _ => ⟨w.heap.size, 0, rfl, by simp, fun j u hu => ?_⟩⟩, Nat.le_refl _, by omega, h64⟩
  rw [Nat.zero_add, (Whole.fresh w _ _).cell j, ← Array.getElem?_toList, h]
  exact hu
theorem w64s (a : Int) (h : 0 ≤ a ∧ a ≤ 1000) : W64 a := by unfold W64; omega
set_option maxHeartbeats 8000000 in
theorem awake_any (w : World) : Calls Try.prog 10 #[] w fun e w' => e = .returned (.bool true) ∧ Below w.heap.size w w' := by
  have E1 := Lib.hid aw_1
  have E2 := Lib.hid aw_2
  have E3 := Lib.hid aw_3
  have E4 := Lib.hid aw_4
  have E6 := Lib.hid aw_6
  have E9 := Lib.hid aw_9
  have E10 := Lib.hid aw_10
  have W1 : Hid (∀ e ∈ ([(1, 100), (2, 50)] : List En), W64 e.1 ∧ W64 e.2) := Lib.hid fun e he => by
    rcases List.mem_cons.1 he with rfl | he
    · exact ⟨w64s _ (by simp), w64s _ (by simp)⟩
    · rw [List.mem_singleton] at he; subst he; exact ⟨w64s _ (by simp), w64s _ (by simp)⟩
  have W2 : Hid (∀ e ∈ ([(2, 80)] : List En), W64 e.1 ∧ W64 e.2) := Lib.hid fun e he => by rw [List.mem_singleton] at he; subst he; exact ⟨w64s _ (by simp), w64s _ (by simp)⟩
  have W3 : Hid (∀ e ∈ ([(1, 70)] : List En), W64 e.1 ∧ W64 e.2) := Lib.hid fun e he => by rw [List.mem_singleton] at he; subst he; exact ⟨w64s _ (by simp), w64s _ (by simp)⟩
  have HNEW := Lib.hid (snew_at w _ rfl)
  generalize w.heap.size + 1 = g at *
  go_enter Try.func10, Try.ntmps10
  go_wp2_with fail
  refine HNEW.out.mono ?_
  rintro e w1 ⟨rfl, h⟩
  have H := Lib.hid (h.alloc w1.heap.size rfl 58 #[.int .i64 1, .int .i64 100, .int .i64 2, .int .i64 50])
  have HC := Lib.hid (pput 5 H.out (er_new w1 w1.heap.size rfl #[.int .i64 1, .int .i64 100, .int .i64 2, .int .i64 50] [(1, 100), (2, 50)] rfl (by simp) W1.out) fun _ a ha => .inr (.inr ⟨_, List.mem_cons_self .., by injection ha with ha; rw [← ha]⟩))
  clear h HNEW
  go_wp2_with fail
  refine HC.out.mono ?_
  rintro e w2 ⟨rfl, h, -⟩
  rw [E1.out.1]
  rw [E1.out.2] at h
  replace h := h.few (L' := []) fun r hr => by cases hr
  replace H := Lib.hid (h.alloc w2.heap.size rfl 58 #[.int .i64 2, .int .i64 80])
  replace HC := Lib.hid (pput 9 H.out (er_new w2 w2.heap.size rfl #[.int .i64 2, .int .i64 80] [(2, 80)] rfl (by simp) W2.out) fun _ a ha => .inr (.inr ⟨_, List.mem_cons_self .., by injection ha with ha; rw [← ha]⟩))
  clear h
  go_wp2_with fail
  refine HC.out.mono ?_
  rintro e w3 ⟨rfl, h, -⟩
  rw [E2.out.1]
  rw [E2.out.2] at h
  replace h := h.few (L' := []) fun r hr => by cases hr
  replace H := Lib.hid (h.alloc w3.heap.size rfl 58 #[.int .i64 1, .int .i64 70])
  replace HC := Lib.hid (pput 7 H.out (er_new w3 w3.heap.size rfl #[.int .i64 1, .int .i64 70] [(1, 70)] rfl (by simp) W3.out) fun _ a ha => .inr (.inr ⟨_, List.mem_cons_self .., by injection ha with ha; rw [← ha]⟩))
  clear h
  go_wp2_with fail
  refine HC.out.mono ?_
  rintro e w4 ⟨rfl, h, -⟩
  rw [E3.out.1]
  rw [E3.out.2] at h
  replace H := Lib.hid (h.few (L' := []) fun r hr => by cases hr)
  clear h HC
  go_wp2_with fail
  refine (psnap 8 H.out).mono ?_
  rintro e w5 ⟨A5, cap5, rfl, hb, -⟩
  rw [E4.out.1, E4.out.2.1]
  replace H := Lib.hid (H.out.call hb)
  clear hb
  go_wp2_with fail
  refine (pclose 9 H.out).mono ?_
  rintro e w6 ⟨rfl, h, -⟩
  rw [E4.out.2.2.1]
  rw [E4.out.2.2.2] at h
  replace H := Lib.hid h
  clear h
  go_wp2_with fail
  refine (psnap 8 H.out).mono ?_
  rintro e w7 ⟨A7, cap7, rfl, hb, ho⟩
  rw [E6.out.2.1] at ho
  rw [E6.out.1, E6.out.2.1]
  have hsee := Sees.own ho
  obtain ⟨b7, off7, rfl, hb7, -⟩ := hsee.2 (by simp)
  obtain ⟨A8, cap8, he8, r1, r2, -⟩ := own_slice0 ho
  injection he8 with ha8 _ hc8
  subst ha8 hc8
  have hnew := ow_low ho rfl (Nat.le_refl _)
  simp only at hnew
  replace H := Lib.hid ((H.out.more (Y' := fun b => b = b7) hb fun b hbb => .inr (by omega)))
  have HS := Lib.hid hsee
  have hcap : (2 : Int) ≤ (cap7 : Int) := by simp at r1; omega
  clear hb ho hsee r1 r2
  simp only [List.length_cons, List.length_nil]
  go_wp2_with fail
  refine (pget 2 9 H.out).mono ?_
  rintro e w8 ⟨rfl, hb⟩
  rw [E6.out.2.2.1, E6.out.2.2.2.1]
  replace HS := Lib.hid ((HS.out.below hb).more hb.size)
  replace H := Lib.hid (H.out.call hb)
  clear hb
  go_wp2_with fail
  replace H := Lib.hid (H.out.alloc w8.heap.size rfl 36 #[.int .i64 9, .int .i64 80])
  replace HS := Lib.hid ((HS.out.alloc (Nat.le_refl _) (.cells #[.int .i64 9, .int .i64 80] 36)).more (show w8.heap.size ≤ (w8.alloc (.cells #[.int .i64 9, .int .i64 80] 36)).heap.size by simp))
  refine (plast 1 (w64s _ (by simp)) H.out).mono ?_
  rintro e w9 ⟨rfl, hb⟩
  rw [E6.out.2.2.2.2.1, E6.out.2.2.2.2.2.1]
  replace HS := Lib.hid ((HS.out.below hb).more hb.size)
  replace H := Lib.hid (H.out.call hb)
  clear hb
  go_wp2_with fail
  replace H := Lib.hid (H.out.alloc w9.heap.size rfl 36 #[.int .i64 7, .int .i64 70])
  replace HS := Lib.hid ((HS.out.alloc (Nat.le_refl _) (.cells #[.int .i64 7, .int .i64 70] 36)).more (show w9.heap.size ≤ (w9.alloc (.cells #[.int .i64 7, .int .i64 70] 36)).heap.size by simp))
  refine (pprune 9 H.out).mono ?_
  rintro e w10 ⟨rfl, h, hk⟩
  rw [E6.out.2.2.2.2.2.2]
  rw [E9.out] at h
  replace H := Lib.hid h
  replace HS := Lib.hid (sees_keep HS.out hk fun _ a ha => by injection ha with ha; rw [← ha])
  clear h hk
  go_wp2_with fail
  refine (psnap 8 H.out).mono ?_
  rintro e w11 ⟨A11, cap11, rfl, hb, -⟩
  rw [E10.out.1, E10.out.2.1]
  replace HS := Lib.hid ((HS.out.below hb).more hb.size)
  replace H := Lib.hid (H.out.call hb)
  clear hb
  obtain ⟨bb, oo, hA, hbb, hc0⟩ := HS.out.item encE_len (by omega) 0 (1, 70) rfl
  obtain ⟨bb', oo', hA', hbb', hc1⟩ := HS.out.item encE_len (by omega) 1 (2, 50) rfl
  injection hA with hA; injection hA with e1 e2; subst e1 e2
  injection hA' with hA'; injection hA' with e1 e2; subst e1 e2
  have q0 := hc0 0 _ rfl
  have q1 := hc0 1 _ rfl
  have q2 := hc1 0 _ rfl
  have q3 := hc1 1 _ rfl
  simp only [Nat.zero_mul, Nat.one_mul, Nat.add_zero, Nat.zero_add] at q0 q1 q2 q3
  have k1 := H.out.st.knows.at 0 rfl
  have k2 := H.out.st.knows.at 1 rfl
  have p0 := k1.cell 0
  have p1 := k2.cell 1
  have z1 := k1.lt
  have z2 := k2.lt
  simp only [List.getElem?_toArray, List.getElem?_cons_zero, List.getElem?_cons_succ] at p0 p1
  clear hc0 hc1 k1 k2
  go_wp2_with fail
  refine (psize H.out).mono ?_
  rintro e w12 ⟨rfl, hb⟩
  rw [E10.out.2.2]
  replace H := Lib.hid (H.out.call hb)
  clear hb
  go_wp2_with fail
  refine (pclosed H.out).mono ?_
  rintro e w13 ⟨rfl, e1⟩
  subst w13
  go_wp2_with fail
  refine (pmark H.out).mono ?_
  rintro e w13 ⟨rfl, e1⟩
  subst w13
  go_wp2_with fail
  go_ret
  exact ⟨rfl, H.out.st.below⟩
end Go.Proofs.Ytcpcepbjdohdmaa
