/- Layer 15: awake: the chapter's example. -/
import Derived.Test.YtckhddndeojobaaGreatVltR
namespace Go.Vt
open Go.Cn Go.So Go.Lk
set_option linter.unusedVariables false
set_option linter.unusedSimpArgs false
set_option maxRecDepth 100000
theorem rise_eq {l m : List Int} (hl : l.Pairwise fun a b => a < b) (hm : m.Pairwise fun a b => a < b) (h : ∀ x, x ∈ l ↔ x ∈ m) : l = m :=
  List.Perm.eq_of_pairwise (le := fun a b : Int => a < b) (fun a b _ _ h1 h2 => by omega) hl hm ((List.perm_ext_iff_of_nodup (hl.imp fun h => by omega) (hm.imp fun h => by omega)).2 h)
theorem keysL_eq {s : Sto} {l : List Int} (hl : l.Pairwise fun a b => a < b) (h : ∀ k, k ∈ l ↔ (0 ≤ k ∧ k < 8192) ∧ (s.ch k).isSome = true) : keysL s = l :=
  rise_eq (keysL_rise s) hl fun k => by
    rw [h k]
    unfold keysL
    rw [List.mem_filter, allK_mem]
theorem not_full {v : Vt} (hf : Fin1 v.fates) (l : List Int) (h : ∀ x, (v.fates x).isSome = true → x ∈ l) (hl : l.length < 5000) : isFullV v = false := by
  unfold isFullV
  rw [decide_eq_false_iff_not]
  have := len_sub (supp_rises hf).nodup fun x hx => h x ((supp_mem hf x).1 hx)
  omega
def p1 : Pt := ⟨1, 7, 200, true⟩
def p2 : Pt := ⟨2, 7, 1, false⟩
def a0 : Vt := newV 4576918229304087675
def a1 : Vt := openV a0 1 7 1000
def a2 : Vt := { a1 with held := upd a1.held 7 (some ⟨p1, 5, chg a1 p1⟩), fates := upd a1.fates 1 (some ⟨1, 5, 7⟩), top := 5 }
def a3 : Vt := { a2 with s := closeS a2.s 4, top := max a2.top 4 }
def a4 : Vt := commitV a3 9 1
def a5 : Vt := { a4 with s := closeS a4.s 9, top := max a4.top 9 }
def a6 : Vt := { a5 with held := a5.held, fates := upd a5.fates 3 (some ⟨3, 0, 0⟩) }
def a7 : Vt := pruneV a6 9
theorem aw_rate : Am.rated 4576918229304087675 = true := by decide +kernel
theorem aw_1 : openE a0 1 7 1000 = 0 ∧ openV a0 1 7 1000 = a1 := ⟨by decide +kernel, rfl⟩
theorem a1_open : a1 = putV a0 1 [(7, 1000)] := by unfold a1 openV; rw [if_pos aw_1.1]
theorem aw_2 : holdE a1 5 p1 = 0 ∧ holdV a1 5 p1 = a2 := by
  have hfull : isFullV a1 = false := not_full (by rw [a1_open]; exact Fin1.none) [] (fun x hx => by rw [a1_open] at hx; cases hx) (by simp)
  have h1 : orderE a1 5 = 0 := by decide +kernel
  have h2 : unknownE a1 p1.id = 0 := by
    unfold unknownE
    rw [hfull, if_neg (by decide), if_neg (by rw [a1_open]; simp [putV, a0, newV]), if_neg (by simp)]
  have h3 : chargeE a1 p1 = 0 := by decide +kernel
  have h : holdE a1 5 p1 = 0 := by unfold holdE; rw [if_pos h1, if_pos h2]; exact h3
  refine ⟨h, ?_⟩
  unfold holdV
  rw [if_pos h]
  rfl
theorem a2_fates (x : Int) (hx : (a2.fates x).isSome = true) : x ∈ [(1 : Int)] := by
  by_cases e : x = 1
  · simp [e]
  · have h1 : upd a1.fates 1 (some ⟨1, 5, 7⟩) x = none := by rw [upd_other _ e, a1_open]; rfl
    rw [show a2.fates x = _ from h1] at hx
    cases hx
theorem a2_ffin : Fin1 a2.fates := Fin1.upd (by rw [a1_open]; exact Fin1.none) 1 _
theorem aw_3 : holdE a2 6 p2 = 160 ∧ holdV a2 6 p2 = a2 := by
  have hfull : isFullV a2 = false := not_full a2_ffin [1] a2_fates (by simp)
  have h1 : orderE a2 6 = 0 := by decide +kernel
  have h2 : unknownE a2 p2.id = 0 := by
    unfold unknownE
    rw [hfull, if_neg (by decide), if_neg (fun h => by have := a2_fates _ h; simp [p2] at this), if_neg (by simp)]
  have h3 : chargeE a2 p2 = 160 := by decide +kernel
  have h : holdE a2 6 p2 = 160 := by unfold holdE; rw [if_pos h1, if_pos h2]; exact h3
  exact ⟨h, by unfold holdV; rw [h]; rfl⟩
theorem a2_held {b : Int} {q : Hv} (h : a2.held b = some q) : q.t = 5 := by
  by_cases e : b = 7
  · subst e
    have h1 : a2.held 7 = some ⟨p1, 5, chg a1 p1⟩ := upd_same a1.held 7 _
    rw [h1] at h
    injection h with h
    rw [← h]
  · have h1 : upd a1.held 7 (some ⟨p1, 5, chg a1 p1⟩) b = none := by rw [upd_other _ e, a1_open]; rfl
    rw [show a2.held b = _ from h1] at h
    cases h
theorem aw_4 : closeE a2 5 = 160 ∧ closeV a2 5 = a2 := by
  have h : closeE a2 5 = 160 := by
    unfold closeE
    rw [show isT 5 = true from rfl, if_neg (by simp), if_pos ⟨7, ⟨p1, 5, chg a1 p1⟩, upd_same a1.held 7 _, Int.le_refl _⟩]
  exact ⟨h, by unfold closeV; rw [h]; rfl⟩
theorem aw_5 : closeE a2 4 = 0 ∧ closeV a2 4 = a3 := by
  have h : closeE a2 4 = 0 := by
    unfold closeE
    rw [show isT 4 = true from rfl, if_neg (by simp), if_neg (fun ⟨b, q, hq, ht⟩ => by have := a2_held hq; omega)]
  exact ⟨h, by unfold closeV; rw [if_pos h]; rfl⟩
theorem aw_6 : supp (byId a3) = [1] ∧ (hvBy a3 1).p.acc = 7 ∧ (hvBy a3 1).p.n = 200 ∧ (hvBy a3 1).p.pays = true ∧ (hvBy a3 1).t = 5 ∧ (hvBy a3 1).fee = 2 := by
  refine ⟨supp_eq (by unfold Rises; simp) fun k => ?_, by decide +kernel, by decide +kernel, by decide +kernel, by decide +kernel, by decide +kernel⟩
  by_cases e : k = 1
  · subst e
    simp only [List.mem_singleton, true_iff]
    decide +kernel
  · simp only [List.mem_singleton, e, false_iff]
    intro h
    unfold byId at h
    split at h
    · rename_i hi
      have h2 := fate_some (v := a3) (id := k) (by rw [hi]; decide)
      have h3 := a2_fates k (by rw [show a2.fates k = a3.fates k from rfl, h2]; rfl)
      exact e (List.mem_singleton.1 h3)
    · cases h
theorem aw_happens : happens a3 9 1 := by decide +kernel
theorem a4_eq : a4 = { putV a3 9 (changedV a3 (heldAt a3 (fateOf a3 1).acc)) with held := upd a3.held (fateOf a3 1).acc none, fates := upd a3.fates 1 (some ⟨2, 9, 0⟩) } := by
  unfold a4 commitV
  rw [if_pos aw_happens]
theorem aw_7 : commitE a3 9 1 = 0 ∧ commitV a3 9 1 = a4 := ⟨by decide +kernel, rfl⟩
theorem a4_acc : (fateOf a3 1).acc = 7 := by decide +kernel
theorem a4_held (b : Int) : a4.held b = none := by
  rw [a4_eq, a4_acc]
  show upd a3.held 7 none b = none
  by_cases e : b = 7
  · rw [e, upd_same]
  · rw [upd_other _ e]
    show upd a1.held 7 _ b = none
    rw [upd_other _ e, a1_open]
    rfl
theorem aw_8 : closeE a4 9 = 0 ∧ closeV a4 9 = a5 := by
  have h : closeE a4 9 = 0 := by
    unfold closeE
    rw [show isT 9 = true from rfl, if_neg (by simp), if_neg (fun ⟨b, q, hq, ht⟩ => by rw [a4_held] at hq; cases hq)]
  exact ⟨h, by unfold closeV; rw [if_pos h]; rfl⟩
theorem aw_9 : hasN a5 7 8 = 1000 ∧ hasE a5 7 8 = 0 := ⟨by decide +kernel, by decide +kernel⟩
theorem puts_other (s : Sto) (t : Int) (l : List En) (k : Int) (h : ∀ e ∈ l, e.1 ≠ k) : (putS s t l).ch k = s.ch k := by
  unfold putS
  split
  · exact adds_other s t k l h
  · rfl
theorem a4_keys (e : En) (he : e ∈ changedV a3 (heldAt a3 (fateOf a3 1).acc)) : e.1 = 7 ∨ e.1 = 4103 := by
  have h : (heldAt a3 (fateOf a3 1).acc).p.acc = 7 := by decide +kernel
  unfold changedV at he
  rw [h] at he
  split at he
  · rw [List.mem_singleton.1 he]; exact .inl rfl
  split at he
  · rw [List.mem_singleton.1 he]; exact .inl rfl
  · rcases List.mem_cons.1 he with rfl | he
    · exact .inl rfl
    · rw [List.mem_singleton.1 he]; exact .inr rfl
theorem a5_other {k : Int} (h1 : k ≠ 7) (h2 : k ≠ 4103) : a5.s.ch k = none := by
  show (closeS a4.s 9).ch k = none
  have hk := a4_keys
  have he4 := a4_eq
  generalize changedV a3 (heldAt a3 (fateOf a3 1).acc) = L at *
  have e4 : a4.s = putS a3.s 9 L := by rw [he4]; rfl
  rw [(closeS_closed a4.s 9).2.2, e4]
  rw [puts_other _ _ _ _ fun e he e2 => by rcases hk e he with h | h <;> omega]
  show (closeS a2.s 4).ch k = none
  rw [(closeS_closed a2.s 4).2.2]
  show a1.s.ch k = none
  rw [a1_open]
  show (putS a0.s 1 [(7, 1000)]).ch k = none
  rw [puts_other _ _ _ _ fun e he e2 => by rw [List.mem_singleton.1 he] at e2; exact h1 e2.symm]
  rfl
theorem aw_10 : oursE (tellsE a5.s 9) = 0 ∧ snapS a5.s 9 = [(7, 798), (4103, 2)] := by
  refine ⟨by decide +kernel, ?_⟩
  have hk : keysL a5.s = [7, 4103] := keysL_eq (by simp) fun k => by
    by_cases h1 : k = 7
    · subst h1
      simp only [List.mem_cons, List.not_mem_nil, or_false, true_or, true_iff]
      exact ⟨by omega, by decide +kernel⟩
    · by_cases h2 : k = 4103
      · subst h2
        simp only [List.mem_cons, List.not_mem_nil, or_false, or_true, true_iff]
        exact ⟨by omega, by decide +kernel⟩
      · rw [a5_other h1 h2]
        simp [h1, h2]
  unfold snapS
  rw [if_pos (show tellsE a5.s 9 = 0 by decide +kernel), ← snap_keys, hk]
  decide +kernel
theorem aw_11 : dropE a5 1 = 157 ∧ dropV a5 1 = a5 := by
  have h : dropE a5 1 = 157 := by decide +kernel
  exact ⟨h, by unfold dropV; rw [h]; rfl⟩
theorem a5_fates (x : Int) (hx : (a5.fates x).isSome = true) : x ∈ [(1 : Int)] := by
  have h0 : a5.fates x = a4.fates x := rfl
  rw [h0, a4_eq] at hx
  by_cases e : x = 1
  · simp [e]
  · have h1 : upd a3.fates 1 (some ⟨2, 9, 0⟩) x = a2.fates x := upd_other _ e _
    replace hx : (upd a3.fates 1 (some ⟨2, 9, 0⟩) x).isSome = true := hx
    rw [h1] at hx
    exact a2_fates x hx
theorem a5_ffin : Fin1 a5.fates := by
  have h0 : a5.fates = a4.fates := rfl
  rw [h0, a4_eq]
  exact Fin1.upd (show Fin1 a3.fates from a2_ffin) 1 _
theorem aw_12 : dropE a5 3 = 0 ∧ dropV a5 3 = a6 := by
  have hfull : isFullV a5 = false := not_full a5_ffin [1] a5_fates (by simp)
  have h3 : (fateOf a5 3).is = 0 := by decide +kernel
  have h : dropE a5 3 = 0 := by
    unfold dropE
    rw [hfull, h3, if_neg (by decide), if_neg (by decide), if_neg (by simp)]
  refine ⟨h, ?_⟩
  unfold dropV
  rw [if_pos h, h3, if_neg (by decide)]
  rfl
theorem aw_13 : (fateOf a6 1).is = 2 ∧ (fateOf a6 1).t = 9 := ⟨by decide +kernel, by decide +kernel⟩
theorem aw_14 : oursE (pruneSE a6.s 9) = 0 ∧ pruneV a6 9 = a7 := ⟨by decide +kernel, rfl⟩
theorem aw_15 : a7.top = 9 ∧ a7.s.closed = 9 ∧ a7.s.mark = 9 := ⟨by decide +kernel, by decide +kernel, by decide +kernel⟩
end Go.Vt
namespace Go.Proofs.YtckhddndeojobaaGreat
open Go.ChangeShapes Go.WideShapes Go.ChangeAt Go.RowKit Go.Cn Go.So Go.Vt
open Go.Lk (upd supp Fin1 upd_same upd_other)
set_option linter.unusedVariables false
set_option linter.unusedSimpArgs false
set_option maxRecDepth 100000
theorem w64s (a : Int) (h : 0 ≤ a ∧ a ≤ 10000) : W64 a := by unfold W64; omega
theorem own_low {w : World} {B n size cap : Nat} {e : TypeId} {A : Option Addr} {xs : List Value} (h : w.ownsRow B e size (.slice A n cap) n xs) {b off : Nat} (hA : A = some ⟨b, off, none⟩) : B ≤ b := by
  rcases h.2 with ⟨h1, _⟩ | ⟨g, c, cur, h1, h2, _⟩
  · injection h1 with h1
    rw [hA] at h1; cases h1
  · injection h1 with h1
    rw [hA] at h1
    injection h1 with h1
    injection h1 with h1
    omega
set_option maxHeartbeats 8000000 in
theorem awake_any (w : World) : Calls Tryz.prog 8 #[] w fun e w' => e = .returned (.bool true) ∧ Below w.heap.size w w' := by
  have E1 := Lib.hid aw_1
  have E2 := Lib.hid aw_2
  have E3 := Lib.hid aw_3
  have E4 := Lib.hid aw_4
  have E5 := Lib.hid aw_5
  have E6 := Lib.hid aw_6
  have E7 := Lib.hid aw_7
  have E8 := Lib.hid aw_8
  have E9 := Lib.hid aw_9
  have E10 := Lib.hid aw_10
  have E11 := Lib.hid aw_11
  have E12 := Lib.hid aw_12
  have E13 := Lib.hid aw_13
  have E14 := Lib.hid aw_14
  have E15 := Lib.hid aw_15
  have HNEW := Lib.hid (vnew_any 4576918229304087675 (by decide) w)
  go_enter Tryz.func8, Tryz.ntmps8
  go_wp2_with fail
  refine HNEW.out.mono ?_
  rintro e w1 ⟨hb1, ⟨hr, -⟩ | ⟨g, F, hr, rfl, hv, hF⟩⟩
  · rw [aw_rate] at hr; cases hr
  have H0 : Hid (Vp w w1 g a0 0 fun _ => False) := Lib.hid (Vp.start hb1 hv hF hr)
  clear hb1 hr hv hF HNEW
  go_wp2_with fail
  refine (vp_open 1 7 1000 (w64s _ (by simp)) H0.out (by omega)).mono ?_
  rintro e w2 ⟨rfl, hp, -⟩
  rw [E1.out.1]
  rw [E1.out.2] at hp
  have H1 := Lib.hid hp
  clear hp H0
  go_wp2_with fail
  refine (vp_hold 5 p1 (w64s _ (by simp [p1])) (w64s _ (by simp [p1])) (w64s _ (by simp [p1])) H1.out).mono ?_
  rintro e w3 ⟨rfl, hp, -⟩
  rw [E2.out.1]
  rw [E2.out.2] at hp
  have H2 := Lib.hid hp
  clear hp H1
  go_wp2_with fail
  refine (vp_hold 6 p2 (w64s _ (by simp [p2])) (w64s _ (by simp [p2])) (w64s _ (by simp [p2])) H2.out).mono ?_
  rintro e w4 ⟨rfl, hp, -⟩
  rw [E3.out.1]
  rw [E3.out.2] at hp
  have H3 := Lib.hid hp
  clear hp H2
  go_wp2_with fail
  refine (vp_close 5 H3.out).mono ?_
  rintro e w5 ⟨rfl, hp, -⟩
  rw [E4.out.1]
  rw [E4.out.2] at hp
  have H4 := Lib.hid hp
  clear hp H3
  go_wp2_with fail
  refine (vp_close 4 H4.out).mono ?_
  rintro e w6 ⟨rfl, hp, -⟩
  rw [E5.out.1]
  rw [E5.out.2] at hp
  have H5 := Lib.hid hp
  clear hp H4
  go_wp2_with fail
  refine (vp_held H5.out).mono ?_
  rintro e w7 ⟨A7, cap7, rfl, hb, ho⟩
  rw [E6.out.1] at ho ⊢
  have hsee := Sees.own ho
  obtain ⟨b7, off7, rfl, hb7, -⟩ := hsee.2 (by simp)
  obtain ⟨A8, cap8, he8, r1, r2, -⟩ := own_slice0 ho
  injection he8 with ha8 _ hc8
  subst ha8 hc8
  have hnew := own_low ho rfl
  have H6 := Lib.hid ((H5.out.more (Y' := fun b => b = b7) hb fun b hbb => .inr (by omega)))
  have HS := Lib.hid hsee
  have hcap7 : (1 : Int) ≤ (cap7 : Int) := by simp at r1; omega
  clear hb ho hsee r1 r2 H5
  simp only [List.length_cons, List.length_nil]
  go_wp2_with fail
  refine (vp_commit 9 1 (w64s _ (by simp)) H6.out (by omega)).mono ?_
  rintro e w8 ⟨rfl, hp, hk⟩
  rw [E7.out.1]
  rw [E7.out.2] at hp
  have H7 := Lib.hid hp
  replace HS := Lib.hid (sees_keep HS.out hk fun _ a ha => by injection ha with ha; rw [← ha])
  clear hp hk H6
  go_wp2_with fail
  refine (vp_close 9 H7.out).mono ?_
  rintro e w9 ⟨rfl, hp, hk⟩
  rw [E8.out.1]
  rw [E8.out.2] at hp
  have H8 := Lib.hid hp
  replace HS := Lib.hid (sees_keep HS.out hk fun _ a ha => by injection ha with ha; rw [← ha])
  clear hp hk H7
  go_wp2_with fail
  refine (vp_has 7 8 H8.out).mono ?_
  rintro e w10 ⟨rfl, hb⟩
  rw [E9.out.1, E9.out.2]
  have H9 := Lib.hid (H8.out.call hb)
  replace HS := Lib.hid ((HS.out.below hb).more hb.size)
  clear hb H8
  go_wp2_with fail
  refine (vp_snap 9 H9.out).mono ?_
  rintro e w11 ⟨A11, cap11, rfl, hb, ho⟩
  rw [E10.out.2] at ho
  rw [E10.out.1, E10.out.2]
  have hsee := Sees.own ho
  obtain ⟨b11, off11, rfl, hb11, -⟩ := hsee.2 (by simp)
  obtain ⟨A12, cap12, he12, r1, r2, -⟩ := own_slice0 ho
  injection he12 with ha12 _ hc12
  subst ha12 hc12
  have hnew11 := own_low ho rfl
  have hszs := hb.size
  have H10 := Lib.hid ((H9.out.more (Y' := fun b => b = b7 ∨ b = b11) hb fun b hbb => by
    rcases hbb with h | h
    · exact .inl h
    · exact .inr (by omega)))
  have HS2 := Lib.hid hsee
  replace HS := Lib.hid ((HS.out.below hb).more hb.size)
  have hcap11 : (2 : Int) ≤ (cap11 : Int) := by simp at r1; omega
  clear hb ho hsee r1 r2 H9
  simp only [List.length_cons, List.length_nil]
  go_wp2_with fail
  refine (vp_drop 1 (w64s _ (by simp)) H10.out).mono ?_
  rintro e w12 ⟨rfl, hp, hk⟩
  rw [E11.out.1]
  rw [E11.out.2] at hp
  have H11 := Lib.hid hp
  replace HS := Lib.hid (sees_keep HS.out hk fun _ a ha => by injection ha with ha; rw [← ha]; exact .inl rfl)
  replace HS2 := Lib.hid (sees_keep HS2.out hk fun _ a ha => by injection ha with ha; rw [← ha]; exact .inr rfl)
  clear hp hk H10
  go_wp2_with fail
  refine (vp_drop 3 (w64s _ (by simp)) H11.out).mono ?_
  rintro e w13 ⟨rfl, hp, hk⟩
  rw [E12.out.1]
  rw [E12.out.2] at hp
  have H12 := Lib.hid hp
  replace HS := Lib.hid (sees_keep HS.out hk fun _ a ha => by injection ha with ha; rw [← ha]; exact .inl rfl)
  replace HS2 := Lib.hid (sees_keep HS2.out hk fun _ a ha => by injection ha with ha; rw [← ha]; exact .inr rfl)
  clear hp hk H11
  go_wp2_with fail
  refine (vp_fate 1 (w64s _ (by simp)) H12.out).mono ?_
  rintro e w14 ⟨rfl, hb⟩
  rw [E13.out.1, E13.out.2]
  have H13 := Lib.hid (H12.out.call hb)
  replace HS := Lib.hid ((HS.out.below hb).more hb.size)
  replace HS2 := Lib.hid ((HS2.out.below hb).more hb.size)
  clear hb H12
  go_wp2_with fail
  refine (vp_prune 9 H13.out).mono ?_
  rintro e w15 ⟨rfl, hp, hk⟩
  rw [E14.out.1]
  rw [E14.out.2] at hp
  have H14 := Lib.hid hp
  replace HS := Lib.hid (sees_keep HS.out hk fun _ a ha => by injection ha with ha; rw [← ha]; exact .inl rfl)
  replace HS2 := Lib.hid (sees_keep HS2.out hk fun _ a ha => by injection ha with ha; rw [← ha]; exact .inr rfl)
  clear hp hk H13
  obtain ⟨bb, oo, hA, hbb, hc0⟩ := HS.out.item (encI_len a3) (by omega) 0 1 rfl
  injection hA with hA; injection hA with e1 e2; subst e1 e2
  have q5 := hc0 5 _ rfl
  rw [E6.out.2.2.2.2.2] at q5
  obtain ⟨bb, oo, hA, hbb2, hc1⟩ := HS2.out.item encE_len (by omega) 0 (7, 798) rfl
  injection hA with hA; injection hA with e1 e2; subst e1 e2
  obtain ⟨bb, oo, hA, hbb3, hc2⟩ := HS2.out.item encE_len (by omega) 1 (4103, 2) rfl
  injection hA with hA; injection hA with e1 e2; subst e1 e2
  have q1 := hc1 1 _ rfl
  have q2 := hc2 0 _ rfl
  simp only [Nat.zero_mul, Nat.one_mul, Nat.add_zero, Nat.zero_add] at q5 q1 q2
  clear hc0 hc1 hc2
  obtain ⟨gz, sg, gc, HCL, HMK⟩ := H14.out.face
  rw [E15.out.2.1] at HCL
  rw [E15.out.2.2] at HMK
  have HCL := Lib.hid HCL
  have HMK := Lib.hid HMK
  go_wp2_with fail
  refine (vp_top H14.out).mono ?_
  rintro e w16 ⟨rfl, e1⟩
  subst w16
  rw [E15.out.1]
  go_wp2_with fail
  refine (HCL.out w15 (Below.refl _ _)).mono ?_
  rintro e w16 ⟨rfl, e1⟩
  subst w16
  go_wp2_with fail
  refine (HMK.out w15 (Below.refl _ _)).mono ?_
  rintro e w16 ⟨rfl, e1⟩
  subst w16
  go_wp2_with fail
  go_ret
  exact ⟨rfl, H14.out.bel⟩
end Go.Proofs.YtckhddndeojobaaGreat
