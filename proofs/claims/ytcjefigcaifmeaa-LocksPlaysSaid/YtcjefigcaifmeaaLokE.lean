/- Contracts at layer 13: End. -/
import Derived.Test.YtcjefigcaifmeaaLokZ
namespace Go.Proofs.Ytcjefigcaifmeaa
open Go.RowKit Go.Lk
set_option linter.unusedVariables false
set_option linter.unusedSimpArgs false
set_option maxRecDepth 100000
section
variable {w w' : World} {s : Tb} {loc : Nm → Nat}
theorem Tm.delPar (T : Tm w s loc) {x : Int} (hm : Mv pE w' (loc .pars) (upd (parF s loc) x none)) (ho : Off (fun b => b = loc .pars) w w') : Tm w' { s with inn := upd s.inn x false, dead := upd s.dead x false } loc := by
  have hl : ∀ n, live { s with inn := upd s.inn x false, dead := upd s.dead x false } n = true → live s n = true ∧ (n = .p x → False) := fun n hn => by
    cases n with
    | p j =>
      have h1 : upd s.inn x false j = true := hn
      by_cases e : j = x
      · rw [e, upd_same] at h1; cases h1
      · rw [upd_other _ e] at h1
        exact ⟨h1, fun h => by injection h with h; exact e h⟩
    | ks j =>
      have h1 : upd s.inn x false j = true := hn
      by_cases e : j = x
      · rw [e, upd_same] at h1; cases h1
      · rw [upd_other _ e] at h1
        exact ⟨h1, fun h => by cases h⟩
    | _ => exact ⟨hn, fun h => by cases h⟩
  refine ⟨fun a b ha hb e => T.inj a b (hl a ha).1 (hl b hb).1 e, fun n hn => ?_⟩
  obtain ⟨h1, h2⟩ := hl n hn
  by_cases e : n = .pars
  · subst e
    show Mv pE w' (loc .pars) (parF { s with inn := upd s.inn x false, dead := upd s.dead x false } loc)
    refine hm.congr fun j => ?_
    unfold parF
    by_cases e : j = x
    · subst e
      simp only [upd_same]
      rw [if_neg (by simp)]
    · simp only [upd_other _ e]
  · have h := (T.has n h1).at (ho.block _ (T.has n h1).lt fun e2 => e (T.inj n .pars h1 rfl e2))
    cases n with
    | pars => exact absurd rfl e
    | p j =>
      show Whole w' (loc (.p j)) 69 #[.map (some (loc (.ks j))), .bool (s.waits j), .bool (upd s.dead x false j)]
      rw [upd_other _ (fun e3 => h2 (by rw [e3]))]
      exact h
    | _ => exact h
theorem foot_less {s' : Tb} (h : ∀ n, live s' n = true → live s n = true) {b : Nat} (hb : Foot s' loc b) : Foot s loc b := by obtain ⟨n, hn, e⟩ := hb; exact ⟨n, h n hn, e⟩
end
theorem gives_row (s : Tb) (K : List Int) (hK : ∀ k ∈ K, s.row k = true) (k : Int) (h : (giveS s K).row k = true) : s.row k = true := by
  by_cases e : k ∈ K
  · exact hK k e
  · rw [← (gives_out K s e).2.2]; exact h
theorem gives_live (s : Tb) (K : List Int) (hK : ∀ k ∈ K, s.row k = true) (n : Nm) (h : live (giveS s K) n = true) : live s n = true := by
  have hi := (gives_same K s).1
  cases n with
  | h k => exact gives_row s K hK k h
  | w k => exact gives_row s K hK k h
  | p x => show s.inn x = true; rw [← hi]; exact h
  | ks x => show s.inn x = true; rw [← hi]; exact h
  | _ => rfl
set_option maxHeartbeats 8000000 in
theorem lend_any {s : Tb} {loc : Nm → Nat} (x : Int) (hx : W64 x) (w : World) (T : Tm w s loc) (m : Fine s) (hn : cntT s ≤ 100000) :
    Calls Try.prog 10 #[ptr (loc .face), .int .i64 x] w fun e w' => ∃ A cap, e = .returned (.tuple #[.slice A (endA s x).length cap, .int .i64 (if x < 1 then 130 else 0)]) ∧ WentT (Foot s loc) w w' (loc .face) (endS s x) ∧
      w'.ownsRow w.heap.size 57 2 (.slice A (endA s x).length cap) (endA s x).length (flat encG (endA s x)) := by
  by_cases h1 : x < 1
  · have e1 : endA s x = [] := by unfold endA; rw [if_pos (.inl h1)]
    have e2 : endS s x = s := by unfold endS; rw [if_pos (.inl h1)]
    rw [e1, e2, if_pos h1]
    have HT := Lib.hid T
    obtain ⟨c0, c1, cz⟩ := T.face
    clear T m e1 e2
    go_enter Try.func10, Try.ntmps10
    go_wp2_with fail
    refine bodyPost_ret (by simp [results, Try.results10, go_sem]; try rfl) rfl ?_
    exact ⟨none, 0, rfl, .same HT.out.tab (Below.refl _ _), World.ownsRow_nil _ _ _ _⟩
  · rw [if_neg h1]
    have hx1 : 1 ≤ x := by omega
    cases hi : s.inn x with
    | false =>
      have e1 : endA s x = [] := by unfold endA; rw [if_pos (.inr hi)]
      have e2 : endS s x = s := by unfold endS; rw [if_pos (.inr hi)]
      rw [e1, e2]
      have HT := Lib.hid T
      obtain ⟨c0, c1, cz⟩ := T.face
      have hl := (T.pars hx).1
      rw [parF_out hi, hi] at hl
      clear T m e1 e2 hi
      go_enter Try.func10, Try.ntmps10
      go_wp2_with fail
      refine bodyPost_ret (by simp [results, Try.results10, go_sem]; try rfl) rfl ?_
      exact ⟨none, 0, rfl, .same HT.out.tab (Below.refl _ _), World.ownsRow_nil _ _ _ _⟩
    | true =>
      have hnot : ¬ (x < 1 ∨ s.inn x = false) := by rw [hi]; simp; omega
      have e1 : endA s x = wokeL (goS s x) (endK s x) x := by unfold endA; rw [if_neg hnot]
      have e2 : endS s x = giveS (goS s x) (endK s x) := by unfold endS; rw [if_neg hnot]
      rw [e1, e2]
      have HT := Lib.hid T
      have HMI := Lib.hid m
      have HI := Lib.hid hi
      have HF := Lib.hid (lfree_any x hi w T m)
      obtain ⟨c0, c1, cz⟩ := T.face
      have hl := (T.pars hx).1
      rw [parF_in hi, hi] at hl
      have HLOW : Hid (∀ b, Foot s loc b → b < w.heap.size) := Lib.hid fun b hb => T.low hb
      have hgo : cntT (goS s x) ≤ cntT s := supp_less m.fin (m.go x).fin fun y hy => by
        rw [innF_iff] at hy ⊢
        have h2 : upd s.inn x false y = true := hy
        by_cases e : y = x
        · rw [e, upd_same] at h2; cases h2
        · rwa [upd_other _ e] at h2
      clear T m e1 e2 hnot hi
      go_enter Try.func10, Try.ntmps10
      go_wp2_with fail
      refine HF.out.mono ?_
      rintro e w1 ⟨A, cap, L, rfl, hnd, hmem, hof1, hT1, hown, hA⟩
      have HOF1 := Lib.hid hof1
      have HT1 := Lib.hid hT1
      have hw1 := hof1.size
      have hat : ∃ gk, A = some ⟨gk, 0, none⟩ ∧ w.heap.size ≤ gk ∧ gk < w1.heap.size := by
        rcases hown.2 with ⟨h, _⟩ | ⟨g', c', cur, h, hb, hg, _⟩
        · injection h with h; exact absurd h hA
        · injection h with h
          exact ⟨g', h, hb, (Array.getElem?_eq_some_iff.1 hg).1⟩
      obtain ⟨gk, rfl, hgk, hgk1⟩ := hat
      have HOW := Lib.hid hown
      have HMEM := Lib.hid hmem
      have hL8 : L.length ≤ 8192 := by
        have := len_sub hnd (m := (List.range 8192).map fun (n : Nat) => (n : Int)) fun k hk => by
          have := (isK_iff k).1 (HMI.out.ksx x k ((hmem k).1 hk)).2.1
          exact List.mem_map.2 ⟨k.toNat, List.mem_range.2 (by omega), by omega⟩
        simpa using this
      have hmp : Mv pE w1 (loc .pars) (parF (freeS s x) loc) := hT1.has .pars rfl
      obtain ⟨d0, d1, dz⟩ := hT1.face
      clear hof1 hT1 hown hmem hA c0 c1 cz hl
      go_wp2_with (at_delete; refine wpList_delete_mv _ rfl _ _ 51 rfl 70 Try.underlying51 (loc .pars) _ rfl hmp x rfl hx ?_)
      intro w2 hm2 ho2 hs2
      clear hs2
      have HT2 : Hid (Tm w2 (goS s x) loc) := Lib.hid (HT1.out.delPar hm2 ho2)
      have hfp : Foot s loc (loc .pars) := ⟨.pars, rfl, rfl⟩
      have hpl := HLOW.out _ hfp
      have HOF2 := Lib.hid (HOF1.out.trans (off_more ho2 fun i hi => by subst hi; exact hfp))
      have HOW2 := Lib.hid (own_off HOW.out ho2 fun b hb e => by
        have : gk = b := by simpa [Value.ownBlock] using hb
        omega)
      have hmid : Mid (goS s x) fun j => j ∈ L := (HMI.out.go x).congr fun k => by rw [HMEM.out]; simp
      have hfl : ∀ b, Foot (goS s x) loc b → Foot s loc b := fun b hb => foot_less (fun n hn => by
        cases n with
        | p y =>
          have h2 : upd s.inn x false y = true := hn
          by_cases e : y = x
          · rw [e, upd_same] at h2; cases h2
          · rwa [upd_other _ e] at h2
        | ks y =>
          have h2 : upd s.inn x false y = true := hn
          by_cases e : y = x
          · rw [e, upd_same] at h2; cases h2
          · rwa [upd_other _ e] at h2
        | _ => exact hn) hb
      have HFL := Lib.hid hfl
      have HKR := Lib.hid hmid.kr
      have HG := Lib.hid (lgive_any L w.heap.size gk cap x w2 HT2.out hmid (by omega) HOW2.out (fun h => by have := HLOW.out _ (hfl _ h); omega) (by omega) (Nat.lt_of_lt_of_le hgk1 ho2.size))
      clear hm2 ho2 hmid hfl hmp d0 d1 dz hfp
      go_wp2_with fail
      refine HG.out.mono ?_
      rintro e w3 ⟨A', cap', K, hkr, hkm, rfl, hT3, hof3, hown3⟩
      have hKE : K = endK s x := rises_unique hkr (endK_rises HMI.out x) fun k => by rw [hkm, HMEM.out, endK_mem HMI.out]
      subst hKE
      have HT3 := Lib.hid hT3
      have HOW3 := Lib.hid hown3
      have HKS : Hid (∀ k ∈ endK s x, (goS s x).row k = true) := Lib.hid fun k hk => HKR.out k ((hkm k).1 hk)
      have HOF3 := Lib.hid (HOF2.out.then (F' := fun b => Foot (goS s x) loc b ∨ b = gk) (fun b hb => by
        rcases hb with h | rfl
        · exact .inl (HFL.out _ h)
        · exact .inr hgk) hof3)
      have hws := HOF2.out.size
      clear hT3 hof3 hown3 hkr hkm
      go_wp2_with fail
      refine bodyPost_ret (by simp [results, Try.results10, go_sem]; try rfl) rfl ?_
      refine ⟨A', cap', rfl, ⟨HOF3.out, _, fun b hb => ?_, loc, rfl, HT3.out, fun b => Iff.rfl⟩, ⟨HOW3.out.1, HOW3.out.2.imp_right fun ⟨g, cap, cur, h1, h2, h3⟩ => ⟨g, cap, cur, h1, Nat.le_trans hws h2, h3⟩⟩⟩
      exact .inl (HFL.out b (foot_less (gives_live _ _ HKS.out) hb))
end Go.Proofs.Ytcjefigcaifmeaa
