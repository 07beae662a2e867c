/- Locks: the document's Give, Ask and End, plain, go with the program's. -/
import Derived.Test.YtcjefigcaifmeaaLokJ
import Derived.Test.YtcjefigcaifmeaaLokQ
namespace Go.Lk
set_option linter.unusedVariables false
section
variable {s : Tb}
theorem gl_blk {h : Fn} {l : List (Int × Bool)} {x : Int} {b : Bool} {r : List (Int × Bool)} (e : l = (x, b) :: r) (hb : Blk h x b) : gl h l = [] := by
  rw [e]; unfold gl; rw [if_pos hb]
/-- Where a key doesn't lie idle nobody is given it. -/
theorem G1_idle {P : Int → Prop} (m : Mid s P) {k : Int} (hi : ¬ P k) : G1 s k = [] := by
  unfold G1
  cases hr : rowOf (s.w k) with
  | nil => rfl
  | cons p r =>
    obtain ⟨x, b⟩ := p
    have hm : ∀ y c, (y, c) ∈ rowOf (s.w k) ↔ s.w k y = some c := fun y c => rowOf_mem (m.finw k) y c
    have hs := rowOf_rises (m.finw k)
    rw [hr] at hm hs
    obtain ⟨h1, h2⟩ := List.pairwise_cons.1 hs
    have hx := (hm x b).1 (List.mem_cons_self ..)
    refine gl_blk rfl (m.idle k hi x b hx fun y hy => ?_)
    obtain ⟨c, hc⟩ := Option.isSome_iff_exists.1 hy
    rcases List.mem_cons.1 ((hm y c).2 hc) with e | hy
    · injection e with e; omega
    · have := h1 _ hy; simp only at this; omega
theorem gives_all {K : List Int} (m : Mid s fun k => k ∈ K) (hn : K.Nodup) (k : Int) : (giveS s K).h k = setL (s.h k) (G1 s k) ∧ (giveS s K).w k = delL (s.w k) (G1 s k) := by
  by_cases hk : k ∈ K
  · exact gives_in K s hn hk
  · obtain ⟨h1, h2, -⟩ := gives_out K s hk
    rw [h1, h2, G1_idle m hk]
    exact ⟨rfl, rfl⟩
noncomputable def outAll (s : Tb) (K : List Int) : List (Int × Int) := K.flatMap fun k => (G1 s k).map fun p => (p.1, k)
theorem woke_all (s : Tb) (K : List Int) (but : Int) : wokeL s K but = (outAll s K).filter fun p => p.1 != but := by
  unfold wokeL outAll
  rw [List.filter_flatMap]
  congr 1
  funext k
  rw [List.filter_map]
  rfl
theorem flat_only {β : Type} (g : Int → List β) : ∀ L : List Int, L.flatMap g = (L.filter fun k => !(g k).isEmpty).flatMap g
  | [] => rfl
  | a :: L => by
    rw [List.flatMap_cons, flat_only g L, List.filter_cons]
    cases e : g a with
    | nil => simp
    | cons b r => simp [e]
theorem flat_same {β : Type} {g : Int → List β} {L M : List Int} (hL : Rises L) (hM : Rises M) (h : ∀ k, g k ≠ [] → (k ∈ L ↔ k ∈ M)) : L.flatMap g = M.flatMap g := by
  rw [flat_only g L, flat_only g M]
  congr 1
  refine rises_unique (List.Pairwise.filter _ hL) (List.Pairwise.filter _ hM) fun k => ?_
  rw [List.mem_filter, List.mem_filter]
  by_cases e : g k = []
  · simp [e]
  · rw [h k e]
/-- All keys' rows, in turn. -/
theorem fold_give {P : Int → Prop} (m : Mid s P) : ∀ (KS : List Int) (H W : List Rw) (h w : Int → Fn) (out : List (Int × Int)), KS.Nodup → Rel H h → Rel W w → (∀ k ∈ KS, h k = s.h k ∧ w k = s.w k) → (∀ j x, w j x ≠ none → s.w j x ≠ none) →
    ∃ H' W', (KS.flatMap fun k => mkR k (rowOf (s.w k))).foldl stepR (H, W, out) = (H', W', out ++ outAll s KS) ∧ Rel H' (fun k => if k ∈ KS then setL (s.h k) (G1 s k) else h k) ∧ Rel W' (fun k => if k ∈ KS then delL (s.w k) (G1 s k) else w k)
  | [], H, W, h, w, out, hn, rH, rW, hk, hl => ⟨H, W, by simp [outAll], by simpa using rH, by simpa using rW⟩
  | k :: KS, H, W, h, w, out, hn, rH, rW, hk, hl => by
    obtain ⟨n1, n2⟩ := List.nodup_cons.1 hn
    obtain ⟨e1, e2⟩ := hk k (List.mem_cons_self ..)
    have hone : ∀ x j, (w k x).isSome = true → w j x ≠ none → j = k := fun x j h1 h2 => by
      rw [e2] at h1
      have h3 : (s.w j x).isSome = true := by
        cases e : s.w j x with
        | none => exact absurd e (hl j x h2)
        | some c => rfl
      exact m.one j k x h3 h1
    obtain ⟨H1, W1, f1, r1, r2⟩ := block_give (rowOf (s.w k)) H W h w out k rH rW (by rw [e1, e2]; exact m.ok k) (rowOf_rises (m.finw k)) (fun x b => by rw [e2]; exact rowOf_mem (m.finw k) x b) hone
    have g1 : gl (h k) (rowOf (s.w k)) = G1 s k := by rw [e1]; rfl
    rw [g1] at f1 r1 r2
    rw [e1] at r1
    rw [e2] at r2
    obtain ⟨H2, W2, f2, r3, r4⟩ := fold_give m KS H1 W1 _ _ (out ++ (G1 s k).map fun p => (p.1, k)) n2 r1 r2 (fun j hj => by
      have hjk : j ≠ k := fun e => n1 (e ▸ hj)
      unfold setK
      rw [upd_other _ hjk, upd_other _ hjk]
      exact hk j (List.mem_cons_of_mem _ hj)) (fun j x hj => by
      unfold setK at hj
      by_cases e : j = k
      · subst e
        rw [upd_same] at hj
        intro h0
        exact hj (delL_none _ _ h0)
      · rw [upd_other _ e] at hj
        exact hl j x hj)
    refine ⟨H2, W2, ?_, ?_, ?_⟩
    · rw [List.flatMap_cons, List.foldl_append, f1, f2]
      unfold outAll
      rw [List.flatMap_cons, List.append_assoc]
    · have e : (fun j => if j ∈ KS then setL (s.h j) (G1 s j) else setK h k (setL (s.h k) (G1 s k)) j) = fun j => if j ∈ k :: KS then setL (s.h j) (G1 s j) else h j := by
        funext j
        by_cases hj : j ∈ KS
        · rw [if_pos hj, if_pos (List.mem_cons_of_mem _ hj)]
        · rw [if_neg hj]
          unfold setK
          by_cases ejk : j = k
          · subst ejk
            rw [upd_same, if_pos (List.mem_cons_self ..)]
          · rw [upd_other _ ejk, if_neg (by simp [ejk, hj])]
      rw [← e]; exact r3
    · have e : (fun j => if j ∈ KS then delL (s.w j) (G1 s j) else setK w k (delL (s.w k) (G1 s k)) j) = fun j => if j ∈ k :: KS then delL (s.w j) (G1 s j) else w j := by
        funext j
        by_cases hj : j ∈ KS
        · rw [if_pos hj, if_pos (List.mem_cons_of_mem _ hj)]
        · rw [if_neg hj]
          unfold setK
          by_cases ejk : j = k
          · subst ejk
            rw [upd_same, if_pos (List.mem_cons_self ..)]
          · rw [upd_other _ ejk, if_neg (by simp [ejk, hj])]
      rw [← e]; exact r4
/-- The document's Give is the program's. -/
theorem give_all {K : List Int} (m : Mid s fun k => k ∈ K) (hK : Rises K) {H W : List Rw} (rH : Rel H s.h) (rW : Rel W s.w) :
    ∃ H' W', giveR H W = (H', W', outAll s K) ∧ Rel H' (giveS s K).h ∧ Rel W' (giveS s K).w := by
  classical
  have hfin : Fin1 fun k => if rowOf (s.w k) ≠ [] then some () else none := .of_list (W.map (·.key)) fun k hk => by
    split at hk
    · rename_i hne
      obtain ⟨p, hp⟩ := List.exists_mem_of_ne_nil _ hne
      have h1 := (rowOf_mem (m.finw k) p.1 p.2).1 hp
      exact List.mem_map.2 ⟨⟨p.1, k, p.2⟩, (rW.mem p.1 k p.2).2 h1, rfl⟩
    · cases hk
  obtain ⟨KS, hKS⟩ : ∃ KS, KS = supp fun k => if rowOf (s.w k) ≠ [] then some () else none := ⟨_, rfl⟩
  have hr : Rises KS := by rw [hKS]; exact supp_rises hfin
  have hmem : ∀ k, k ∈ KS ↔ rowOf (s.w k) ≠ [] := fun k => by rw [hKS, supp_mem hfin]; split <;> simp_all
  have hW : W = KS.flatMap fun k => mkR k (rowOf (s.w k)) := by
    refine rel_unique rW ⟨?_, fun x k b => ?_⟩
    · rw [List.pairwise_flatMap]
      refine ⟨fun k _ => ?_, hr.imp fun {j k} hjk x hx y hy => ?_⟩
      · unfold mkR
        rw [List.pairwise_map]
        exact (rowOf_rises (m.finw k)).imp fun h => .inr ⟨rfl, h⟩
      · obtain ⟨p, -, rfl⟩ := List.mem_map.1 hx
        obtain ⟨q, -, rfl⟩ := List.mem_map.1 hy
        exact .inl hjk
    · rw [List.mem_flatMap]
      constructor
      · rintro ⟨j, hj, hx⟩
        obtain ⟨p, hp, e⟩ := List.mem_map.1 hx
        injection e with e1 e2 e3
        subst e1 e2 e3
        exact (rowOf_mem (m.finw j) p.1 p.2).1 hp
      · intro hx
        have := (rowOf_mem (m.finw k) x b).2 hx
        exact ⟨k, (hmem k).2 fun e => (by rw [e] at this; cases this), List.mem_map.2 ⟨(x, b), this, rfl⟩⟩
  obtain ⟨H', W', h1, h2, h3⟩ := fold_give m KS H W s.h s.w [] hr.nodup rH rW (fun k _ => ⟨rfl, rfl⟩) fun j x h => h
  have hno : ∀ k, k ∉ KS → G1 s k = [] := fun k hk => by
    have : rowOf (s.w k) = [] := Classical.byContradiction fun h => hk ((hmem k).2 h)
    unfold G1
    rw [this]
    rfl
  refine ⟨H', W', ?_, ?_, ?_⟩
  · unfold giveR
    have h1' := h1
    rw [← hW] at h1'
    rw [h1', List.nil_append]
    congr 2
    unfold outAll
    refine flat_same hr hK fun k hk => ?_
    have hg : G1 s k ≠ [] := fun e => hk (by rw [e]; rfl)
    exact ⟨fun _ => Classical.byContradiction fun h => hg (G1_idle m h), fun _ => Classical.byContradiction fun h => hg (hno k h)⟩
  · have e : (fun k => if k ∈ KS then setL (s.h k) (G1 s k) else s.h k) = (giveS s K).h := by
      funext k
      rw [(gives_all m hK.nodup k).1]
      by_cases hk : k ∈ KS
      · rw [if_pos hk]
      · rw [if_neg hk, hno k hk]; rfl
    rw [← e]; exact h2
  · have e : (fun k => if k ∈ KS then delL (s.w k) (G1 s k) else s.w k) = (giveS s K).w := by
      funext k
      rw [(gives_all m hK.nodup k).2]
      by_cases hk : k ∈ KS
      · rw [if_pos hk]
      · rw [if_neg hk, hno k hk]; rfl
    rw [← e]; exact h3
end
end Go.Lk
