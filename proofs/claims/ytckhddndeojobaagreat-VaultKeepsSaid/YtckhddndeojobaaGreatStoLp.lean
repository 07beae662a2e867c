/- Stores: plain words for the laws of higher layers: what counts at a time that is closed stays (the plain part of XStoL). -/
import Derived.Test.YtckhddndeojobaaGreatStoM
namespace Go.So
open Go.Cn
set_option linter.unusedVariables false
theorem chain_put {c : Cs} (t v s : Int) (h : s < t) : getE (put c t v) s = getE c s ∧ getV (put c t v) s = getV c s := by
  rcases put_cases c t v with ⟨_, _, e⟩ | ⟨_, _, _, e⟩ | ⟨_, _, _, _, _, e⟩ | ⟨_, _, _, _, _, e⟩ <;> rw [e]
  · exact ⟨rfl, rfl⟩
  · exact ⟨rfl, rfl⟩
  · exact ⟨rfl, rfl⟩
  · have hu : upTo (c.l ++ [(t, v)]) s = upTo c.l s := upTo_append c.l (t, v) s h
    have hE : getE ⟨c.l ++ [(t, v)], c.mark⟩ s = getE c s := by unfold getE; simp only [hu]
    refine ⟨hE, ?_⟩
    unfold getV
    rw [hE]
    split
    · rename_i h0
      simp only [hu]
      have hle := upTo_le c.l s
      rcases get_cases c s with ⟨_, h1, _⟩ | ⟨_, _, h1, _⟩ | ⟨_, _, _, h1, _⟩ | ⟨_, _, n, h2, _⟩
      · omega
      · omega
      · omega
      · rw [List.getElem?_append_left (by omega)]
    · rfl
theorem chain_prune {c : Cs} (t s : Int) (h : t ≤ s) : getE (prune c t) s = getE c s ∧ getV (prune c t) s = getV c s := by
  rcases prune_cases c t with ⟨_, _, e⟩ | ⟨_, _, _, e⟩ | ⟨h1, h2, _, e⟩ <;> rw [e]
  · exact ⟨rfl, rfl⟩
  · exact ⟨rfl, rfl⟩
  · have hm := upTo_mono c.l t s h
    have hu : upTo (c.l.drop (upTo c.l t - 1)) s = upTo c.l s - (upTo c.l t - 1) := upTo_drop c.l s _ (by omega)
    have hz : (upTo (c.l.drop (upTo c.l t - 1)) s = 0) = (upTo c.l s = 0) := by rw [hu]; apply propext; omega
    have hE : getE ⟨c.l.drop (upTo c.l t - 1), t⟩ s = getE c s := by
      unfold getE
      simp only [hz]
      rw [if_neg (show ¬ s < t by omega), if_neg (show ¬ s < c.mark by omega)]
    refine ⟨hE, ?_⟩
    unfold getV
    rw [hE]
    split
    · rename_i h0
      simp only [hu]
      rcases get_cases c s with ⟨_, h1, _⟩ | ⟨_, _, h1, _⟩ | ⟨_, _, _, h1, _⟩ | ⟨_, _, n, h2, _⟩
      · omega
      · omega
      · omega
      · rw [List.getElem?_drop, show upTo c.l t - 1 + (upTo c.l s - (upTo c.l t - 1) - 1) = upTo c.l s - 1 by omega]
    · rfl
theorem cntC_put {c : Cs} (t v s : Int) (h : s < t) : cntC (put c t v) s = cntC c s := by
  obtain ⟨h1, h2⟩ := chain_put (c := c) t v s h
  unfold cntC
  rw [h1, h2]
theorem cntC_prune {c : Cs} (t s : Int) (h : t ≤ s) : cntC (prune c t) s = cntC c s := by
  obtain ⟨h1, h2⟩ := chain_prune (c := c) t s h
  unfold cntC
  rw [h1, h2]
theorem cntC_new (s : Int) : cntC ⟨[], 0⟩ s = none := by
  unfold cntC
  rcases get_cases ⟨[], 0⟩ s with ⟨_, h1, _⟩ | ⟨_, _, h1, _⟩ | ⟨_, _, _, h1, _⟩ | ⟨_, _, n, h2, _⟩
  · rw [h1]; rfl
  · rw [h1]; rfl
  · rw [h1]; rfl
  · simp [upTo] at h2
/-- What counts ahead of the stamp is what counted. -/
theorem cnt_adds {s : Sto} {t : Int} {l : List En} (hn : (l.map fun e => e.1).Nodup) (k at_ : Int) (h : at_ < t) : cnt (addsS s t l) k at_ = cnt s k at_ := by
  unfold cnt
  by_cases hk : ∃ e ∈ l, e.1 = k
  · obtain ⟨e, he, rfl⟩ := hk
    rw [adds_at s t l hn e he]
    cases hc : s.ch e.1 with
    | none =>
      simp only [Option.getD_none, Option.bind_some, Option.bind_none]
      rw [cntC_put _ _ _ h, cntC_new]
    | some c =>
      simp only [Option.getD_some, Option.bind_some]
      exact cntC_put _ _ _ h
  · rw [adds_other s t k l fun e he e2 => hk ⟨e, he, e2⟩]
theorem putS_keeps (s : Sto) (t : Int) (l : List En) : (putS s t l).closed = s.closed ∧ (putS s t l).mark = s.mark := by
  unfold putS
  split
  · exact adds_keeps s t l
  · exact ⟨rfl, rfl⟩
theorem cnt_put {s : Sto} (t : Int) (l : List En) (k at_ : Int) (h : at_ ≤ s.closed) : cnt (putS s t l) k at_ = cnt s k at_ := by
  rcases putS_cases s t l with ⟨_, _, e⟩ | ⟨_, _, _, e⟩ | ⟨_, _, _, _, e⟩ | ⟨_, _, _, _, _, e⟩ | ⟨_, h2, _, h3, _, e⟩ <;> rw [e]
  exact cnt_adds h3.once k at_ (by omega)
theorem tells_same {s s' : Sto} (h1 : s'.closed = s.closed) (h2 : s'.mark = s.mark) (t : Int) : tellsE s' t = tellsE s t := by unfold tellsE; rw [h1, h2]
theorem closeS_closed (s : Sto) (t : Int) : s.closed ≤ (closeS s t).closed ∧ (closeS s t).mark = s.mark ∧ (closeS s t).ch = s.ch := by
  unfold closeS
  split
  · exact ⟨by show s.closed ≤ max s.closed t; omega, rfl, rfl⟩
  · exact ⟨Int.le_refl _, rfl, rfl⟩
/-- What counts at a time isn't above it. -/
theorem cnt_le {s : Sto} (hf : Fine s) {k t : Int} {v : Ve} (h : cnt s k t = some v) : v.1 ≤ t := by
  unfold cnt at h
  obtain ⟨c, hc, hv⟩ := Option.bind_eq_some_iff.1 h
  unfold cntC at hv
  split at hv
  · rename_i h0
    injection hv with hv
    rcases get_cases c t with ⟨_, h1, _⟩ | ⟨_, _, h1, _⟩ | ⟨_, _, _, h1, _⟩ | ⟨_, _, n, h2, h3, h4, _⟩
    · omega
    · omega
    · omega
    · rw [hv] at h4
      exact (lt_upTo (hf.ok k c hc).rise t n v h4).2 (by omega)
  · cases hv
theorem closeS_cnt (s : Sto) (t k u : Int) : cnt (closeS s t) k u = cnt s k u := by unfold cnt; rw [(closeS_closed s t).2.2]
theorem closeSE_zero {t : Int} : closeSE t = 0 ↔ isT t = true := by
  unfold closeSE
  split
  · rename_i h; simp [h]
  · rename_i h; simp [h]
/-- Of what was put at a stamp: what counts from the stamp on. -/
theorem cnt_whole {s : Sto} (hf : Fine s) {t : Int} {l : List En} (h : Cans s t l) (ht : 1 ≤ t ∧ t ≤ 1125899906842624) (hc : s.closed < t) {e : En} (he : e ∈ l) {u : Int} (hu : isT u = true) (hm : s.mark ≤ u) (h2 : t ≤ u) : cnt (addsS s t l) e.1 u = some (t, e.2) := by
  have hcan := h.can e he
  obtain ⟨p1, p2⟩ := hcan.put hf ht hc e.2
  have hok : Ok ((s.ch e.1).getD ⟨[], 0⟩) ∧ ((s.ch e.1).getD ⟨[], 0⟩).mark ≤ s.mark ∧ (lastV ((s.ch e.1).getD ⟨[], 0⟩).l).1 < t := by
    have hr := hf.range
    cases hk : s.ch e.1 with
    | none => exact ⟨Ok.new, hr.1, by show (0 : Int) < t; omega⟩
    | some c => exact ⟨hf.ok _ c hk, hf.marks _ c hk, (hcan.room c hk).1⟩
  unfold cnt
  rw [adds_at s t l h.once e he, p2]
  simp only [Option.bind_some]
  generalize (s.ch e.1).getD ⟨[], 0⟩ = c at *
  have hall : upTo (c.l ++ [(t, e.2)]) u = (c.l ++ [(t, e.2)]).length := upTo_all _ u fun v hv => by
    rcases List.mem_append.1 hv with hv | hv
    · have := hok.1.last t hok.2.2 v hv; omega
    · rw [List.mem_singleton] at hv; subst hv; exact h2
  have hE : getE ⟨c.l ++ [(t, e.2)], c.mark⟩ u = 0 := by
    unfold getE
    simp only [hall, hu, not_true_eq_false, if_false]
    rw [if_neg (by omega), if_neg (by simp)]
  unfold cntC
  rw [if_pos hE]
  unfold getV
  rw [if_pos hE]
  simp only [hall]
  rw [List.length_append, List.length_singleton, Nat.add_sub_cancel, List.getElem?_append_right (Nat.le_refl _), Nat.sub_self]
  rfl
/-- What is told of a key that was put at a stamp. -/
theorem get_whole {s : Sto} (hf : Fine s) {t : Int} {l : List En} (h0 : putSE s t l = 0) {u : Int} (hu : closeSE u = 0) (hm : (closeS (putS s t l) u).mark ≤ u) {e : En} (he : e ∈ l) :
    (t ≤ u ∧ getSE (closeS (putS s t l) u) e.1 u = 0 ∧ getSV (closeS (putS s t l) u) e.1 u = (t, e.2)) ∨ (u < t ∧ (getSE (closeS (putS s t l) u) e.1 u = 127 ∨ getSE (closeS (putS s t l) u) e.1 u = 0 ∧ (getSV (closeS (putS s t l) u) e.1 u).1 ≠ t)) := by
  have hT := closeSE_zero.1 hu
  have hfp := hf.put t l
  obtain ⟨ht, hc, hcan, hp⟩ : (1 ≤ t ∧ t ≤ 1125899906842624) ∧ s.closed < t ∧ Cans s t l ∧ putS s t l = addsS s t l := by
    rcases putS_cases s t l with ⟨_, h, _⟩ | ⟨_, _, h, _⟩ | ⟨_, _, _, h, _⟩ | ⟨_, _, _, h1, h, _⟩ | ⟨h1, h2, _, h3, _, h4⟩
    · omega
    · omega
    · omega
    · omega
    · exact ⟨h1, h2, h3, h4⟩
  have hmk : (closeS (putS s t l) u).mark = s.mark := by rw [(closeS_closed _ _).2.1, (putS_keeps s t l).2]
  have htells : tellsE (closeS (putS s t l) u) u = 0 := tells_zero.2 ⟨hT, by
    unfold closeS
    rw [if_pos hT]
    show u ≤ max _ u
    omega, hm⟩
  have hk := (hcan.can e he).key
  have hcn := closeS_cnt (putS s t l) u e.1 u
  rcases getS_cases (closeS (putS s t l) u) e.1 u with ⟨h, _⟩ | ⟨_, h, _⟩ | ⟨_, _, h1, h2, h3⟩ | ⟨_, _, ⟨v, h1, h3⟩, h2⟩
  · have := (isK_no e.1).1 h; omega
  · exact absurd htells h
  · rw [hcn] at h1
    by_cases h : t ≤ u
    · rw [hp, cnt_whole hf hcan ht hc he hT (by omega) h] at h1
      cases h1
    · exact .inr ⟨by omega, .inl h2⟩
  · rw [hcn] at h1
    by_cases h : t ≤ u
    · rw [hp, cnt_whole hf hcan ht hc he hT (by omega) h] at h1
      injection h1 with h1
      exact .inl ⟨h, h2, by rw [h3, ← h1]⟩
    · have := cnt_le hfp h1
      exact .inr ⟨by omega, .inr ⟨h2, by rw [h3]; omega⟩⟩
/-- A time is told of as ever, or pruned away. -/
def Stay (S : List En) (s : Sto) (t : Int) : Prop := (tellsE s t = 0 ∧ snapL s t = S) ∨ (isT t = true ∧ t ≤ s.closed ∧ t < s.mark)
theorem stay_put {S : List En} {s : Sto} {at_ : Int} (h : Stay S s at_) (t : Int) (l : List En) : Stay S (putS s t l) at_ := by
  obtain ⟨k1, k2⟩ := putS_keeps s t l
  rcases h with ⟨h1, h2⟩ | ⟨h1, h2, h3⟩
  · refine .inl ⟨by rw [tells_same k1 k2]; exact h1, ?_⟩
    rw [← h2]
    exact snap_same fun k => cnt_put t l k at_ (tells_zero.1 h1).2.1
  · exact .inr ⟨h1, by rw [k1]; exact h2, by rw [k2]; exact h3⟩
theorem stay_close {S : List En} {s : Sto} {at_ : Int} (h : Stay S s at_) (t : Int) : Stay S (closeS s t) at_ := by
  obtain ⟨k1, k2, k3⟩ := closeS_closed s t
  rcases h with ⟨h1, h2⟩ | ⟨h1, h2, h3⟩
  · obtain ⟨q1, q2, q3⟩ := tells_zero.1 h1
    refine .inl ⟨tells_zero.2 ⟨q1, by omega, by rw [k2]; exact q3⟩, ?_⟩
    rw [← h2]
    exact snap_same fun k => by unfold cnt; rw [k3]
  · exact .inr ⟨h1, by omega, by rw [k2]; exact h3⟩
theorem cnt_prune (s : Sto) (t at_ k : Int) (h : t ≤ at_) (c m : Int) : cnt ⟨fun k => (s.ch k).map fun c => prune c t, c, m⟩ k at_ = cnt s k at_ := by
  unfold cnt
  cases hc : s.ch k with
  | none => simp [hc]
  | some c => simp only [hc, Option.map_some, Option.bind_some]; exact cntC_prune t at_ h
theorem stay_prune {S : List En} {s : Sto} {at_ : Int} (h : Stay S s at_) (t : Int) : Stay S (pruneS s t) at_ := by
  rcases pruneS_cases s t with ⟨_, _, e⟩ | ⟨_, _, _, e⟩ | ⟨_, _, _, _, e⟩ | ⟨p1, p2, p3, _, e⟩ <;> rw [e]
  · exact h
  · exact h
  · exact h
  · rcases h with ⟨h1, h2⟩ | ⟨h1, h2, h3⟩
    · obtain ⟨q1, q2, q3⟩ := tells_zero.1 h1
      by_cases ht : t ≤ at_
      · refine .inl ⟨tells_zero.2 ⟨q1, q2, ht⟩, ?_⟩
        rw [← h2]
        exact snap_same fun k => cnt_prune s t at_ k ht _ _
      · exact .inr ⟨q1, q2, by show at_ < t; omega⟩
    · exact .inr ⟨h1, h2, by show at_ < t; omega⟩
theorem stay_end {S : List En} {s : Sto} {t : Int} (h : Stay S s t) : (tellsE s t = 0 ∧ snapS s t = S) ∨ (tellsE s t = 126 ∧ snapS s t = [] ∧ t < s.mark) := by
  rcases h with ⟨h1, h2⟩ | ⟨h1, h2, h3⟩
  · refine .inl ⟨h1, ?_⟩
    unfold snapS
    rw [if_pos h1, h2]
  · rcases tells_cases s t with ⟨q, _⟩ | ⟨_, q, _⟩ | ⟨_, _, _, q⟩ | ⟨_, _, q, _⟩
    · rw [h1] at q; cases q
    · omega
    · refine .inr ⟨q, ?_, h3⟩
      unfold snapS
      rw [if_neg (by rw [q]; decide)]
    · omega
end Go.So
