/- Layer 11: what its laws need of chains (plain). -/
import Derived.Test.YtiocghhhfhobbaaChnO
namespace Go.Cn
set_option linter.unusedVariables false

theorem get_put {c : Cs} (t v s : Int) (h : s < t) : getE (put c t v) s = getE c s ∧ getV (put c t v) s = getV c s := by
  rcases put_cases c t v with ⟨_, _, e⟩ | ⟨_, _, _, e⟩ | ⟨_, _, _, _, _, e⟩ | ⟨_, _, _, _, _, e⟩ <;> rw [e]
  · exact ⟨rfl, rfl⟩
  · exact ⟨rfl, rfl⟩
  · exact ⟨rfl, rfl⟩
  · have hu : upTo (c.l ++ [(t, v)]) s = upTo c.l s := upTo_append c.l (t, v) s h
    have hE : getE ⟨c.l ++ [(t, v)], c.mark⟩ s = getE c s := by unfold getE; simp only [hu]
    refine ⟨hE, ?_⟩
    unfold getV
    rw [hE]
    split
    · rename_i h0
      simp only [hu]
      have hle := upTo_le c.l s
      rcases Nat.eq_zero_or_pos (upTo c.l s) with hz | hz
      · unfold getE at h0
        rw [hz] at h0
        exfalso
        revert h0
        split
        · intro h0; cases h0
        · split
          · intro h0; cases h0
          · intro h0; simp at h0
      · rw [List.getElem?_append_left (by omega)]
    · rfl
theorem get_prune {c : Cs} (t s : Int) (h : t ≤ s) : getE (prune c t) s = getE c s ∧ getV (prune c t) s = getV c s := by
  rcases prune_cases c t with ⟨_, _, e⟩ | ⟨_, _, _, e⟩ | ⟨h1, h2, _, e⟩ <;> rw [e]
  · exact ⟨rfl, rfl⟩
  · exact ⟨rfl, rfl⟩
  · have hm := upTo_mono c.l t s h
    have hu : upTo (c.l.drop (upTo c.l t - 1)) s = upTo c.l s - (upTo c.l t - 1) := upTo_drop c.l s _ (by omega)
    have hz : (upTo (c.l.drop (upTo c.l t - 1)) s = 0) = (upTo c.l s = 0) := by rw [hu]; apply propext; omega
    have hE : getE ⟨c.l.drop (upTo c.l t - 1), t⟩ s = getE c s := by
      unfold getE
      simp only [hz]
      rw [if_neg (show ¬ s < t by omega), if_neg (show ¬ s < c.mark by omega)]
    refine ⟨hE, ?_⟩
    unfold getV
    rw [hE]
    split
    · rename_i h0
      simp only [hu]
      have hpos : upTo c.l s ≠ 0 := by
        intro hz0
        unfold getE at h0
        rw [hz0] at h0
        revert h0
        split
        · intro h0; cases h0
        · split
          · intro h0; cases h0
          · intro h0; simp at h0
      rw [List.getElem?_drop, show upTo c.l t - 1 + (upTo c.l s - (upTo c.l t - 1) - 1) = upTo c.l s - 1 by omega]
    · rfl
/-- What counts where it begins, or at the mark. -/
theorem get_own {c : Cs} (h : Ok c) (i : Nat) (v : Ve) (hv : c.l[i]? = some v) (n : Int) (hn : (v.1 < c.mark ∧ n = c.mark) ∨ (c.mark ≤ v.1 ∧ n = v.1)) : getE c n = 0 ∧ getV c n = v := by
  have hr := h.range v (List.mem_of_getElem? hv)
  have hm := h.mark
  have hl := (List.getElem?_eq_some_iff.1 hv).1
  have hi := (lt_upTo h.rise n i v hv).1 (by omega)
  have hle := upTo_le c.l n
  have hu : upTo c.l n = i + 1 := by
    rcases Nat.lt_or_ge (i + 1) (upTo c.l n) with h1 | h1
    · have hb : c.l[i + 1]? = some (c.l[i + 1]'(by omega)) := List.getElem?_eq_getElem _
      have h2 := (lt_upTo h.rise n _ _ hb).2 h1
      have h3 := h.one i _ hb
      have h4 := h.rise i (i + 1) _ _ (by omega) hv hb
      omega
    · omega
  have hE : getE c n = 0 := by
    unfold getE
    rw [if_neg (by simpa using (isT_iff n).2 (by omega)), if_neg (by omega), if_neg (by omega)]
  refine ⟨hE, ?_⟩
  unfold getV
  rw [if_pos hE, hu, Nat.add_sub_cancel, hv]
  rfl
theorem prune_len (c : Cs) (t : Int) : (prune c t).l.length ≤ c.l.length := by
  rcases prune_cases c t with ⟨_, _, e⟩ | ⟨_, _, _, e⟩ | ⟨_, _, _, e⟩ <;> rw [e]
  · exact Nat.le_refl _
  · exact Nat.le_refl _
  · show (c.l.drop _).length ≤ _
    rw [List.length_drop]; omega
theorem prune_mark (c : Cs) (t : Int) (h : isT t = true) : t ≤ (prune c t).mark := by
  rcases prune_cases c t with ⟨e, _⟩ | ⟨_, h2, _, e⟩ | ⟨_, _, _, e⟩
  · rw [h] at e; cases e
  · rw [e]; exact h2
  · rw [e]; exact Int.le_refl _
/-- What is told where nothing is. -/
theorem get_none {c : Cs} (h : Ok c) (s : Int) (h0 : getE c s = 114) (v : Ve) (hv : c.l[0]? = some v) : s < v.1 := by
  rcases get_cases c s with ⟨_, e, _⟩ | ⟨_, _, e, _⟩ | ⟨_, _, e, _⟩ | ⟨_, _, n, _, _, _, e⟩
  · rw [e] at h0; cases h0
  · rw [e] at h0; cases h0
  · have := lt_upTo h.rise s 0 v hv
    omega
  · rw [e] at h0; cases h0

/-! ### The full chain -/
def full (j : Nat) : List Ve := (List.range j).map fun (i : Nat) => ((2 * ((i : Int) + 1), -((i : Int) + 1)) : Ve)
theorem full_len (j : Nat) : (full j).length = j := by unfold full; simp
theorem full_at (j i : Nat) (h : i < j) : (full j)[i]? = some (2 * ((i : Int) + 1), -((i : Int) + 1)) := by unfold full; rw [List.getElem?_map, List.getElem?_range h]; rfl
theorem full_succ (j : Nat) : full (j + 1) = full j ++ [(2 * ((j : Int) + 1), -((j : Int) + 1))] := by unfold full; rw [List.range_succ, List.map_append]; rfl
theorem full_rise (j : Nat) : Rise (full j) := fun a b x y hab hx hy => by
  have ha := (List.getElem?_eq_some_iff.1 hx).1
  have hb := (List.getElem?_eq_some_iff.1 hy).1
  rw [full_len] at ha hb
  rw [full_at j a ha] at hx
  rw [full_at j b hb] at hy
  injection hx with hx
  injection hy with hy
  subst hx hy
  show 2 * ((a : Int) + 1) < 2 * ((b : Int) + 1)
  omega
theorem full_last (j : Nat) : (lastV (full j)).1 = 2 * (j : Int) := by
  cases j with
  | zero => rfl
  | succ j =>
    unfold lastV
    rw [full_len, Nat.add_sub_cancel, full_at (j + 1) j (by omega)]
    show 2 * ((j : Int) + 1) = _
    omega
theorem full_up (j : Nat) (t : Int) (h : 0 ≤ t) : upTo (full j) t = min (t / 2).toNat j := by
  have hle := upTo_le (full j) t
  rw [full_len] at hle
  rcases Nat.lt_trichotomy (upTo (full j) t) (min (t / 2).toNat j) with h1 | h1 | h1
  · have := full_at j (upTo (full j) t) (by omega)
    have := (lt_upTo (full_rise j) t _ _ this).1 (by show 2 * (((upTo (full j) t : Nat) : Int) + 1) ≤ t; omega)
    omega
  · exact h1
  · have h2 := full_at j (min (t / 2).toNat j) (by omega)
    have := (lt_upTo (full_rise j) t _ _ h2).2 h1
    have h3 : 2 * (((min (t / 2).toNat j : Nat) : Int) + 1) ≤ t := this
    omega
theorem full_put (j : Nat) (h : j < 10000) : putE ⟨full j, 0⟩ (2 * ((j : Int) + 1)) = 0 ∧ put ⟨full j, 0⟩ (2 * ((j : Int) + 1)) (-((j : Int) + 1)) = ⟨full (j + 1), 0⟩ := by
  have hl := full_last j
  have hn := full_len j
  rcases put_cases ⟨full j, 0⟩ (2 * ((j : Int) + 1)) (-((j : Int) + 1)) with ⟨a, _⟩ | ⟨_, a, _⟩ | ⟨_, _, _, a, _⟩ | ⟨_, _, _, _, e, e2⟩
  · omega
  · simp only [hl] at a; omega
  · simp only [hn] at a; omega
  · exact ⟨e, by rw [e2, full_succ]⟩
theorem full_more (N : Nat) (hN : N = 10000) (u : Int) : putE ⟨full N, 0⟩ 20001 = 112 ∧ put ⟨full N, 0⟩ 20001 u = ⟨full N, 0⟩ := by
  have hl := full_last N
  have hn := full_len N
  rcases put_cases ⟨full N, 0⟩ 20001 u with ⟨a, _⟩ | ⟨_, a, _⟩ | ⟨_, _, _, a, e, e2⟩ | ⟨_, _, _, a, _⟩
  · omega
  · simp only [hl] at a; omega
  · exact ⟨e, e2⟩
  · exact absurd (hn.trans hN) a
theorem full_prune (N : Nat) (hN : N = 10000) (k : Int) (h : 0 ≤ k ∧ k ≤ 16383) : pruneE k = 0 ∧ (prune ⟨full N, 0⟩ k).l.length = 10000 - ((k / 2).toNat - 1) := by
  have hT := (isT_iff k).2 (by omega)
  have hu := full_up N k h.1
  rcases prune_cases ⟨full N, 0⟩ k with ⟨a, _⟩ | ⟨_, a, e, e2⟩ | ⟨_, _, e, e2⟩
  · rw [hT] at a; cases a
  · refine ⟨e, ?_⟩
    rw [e2]
    show (full N).length = _
    rw [full_len]
    have : k ≤ 0 := a
    omega
  · refine ⟨e, ?_⟩
    rw [e2]
    show ((full N).drop (upTo (full N) k - 1)).length = _
    rw [List.length_drop, full_len, hu]
    omega
theorem full_get (N : Nat) (hN : N = 10000) (k s : Int) (h : 0 ≤ k ∧ k ≤ 16383) (hs : k ≤ s ∧ s ≤ 16638) (a : Int) (ha : (s / 2 < 10000 ∧ a = s / 2) ∨ (10000 ≤ s / 2 ∧ a = 10000)) :
    (a = 0 ∧ getE (prune ⟨full N, 0⟩ k) s = 114) ∨ (0 < a ∧ getE (prune ⟨full N, 0⟩ k) s = 0 ∧ getV (prune ⟨full N, 0⟩ k) s = (2 * a, -a)) := by
  obtain ⟨e1, e2⟩ := get_prune (c := ⟨full N, 0⟩) k s hs.1
  rw [e1, e2]
  have hu := full_up N s (by omega)
  rcases get_cases ⟨full N, 0⟩ s with ⟨b, _⟩ | ⟨_, b, _⟩ | ⟨_, _, b, e, _⟩ | ⟨_, _, n, b, b2, b3, e⟩
  · have := (isT_no s).1 b; omega
  · simp only at b; omega
  · simp only at b; exact .inl ⟨by omega, e⟩
  · simp only at b b2 b3
    rw [full_at N n (by rw [full_len] at b2; exact b2)] at b3
    injection b3 with b3
    have hn : (n : Int) + 1 = a := by omega
    exact .inr ⟨by omega, e, by rw [← b3, hn]⟩
end Go.Cn
namespace Go.Proofs.Ytiocghhhfhobbaa
/-- The last bits of a number. -/
theorem and_low (m : Int) : 0 ≤ bits .and .i64 m 16383 ∧ bits .and .i64 m 16383 ≤ 16383 := by
  have h1 : (BitVec.ofInt 64 (16383 : Int)).toNat = 16383 := by decide
  have h2 : (BitVec.ofInt 64 m &&& BitVec.ofInt 64 (16383 : Int)).toNat ≤ 16383 := by
    rw [BitVec.toNat_and, h1]
    exact Nat.and_le_right
  have e : bits .and .i64 m 16383 = IntKind.i64.wrap ((BitVec.ofInt 64 m &&& BitVec.ofInt 64 (16383 : Int)).toNat : Int) := rfl
  rw [e, IntKind.wrap_i64]
  omega
end Go.Proofs.Ytiocghhhfhobbaa
