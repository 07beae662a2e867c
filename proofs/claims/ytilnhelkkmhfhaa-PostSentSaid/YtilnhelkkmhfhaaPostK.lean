/- Plain: how often a letter's number is under way. -/
import Derived.Test.YtilnhelkkmhfhaaPostL
namespace Go.Po
variable {α : Type}
def cnt (u : List (Lt α)) (i : Nat) : Nat := u.countP fun l => decide (l.id = (i : Int))
theorem cnt_snoc (u : List (Lt α)) (l : Lt α) (i : Nat) : cnt (u ++ [l]) i = cnt u i + if l.id = (i : Int) then 1 else 0 := by
  unfold cnt
  rw [List.countP_append]
  by_cases h : l.id = i <;> simp [h]
theorem cnt_drop {u : List (Lt α)} {k : Nat} {l : Lt α} (h : u[k]? = some l) (i : Nat) : cnt (u.take k ++ u.drop (k + 1)) i + (if l.id = (i : Int) then 1 else 0) = cnt u i := by
  obtain ⟨h1, h2⟩ := List.getElem?_eq_some_iff.1 h
  have e : u = u.take k ++ l :: u.drop (k + 1) := by rw [← h2, ← List.drop_eq_getElem_cons h1, List.take_append_drop]
  have hc : cnt u i = cnt (u.take k ++ l :: u.drop (k + 1)) i := congrArg (fun v => cnt v i) e
  rw [hc]
  unfold cnt
  rw [List.countP_append, List.countP_append, List.countP_cons]
  by_cases h : l.id = i <;> simp [h] <;> omega
theorem cnt_pos {u : List (Lt α)} {l : Lt α} (h : l ∈ u) {i : Nat} (hi : l.id = (i : Int)) : 0 < cnt u i := by
  unfold cnt
  rw [List.countP_pos_iff]
  exact ⟨l, h, by simpa using hi⟩
/-- Those whose number is at most c. -/
def upto (u : List (Lt α)) (c : Nat) : Nat := u.countP fun l => decide (l.id ≤ (c : Int))
theorem upto_next (u : List (Lt α)) (c : Nat) : upto u (c + 1) = upto u c + cnt u (c + 1) := by
  unfold upto cnt
  induction u with
  | nil => rfl
  | cons a u ih =>
    rw [List.countP_cons, List.countP_cons, List.countP_cons, ih]
    have : (if decide (a.id ≤ ((c + 1 : Nat) : Int)) = true then 1 else 0) = (if decide (a.id ≤ (c : Int)) = true then 1 else 0) + (if decide (a.id = ((c + 1 : Nat) : Int)) = true then 1 else 0) := by
      simp only [decide_eq_true_eq]
      by_cases h1 : a.id ≤ (c : Int)
      · rw [if_pos h1, if_pos (by omega), if_neg (by omega)]
      · rw [if_neg h1]
        by_cases h2 : a.id = ((c + 1 : Nat) : Int)
        · rw [if_pos h2, if_pos (by omega)]
        · rw [if_neg h2, if_neg (by omega)]
    omega
theorem upto_none {u : List (Lt α)} (h : ∀ l ∈ u, 1 ≤ l.id) : upto u 0 = 0 := by
  unfold upto
  rw [List.countP_eq_zero]
  intro l hl
  have := h l hl
  simp; omega
theorem upto_all {u : List (Lt α)} {s : Nat} (h : ∀ l ∈ u, l.id ≤ (s : Int)) : upto u s = u.length := by
  unfold upto
  rw [List.countP_eq_length]
  intro l hl
  simpa using h l hl
theorem cnt_le (u : List (Lt α)) (i : Nat) : cnt u i ≤ u.length := List.countP_le_length
theorem cnt_above {u : List (Lt α)} {s : Nat} (h : ∀ l ∈ u, l.id ≤ (s : Int)) {i : Nat} (hi : s < i) : cnt u i = 0 := by
  unfold cnt
  rw [List.countP_eq_zero]
  intro l hl
  have := h l hl
  simp; omega
/-- What becomes of each call. -/
theorem send_cases (n : Nt α) (a b : Int) (m : α) : (∃ e, e ≠ 0 ∧ n.send a b m = (n, 0, e)) ∨ n.send a b m = ({ n with under := n.under ++ [⟨n.sent + 1, a, b, m⟩], sent := n.sent + 1 }, (n.sent : Int) + 1, 0) := by
  unfold Nt.send
  split
  · exact .inl ⟨90, by decide, rfl⟩
  · split
    · exact .inl ⟨91, by decide, rfl⟩
    · exact .inr rfl
theorem take_cases (n : Nt α) (i : Int) : (∃ e, e ≠ 0 ∧ n.take i = (n, none, e)) ∨ ∃ (k : Nat) (l : Lt α), i = k ∧ n.under[k]? = some l ∧ n.take i = (n.drop k, some l, 0) := by
  unfold Nt.take
  split
  · rename_i l hl
    split
    · exact .inl ⟨92, by decide, rfl⟩
    · split
      · exact .inl ⟨93, by decide, rfl⟩
      · exact .inr ⟨i.toNat, l, by omega, hl, rfl⟩
  · exact .inl ⟨92, by decide, rfl⟩
theorem copy_cases (n : Nt α) (i : Int) : (∃ e, e ≠ 0 ∧ n.copy i = (n, e)) ∨ ∃ (k : Nat) (l : Lt α), i = k ∧ n.under[k]? = some l ∧ n.copy i = ({ n with under := n.under ++ [l] }, 0) := by
  unfold Nt.copy
  split
  · rename_i l hl
    split
    · exact .inl ⟨92, by decide, rfl⟩
    · unfold Nt.put
      split
      · exact .inl ⟨91, by decide, rfl⟩
      · exact .inr ⟨i.toNat, l, by omega, hl, rfl⟩
  · exact .inl ⟨92, by decide, rfl⟩
theorem lose_cases (n : Nt α) (i : Int) : (∃ e, e ≠ 0 ∧ n.lose i = (n, e)) ∨ ∃ (k : Nat) (l : Lt α), i = k ∧ n.under[k]? = some l ∧ n.lose i = (n.drop k, 0) := by
  unfold Nt.lose
  split
  · rename_i h
    obtain ⟨h1, h2⟩ := h
    exact .inr ⟨i.toNat, n.under[i.toNat]'(by omega), by omega, by simp, rfl⟩
  · exact .inl ⟨92, by decide, rfl⟩
end Go.Po
namespace Go.Proofs.Ytilnhelkkmhfhaa
open Go.ChangeShapes Go.WideShapes Go.ChangeAt Go.RowKit Go.Po
set_option linter.unusedVariables false
set_option linter.unusedSimpArgs false
set_option maxRecDepth 100000
/-- The counts, as they lie in cells. -/
def cnts (u : List (Lt (List UInt8))) : Array Value := ((List.range 61).map fun i => .int .i64 (cnt u i)).toArray
theorem cnts_size (u : List (Lt (List UInt8))) : (cnts u).size = 61 := by simp [cnts]
theorem cnts_at (u : List (Lt (List UInt8))) {i : Nat} (h : i < 61) : (cnts u)[i]? = some (.int .i64 (cnt u i)) := by simp [cnts, h]
theorem cnts_set {u v : List (Lt (List UInt8))} {i : Nat} (h : ∀ j, j ≠ i → cnt v j = cnt u j) : (cnts u).setIfInBounds i (.int .i64 (cnt v i)) = cnts v := by
  apply Array.ext_getElem?
  intro j
  by_cases hj : j < 61
  · by_cases e : i = j
    · subst e
      rw [Array.getElem?_setIfInBounds_self_of_lt (by rw [cnts_size]; exact hj), cnts_at v hj]
    · rw [Array.getElem?_setIfInBounds_ne e, cnts_at u hj, cnts_at v hj, h j (fun x => e x.symm)]
  · rw [Array.getElem?_eq_none (by simp [cnts_size]; omega), Array.getElem?_eq_none (by simp [cnts_size]; omega)]
/-- Each letter under way is as it was sent: the array of what was sent. -/
def Sents (cs : Array Value) (u : List (Lt (List UInt8))) : Prop := cs.size = 305 ∧ ∀ l ∈ u, cs[l.id.toNat * 5 + 1]? = some (.int .i64 l.frm) ∧ cs[l.id.toNat * 5 + 2]? = some (.int .i64 l.to) ∧ cs[l.id.toNat * 5 + 3]? = some (.string (txt l.m))
theorem Sents.less {cs : Array Value} {u v : List (Lt (List UInt8))} (h : Sents cs u) (hv : ∀ l ∈ v, l ∈ u) : Sents cs v := ⟨h.1, fun l hl => h.2 l (hv l hl)⟩
theorem Sents.snoc {cs : Array Value} {u : List (Lt (List UInt8))} (h : Sents cs u) {s : Nat} (hu : ∀ l ∈ u, 1 ≤ l.id ∧ l.id ≤ (s : Int)) (hs : s + 1 < 61) (kd fr to : Int) (m : List UInt8) (off : Bool) :
    Sents (((((cs.setIfInBounds ((s + 1) * 5) (.int .i64 kd)).setIfInBounds ((s + 1) * 5 + 1) (.int .i64 fr)).setIfInBounds ((s + 1) * 5 + 2) (.int .i64 to)).setIfInBounds ((s + 1) * 5 + 3) (.string (txt m))).setIfInBounds ((s + 1) * 5 + 4) (.bool off)) (u ++ [⟨s + 1, fr, to, m⟩]) := by
  obtain ⟨h0, h1⟩ := h
  refine ⟨by simp [h0], fun l hl => ?_⟩
  rcases List.mem_append.1 hl with hl | hl
  · have hb := hu l hl
    obtain ⟨a1, a2, a3⟩ := h1 l hl
    have hne : ∀ i j, i < 5 → j < 5 → (s + 1) * 5 + i ≠ l.id.toNat * 5 + j := fun i j hi hj => by omega
    have hn0 : ∀ j, j < 5 → (s + 1) * 5 ≠ l.id.toNat * 5 + j := fun j hj => by omega
    refine ⟨?_, ?_, ?_⟩
    · rw [Array.getElem?_setIfInBounds_ne (hne 4 1 (by omega) (by omega)), Array.getElem?_setIfInBounds_ne (hne 3 1 (by omega) (by omega)), Array.getElem?_setIfInBounds_ne (hne 2 1 (by omega) (by omega)), Array.getElem?_setIfInBounds_ne (hne 1 1 (by omega) (by omega)), Array.getElem?_setIfInBounds_ne (hn0 1 (by omega))]; exact a1
    · rw [Array.getElem?_setIfInBounds_ne (hne 4 2 (by omega) (by omega)), Array.getElem?_setIfInBounds_ne (hne 3 2 (by omega) (by omega)), Array.getElem?_setIfInBounds_ne (hne 2 2 (by omega) (by omega)), Array.getElem?_setIfInBounds_ne (hne 1 2 (by omega) (by omega)), Array.getElem?_setIfInBounds_ne (hn0 2 (by omega))]; exact a2
    · rw [Array.getElem?_setIfInBounds_ne (hne 4 3 (by omega) (by omega)), Array.getElem?_setIfInBounds_ne (hne 3 3 (by omega) (by omega)), Array.getElem?_setIfInBounds_ne (hne 2 3 (by omega) (by omega)), Array.getElem?_setIfInBounds_ne (hne 1 3 (by omega) (by omega)), Array.getElem?_setIfInBounds_ne (hn0 3 (by omega))]; exact a3
  · rw [List.mem_singleton.1 hl]
    have e : ((s : Int) + 1).toNat = s + 1 := by omega
    simp only [e]
    refine ⟨?_, ?_, ?_⟩
    · rw [Array.getElem?_setIfInBounds_ne (by omega), Array.getElem?_setIfInBounds_ne (by omega), Array.getElem?_setIfInBounds_ne (by omega), Array.getElem?_setIfInBounds_self_of_lt (by simp [h0]; omega)]
    · rw [Array.getElem?_setIfInBounds_ne (by omega), Array.getElem?_setIfInBounds_ne (by omega), Array.getElem?_setIfInBounds_self_of_lt (by simp [h0]; omega)]
    · rw [Array.getElem?_setIfInBounds_ne (by omega), Array.getElem?_setIfInBounds_self_of_lt (by simp [h0]; omega)]
theorem zero_sents : ∃ Z : Array Value, (∀ w : World, (zeroValue 42).run Try.prog w = .ok (.agg Z) w) ∧ Sents Z [] :=
  ⟨match (Try.prog.info? 42).bind (·.zero) with | some (.agg c) => c | _ => #[], fun w => by kernel_rfl, by kernel_rfl, fun l hl => by cases hl⟩
theorem zero_cnts (w : World) : (zeroValue 43).run Try.prog w = .ok (.agg (cnts [])) w := by kernel_rfl
section
variable {W w : World} {sb eb g : Nat} {n : Nt (List UInt8)} {cs ce : Array Value} {L : List Row}
theorem sents_store (h : sLp W w [(eb, 43, ce), (sb, 42, cs)] g n) (hW : W.heap.size ≤ sb) (hne : eb ≠ sb) (i : Nat) (a0 a1 a2 a3 a4 : Value) :
    sLp W (((((w.setCell ⟨sb, i, none⟩ a0).setCell ⟨sb, i + 1, none⟩ a1).setCell ⟨sb, i + 2, none⟩ a2).setCell ⟨sb, i + 3, none⟩ a3).setCell ⟨sb, i + 4, none⟩ a4)
      [(eb, 43, ce), (sb, 42, ((((cs.setIfInBounds i a0).setIfInBounds (i + 1) a1).setIfInBounds (i + 2) a2).setIfInBounds (i + 3) a3).setIfInBounds (i + 4) a4)] g n := by
  have h1 : sLp W w [(sb, 42, cs), (eb, 43, ce)] g n := h.few (fun r hr => by simp at hr ⊢; rcases hr with h | h <;> simp [h])
  have hd : ∀ r ∈ [((eb, 43, ce) : Row)], r.1 ≠ sb := fun r hr => by rw [List.mem_singleton.1 hr]; exact hne
  have h2 := (((((h1.set0 hW hd i a0).set0 hW hd (i + 1) a1).set0 hW hd (i + 2) a2).set0 hW hd (i + 3) a3).set0 hW hd (i + 4) a4)
  exact h2.few (fun r hr => by simp at hr ⊢; rcases hr with h | h <;> simp [h])
theorem ends_store (h : sLp W w [(eb, 43, ce), (sb, 42, cs)] g n) (hW : W.heap.size ≤ eb) (hne : eb ≠ sb) (i : Nat) (u : Value) :
    sLp W (w.setCell ⟨eb, i, none⟩ u) [(eb, 43, ce.setIfInBounds i u), (sb, 42, cs)] g n :=
  h.set0 hW (fun r hr => by rw [List.mem_singleton.1 hr]; exact Ne.symm hne) i u
end
end Go.Proofs.Ytilnhelkkmhfhaa
