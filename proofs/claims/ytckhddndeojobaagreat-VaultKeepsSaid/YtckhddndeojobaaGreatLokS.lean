/- Rows that are owned, sorted and compacted by the library: of holds, by their transactions; of numbers. -/
import Derived.Test.YtckhddndeojobaaGreatShf
import Derived.Test.YtckhddndeojobaaGreatOpen
import Derived.Test.YtckhddndeojobaaGreatOff
import Derived.Test.YtckhddndeojobaaGreatLokM
namespace Go.Proofs.YtckhddndeojobaaGreat
open Go.Shelf Go.Sort Go.RowKit Go.Lk
set_option linter.unusedVariables false
set_option linter.unusedSimpArgs false
set_option maxRecDepth 100000

section
variable {α : Type} [Inhabited α] {enc : α → Value}
theorem heap_put {w : World} {g n : Nat} {os : Array Obj} {cur : Array Value} {e : TypeId} {fr : Nat × Nat} (d : Array α) (hb : w.heap[g]? = some (.cells cur e fr)) :
    (grow (putRow enc (Sort.ahead w n) g 0 d) os).heap[g]? = some (.cells (putCells enc 0 d cur) e fr) := by
  have hg : g < w.heap.size := (Array.getElem?_eq_some_iff.1 hb).1
  rw [heap_grow_old _ _ (by simpa using hg)]
  simp [putRow, mapBlock, Sort.ahead, Array.getElem?_modify, hb, onCells]
theorem grown_put {w : World} {g n : Nat} {os : Array Obj} (d : Array α) : w.grownBy (grow (putRow enc (Sort.ahead w n) g 0 d) os) (some g) := by
  refine ⟨rfl, rfl, rfl, by simp, fun k hk hne => ?_⟩
  rw [heap_grow_old _ _ (by simpa using hk)]
  have : g ≠ k := fun e => hne (by rw [e])
  simp [putRow, mapBlock, Sort.ahead, Array.getElem?_modify, this]
theorem take_put (cur : Array Value) (ts : List α) (h : ts.length ≤ cur.size) : (putCells enc 0 ts.toArray cur).toList.take ts.length = ts.map enc := by
  apply List.ext_getElem?
  intro j
  by_cases hj : j < ts.length
  · rw [List.getElem?_take_of_lt hj, Array.getElem?_toList]
    simp [putCells, hj, show j < cur.size by omega]
  · rw [List.getElem?_take_eq_none (by omega), List.getElem?_eq_none (by simp; omega)]
/-- Behind a row's being written over whole. -/
theorem own_put {w : World} {B g cap n size m : Nat} {e : TypeId} {os : Array Obj} {xs : List Value} (h : w.ownsRow B e size (.slice (some ⟨g, 0, none⟩) n cap) n xs) (ts : List α) (ht : ts.length = xs.length) :
    (grow (putRow enc (Sort.ahead w m) g 0 ts.toArray) os).ownsRow B e size (.slice (some ⟨g, 0, none⟩) n cap) n (ts.map enc) := by
  obtain ⟨hl, hr⟩ := h
  rcases hr with ⟨h0, _⟩ | ⟨g', cap', cur, hv, hb, hg, h1, h2, h3, h4⟩
  · simp at h0
  · simp only [Value.slice.injEq, Option.some.injEq, Addr.mk.injEq, and_true, true_and] at hv
    obtain ⟨rfl, rfl⟩ := hv
    have hsz : ts.length ≤ cur.size := by rw [ht, hl, h3]; exact Nat.mul_le_mul_right _ h1
    refine ⟨by rw [List.length_map, ht, hl], .inr ⟨g, cap, _, rfl, hb, heap_put _ hg, h1, h2, by simp [putCells, h3], ?_⟩⟩
    rw [← hl, ← ht]
    exact take_put cur ts hsz
theorem own_first {w : World} {B g cap n m size : Nat} {e : TypeId} {xs : List Value} (h : w.ownsRow B e size (.slice (some ⟨g, 0, none⟩) n cap) n xs) (hm : m ≤ n) :
    w.ownsRow B e size (.slice (some ⟨g, 0, none⟩) m cap) m (xs.take (m * size)) := by
  obtain ⟨hl, hr⟩ := h
  have hmn : m * size ≤ n * size := Nat.mul_le_mul_right _ hm
  rcases hr with ⟨h0, _⟩ | ⟨g', cap', cur, hv, hb, hg, h1, h2, h3, h4⟩
  · simp at h0
  · simp only [Value.slice.injEq, Option.some.injEq, Addr.mk.injEq, and_true, true_and] at hv
    obtain ⟨rfl, rfl⟩ := hv
    refine ⟨by rw [List.length_take, hl]; omega, .inr ⟨g, cap, cur, rfl, hb, hg, by omega, h2, h3, ?_⟩⟩
    rw [← h4, List.take_take, Nat.min_eq_left hmn]
theorem own_holds {w : World} {B g cap n : Nat} {e : TypeId} {ts : List α} (h : w.ownsRow B e 1 (.slice (some ⟨g, 0, none⟩) n cap) n (ts.map enc)) (hn : ts.length = n) : Holds enc w g 0 ts.toArray ∧ g < w.heap.size ∧ n ≤ cap := by
  obtain ⟨hl, hr⟩ := h
  rcases hr with ⟨h0, _⟩ | ⟨g', cap', cur, hv, hb, hg, h1, h2, h3, h4⟩
  · simp at h0
  · simp only [Value.slice.injEq, Option.some.injEq, Addr.mk.injEq, and_true, true_and] at hv
    obtain ⟨rfl, rfl⟩ := hv
    refine ⟨fun j hj => ?_, (Array.getElem?_eq_some_iff.1 hg).1, h1⟩
    have hj' : j < ts.length := by simpa using hj
    refine ⟨?_, by simp [World.frozen?, hg]⟩
    have e1 : (cur.toList.take (n * 1))[j]? = (ts.map enc)[j]? := by rw [h4]
    rw [List.getElem?_take_of_lt (by omega)] at e1
    simp only [World.cell?, hg, Nat.zero_add]
    simp only [Option.isSome_none, Bool.false_eq_true, if_false]
    rw [← Array.getElem?_toList, e1]
    simp [hj']
theorem flatK_flat {k : Nat} {en : α → List Value} (hk : ∀ x, (en x).length = k) (l : List α) : flatK en k l.toArray = (flat en l).toArray := by
  apply Array.ext'
  apply List.ext_getElem?
  intro t
  have hlen := flat_length hk l
  by_cases ht : t < l.length * k
  · have hk0 : 0 < k := by
      rcases Nat.eq_zero_or_pos k with h | h
      · subst h; simp at ht
      · exact h
    have hq : t / k < l.length := (Nat.div_lt_iff_lt_mul hk0).2 ht
    have hr : t % k < k := Nat.mod_lt _ hk0
    have e1 := flat_at hk l (t / k) l[t / k] (List.getElem?_eq_getElem hq) (t % k) hr
    rw [Nat.div_add_mod' t k] at e1
    have e2 := get_flatK en k l.toArray t (by simpa using ht)
    have hs : t < (flatK en k l.toArray).size := by simpa using ht
    rw [getElem!_pos _ t hs] at e2
    rw [Array.getElem?_toList, Array.getElem?_eq_getElem hs, e2, e1]
    have hx : (l.toArray)[t / k]! = l[t / k] := by simp [hq]
    rw [hx, List.getElem?_eq_getElem (by rw [hk]; exact hr)]
    congr 1
    exact getElem!_pos _ _ (by rw [hk]; exact hr)
  · rw [List.getElem?_eq_none (by simp; omega), List.getElem?_eq_none (by show (flat en l).length ≤ t; omega)]
end

/-! ### slices.SortFunc at holds -/
def encH (wr : Int → Bool) (x : Int) : List Value := [.int .i64 x, .bool (wr x)]
theorem encH_len (wr : Int → Bool) (x : Int) : (encH wr x).length = 2 := rfl
theorem encH_one (wr : Int → Bool) (x : Int) : ∀ v ∈ encH wr x, v.oneCell' = true := by
  intro v hv
  simp only [encH, List.mem_cons, List.not_mem_nil, or_false] at hv
  rcases hv with rfl | rfl <;> rfl
def cmpI (x y : Int) : Int := if x < y then -1 else if x > y then 1 else 0
theorem ltOf_cmp (x y : Int) : ltOf cmpI x y = decide (x < y) := by
  unfold ltOf cmpI
  by_cases h1 : x < y
  · simp [h1]
  · by_cases h2 : y < x <;> simp [h1, h2]
theorem swo_cmp : SWO (ltOf cmpI) where
  irrefl x := by rw [ltOf_cmp]; simp
  trans x y z h1 h2 := by rw [ltOf_cmp] at *; simp at *; omega
  ntrans x y z h1 h2 := by rw [ltOf_cmp] at *; simp at *; omega
theorem total_cmp (x y : Int) (h1 : ltOf cmpI x y = false) (h2 : ltOf cmpI y x = false) : x = y := by
  rw [ltOf_cmp] at h1 h2
  simp at h1 h2
  omega
theorem nan_any (x : Int) (w : World) : Calls Tryz.prog 52 #[.int .i64 x] w fun e w' => e = .returned (.bool false) ∧ w' = w := by
  go_enter Tryz.func52, Tryz.ntmps52
  go_wp2_with fail
  go_ret
  exact ⟨by simp, rfl⟩
theorem compare_any (x y : Int) (w : World) : Calls Tryz.prog 32 #[.int .i64 x, .int .i64 y] w fun e w' => e = .returned (.int .i64 (cmpI x y)) ∧ w' = w := by
  have HN := Lib.hid (fun z w0 => nan_any z w0)
  have HC : Hid (cmpI x y = if x < y then -1 else if x > y then 1 else 0) := Lib.hid rfl
  rw [HC.out]
  clear HC
  by_cases h1 : x < y
  · rw [if_pos h1]
    go_enter Tryz.func32, Tryz.ntmps32
    go_wp2_with fail
    refine (HN.out _ _).mono ?_
    rintro e w1 ⟨rfl, e1⟩
    subst w1
    go_wp2_with fail
    refine (HN.out _ _).mono ?_
    rintro e w1 ⟨rfl, e1⟩
    subst w1
    go_wp2_with fail
    go_ret
    exact ⟨rfl, rfl⟩
  · rw [if_neg h1]
    by_cases h2 : x > y
    · rw [if_pos h2]
      go_enter Tryz.func32, Tryz.ntmps32
      go_wp2_with fail
      refine (HN.out _ _).mono ?_
      rintro e w1 ⟨rfl, e1⟩
      subst w1
      go_wp2_with fail
      refine (HN.out _ _).mono ?_
      rintro e w1 ⟨rfl, e1⟩
      subst w1
      go_wp2_with fail
      go_ret
      exact ⟨rfl, rfl⟩
    · rw [if_neg h2]
      go_enter Tryz.func32, Tryz.ntmps32
      go_wp2_with fail
      refine (HN.out _ _).mono ?_
      rintro e w1 ⟨rfl, e1⟩
      subst w1
      go_wp2_with fail
      refine (HN.out _ _).mono ?_
      rintro e w1 ⟨rfl, e1⟩
      subst w1
      go_wp2_with fail
      go_ret
      exact ⟨rfl, rfl⟩
/-! ### slices.Sort and slices.Compact at numbers -/
theorem sortI_own (B g n cap : Nat) (l : List Int) (w : World) (hn : l.length = n) (h : w.ownsRow B 3 1 (.slice (some ⟨g, 0, none⟩) n cap) n (l.map (Value.int .i64))) (hl : n ≤ 1000000000) :
    Calls Tryz.prog 58 #[.slice (some ⟨g, 0, none⟩) n cap] w fun e w' => e = .returned (.tuple #[]) ∧ w'.ownsRow B 3 1 (.slice (some ⟨g, 0, none⟩) n cap) n ((l.mergeSort fun x y => decide (x ≤ y)).map (Value.int .i64)) ∧ w.grownBy w' (some g) := by
  obtain ⟨h1, h2, h3⟩ := own_holds h hn
  subst hn
  refine Calls.mono (Any.slices_Sort_int shfS g 0 cap l w h1 h2 (by omega)) ?_
  rintro e w' ⟨rfl, m, os, rfl⟩
  exact ⟨rfl, own_put h _ (by rw [List.length_mergeSort, List.length_map]), grown_put _⟩
theorem sorted_le (l : List Int) : (l.mergeSort fun x y => decide (x ≤ y)).Pairwise fun a b => a ≤ b := by
  have tr : ∀ a b c : Int, decide (a ≤ b) = true → decide (b ≤ c) = true → decide (a ≤ c) = true := fun a b c h1 h2 => by simp only [decide_eq_true_eq] at *; omega
  have to : ∀ a b : Int, (decide (a ≤ b) || decide (b ≤ a)) = true := fun a b => by simp only [Bool.or_eq_true, decide_eq_true_eq]; omega
  exact (List.pairwise_mergeSort tr to l).imp fun h => by simpa using h
/-- Of numbers, each once, the sorted list is that which rises. -/
theorem sort_supp {β : Type} {f : Int → Option β} {l : List Int} (hl : l.Nodup) (h : ∀ x, x ∈ l ↔ (f x).isSome = true) : (l.mergeSort fun x y => decide (x ≤ y)) = supp f := by
  have hs := sorted_le l
  have hp := List.mergeSort_perm l fun x y => decide (x ≤ y)
  refine (supp_eq ?_ fun x => by rw [hp.mem_iff, h]).symm
  have hn : (l.mergeSort fun x y => decide (x ≤ y)).Nodup := hp.nodup_iff.2 hl
  exact (hs.and hn).imp fun ⟨h1, h2⟩ => by omega
end Go.Proofs.YtckhddndeojobaaGreat
