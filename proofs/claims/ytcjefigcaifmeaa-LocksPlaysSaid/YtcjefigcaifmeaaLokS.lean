/- Rows that are owned, sorted and compacted by the library: of holds, by their transactions; of numbers. -/
import Derived.Test.YtcjefigcaifmeaaShf
import Derived.Test.YtcjefigcaifmeaaOpen
import Derived.Test.YtcjefigcaifmeaaOff
import Derived.Test.YtcjefigcaifmeaaLokM
namespace Go.Proofs.Ytcjefigcaifmeaa
open Go.Shelf Go.Sort Go.RowKit Go.Lk
set_option linter.unusedVariables false
set_option linter.unusedSimpArgs false
set_option maxRecDepth 100000

section
variable {α : Type} [Inhabited α] {enc : α → Value}
theorem heap_put {w : World} {g n : Nat} {os : Array Obj} {cur : Array Value} {e : TypeId} {fr : Nat × Nat} (d : Array α) (hb : w.heap[g]? = some (.cells cur e fr)) :
    (grow (putRow enc (Sort.ahead w n) g 0 d) os).heap[g]? = some (.cells (putCells enc 0 d cur) e fr) := by
  have hg : g < w.heap.size := (Array.getElem?_eq_some_iff.1 hb).1
  rw [heap_grow_old _ _ (by simpa using hg)]
  simp [putRow, mapBlock, Sort.ahead, Array.getElem?_modify, hb, onCells]
theorem grown_put {w : World} {g n : Nat} {os : Array Obj} (d : Array α) : w.grownBy (grow (putRow enc (Sort.ahead w n) g 0 d) os) (some g) := by
  refine ⟨rfl, rfl, rfl, by simp, fun k hk hne => ?_⟩
  rw [heap_grow_old _ _ (by simpa using hk)]
  have : g ≠ k := fun e => hne (by rw [e])
  simp [putRow, mapBlock, Sort.ahead, Array.getElem?_modify, this]
theorem take_put (cur : Array Value) (ts : List α) (h : ts.length ≤ cur.size) : (putCells enc 0 ts.toArray cur).toList.take ts.length = ts.map enc := by
  apply List.ext_getElem?
  intro j
  by_cases hj : j < ts.length
  · rw [List.getElem?_take_of_lt hj, Array.getElem?_toList]
    simp [putCells, hj, show j < cur.size by omega]
  · rw [List.getElem?_take_eq_none (by omega), List.getElem?_eq_none (by simp; omega)]
/-- Behind a row's being written over whole. -/
theorem own_put {w : World} {B g cap n size m : Nat} {e : TypeId} {os : Array Obj} {xs : List Value} (h : w.ownsRow B e size (.slice (some ⟨g, 0, none⟩) n cap) n xs) (ts : List α) (ht : ts.length = xs.length) :
    (grow (putRow enc (Sort.ahead w m) g 0 ts.toArray) os).ownsRow B e size (.slice (some ⟨g, 0, none⟩) n cap) n (ts.map enc) := by
  obtain ⟨hl, hr⟩ := h
  rcases hr with ⟨h0, _⟩ | ⟨g', cap', cur, hv, hb, hg, h1, h2, h3, h4⟩
  · simp at h0
  · simp only [Value.slice.injEq, Option.some.injEq, Addr.mk.injEq, and_true, true_and] at hv
    obtain ⟨rfl, rfl⟩ := hv
    have hsz : ts.length ≤ cur.size := by rw [ht, hl, h3]; exact Nat.mul_le_mul_right _ h1
    refine ⟨by rw [List.length_map, ht, hl], .inr ⟨g, cap, _, rfl, hb, heap_put _ hg, h1, h2, by simp [putCells, h3], ?_⟩⟩
    rw [← hl, ← ht]
    exact take_put cur ts hsz
theorem own_first {w : World} {B g cap n m size : Nat} {e : TypeId} {xs : List Value} (h : w.ownsRow B e size (.slice (some ⟨g, 0, none⟩) n cap) n xs) (hm : m ≤ n) :
    w.ownsRow B e size (.slice (some ⟨g, 0, none⟩) m cap) m (xs.take (m * size)) := by
  obtain ⟨hl, hr⟩ := h
  have hmn : m * size ≤ n * size := Nat.mul_le_mul_right _ hm
  rcases hr with ⟨h0, _⟩ | ⟨g', cap', cur, hv, hb, hg, h1, h2, h3, h4⟩
  · simp at h0
  · simp only [Value.slice.injEq, Option.some.injEq, Addr.mk.injEq, and_true, true_and] at hv
    obtain ⟨rfl, rfl⟩ := hv
    refine ⟨by rw [List.length_take, hl]; omega, .inr ⟨g, cap, cur, rfl, hb, hg, by omega, h2, h3, ?_⟩⟩
    rw [← h4, List.take_take, Nat.min_eq_left hmn]
theorem own_holds {w : World} {B g cap n : Nat} {e : TypeId} {ts : List α} (h : w.ownsRow B e 1 (.slice (some ⟨g, 0, none⟩) n cap) n (ts.map enc)) (hn : ts.length = n) : Holds enc w g 0 ts.toArray ∧ g < w.heap.size ∧ n ≤ cap := by
  obtain ⟨hl, hr⟩ := h
  rcases hr with ⟨h0, _⟩ | ⟨g', cap', cur, hv, hb, hg, h1, h2, h3, h4⟩
  · simp at h0
  · simp only [Value.slice.injEq, Option.some.injEq, Addr.mk.injEq, and_true, true_and] at hv
    obtain ⟨rfl, rfl⟩ := hv
    refine ⟨fun j hj => ?_, (Array.getElem?_eq_some_iff.1 hg).1, h1⟩
    have hj' : j < ts.length := by simpa using hj
    refine ⟨?_, by simp [World.frozen?, hg]⟩
    have e1 : (cur.toList.take (n * 1))[j]? = (ts.map enc)[j]? := by rw [h4]
    rw [List.getElem?_take_of_lt (by omega)] at e1
    simp only [World.cell?, hg, Nat.zero_add]
    simp only [Option.isSome_none, Bool.false_eq_true, if_false]
    rw [← Array.getElem?_toList, e1]
    simp [hj']
theorem flatK_flat {k : Nat} {en : α → List Value} (hk : ∀ x, (en x).length = k) (l : List α) : flatK en k l.toArray = (flat en l).toArray := by
  apply Array.ext'
  apply List.ext_getElem?
  intro t
  have hlen := flat_length hk l
  by_cases ht : t < l.length * k
  · have hk0 : 0 < k := by
      rcases Nat.eq_zero_or_pos k with h | h
      · subst h; simp at ht
      · exact h
    have hq : t / k < l.length := (Nat.div_lt_iff_lt_mul hk0).2 ht
    have hr : t % k < k := Nat.mod_lt _ hk0
    have e1 := flat_at hk l (t / k) l[t / k] (List.getElem?_eq_getElem hq) (t % k) hr
    rw [Nat.div_add_mod' t k] at e1
    have e2 := get_flatK en k l.toArray t (by simpa using ht)
    have hs : t < (flatK en k l.toArray).size := by simpa using ht
    rw [getElem!_pos _ t hs] at e2
    rw [Array.getElem?_toList, Array.getElem?_eq_getElem hs, e2, e1]
    have hx : (l.toArray)[t / k]! = l[t / k] := by simp [hq]
    rw [hx, List.getElem?_eq_getElem (by rw [hk]; exact hr)]
    congr 1
    exact getElem!_pos _ _ (by rw [hk]; exact hr)
  · rw [List.getElem?_eq_none (by simp; omega), List.getElem?_eq_none (by show (flat en l).length ≤ t; omega)]
end

/-! ### slices.SortFunc at holds -/
def encH (wr : Int → Bool) (x : Int) : List Value := [.int .i64 x, .bool (wr x)]
theorem encH_len (wr : Int → Bool) (x : Int) : (encH wr x).length = 2 := rfl
theorem encH_one (wr : Int → Bool) (x : Int) : ∀ v ∈ encH wr x, v.oneCell' = true := by
  intro v hv
  simp only [encH, List.mem_cons, List.not_mem_nil, or_false] at hv
  rcases hv with rfl | rfl <;> rfl
def cmpI (x y : Int) : Int := if x < y then -1 else if x > y then 1 else 0
theorem ltOf_cmp (x y : Int) : ltOf cmpI x y = decide (x < y) := by
  unfold ltOf cmpI
  by_cases h1 : x < y
  · simp [h1]
  · by_cases h2 : y < x <;> simp [h1, h2]
theorem swo_cmp : SWO (ltOf cmpI) where
  irrefl x := by rw [ltOf_cmp]; simp
  trans x y z h1 h2 := by rw [ltOf_cmp] at *; simp at *; omega
  ntrans x y z h1 h2 := by rw [ltOf_cmp] at *; simp at *; omega
theorem total_cmp (x y : Int) (h1 : ltOf cmpI x y = false) (h2 : ltOf cmpI y x = false) : x = y := by
  rw [ltOf_cmp] at h1 h2
  simp at h1 h2
  omega
theorem nan_any (x : Int) (w : World) : Calls Try.prog 44 #[.int .i64 x] w fun e w' => e = .returned (.bool false) ∧ w' = w := by
  go_enter Try.func44, Try.ntmps44
  go_wp2_with fail
  go_ret
  exact ⟨by simp, rfl⟩
theorem compare_any (x y : Int) (w : World) : Calls Try.prog 37 #[.int .i64 x, .int .i64 y] w fun e w' => e = .returned (.int .i64 (cmpI x y)) ∧ w' = w := by
  have HN := Lib.hid (fun z w0 => nan_any z w0)
  have HC : Hid (cmpI x y = if x < y then -1 else if x > y then 1 else 0) := Lib.hid rfl
  rw [HC.out]
  clear HC
  by_cases h1 : x < y
  · rw [if_pos h1]
    go_enter Try.func37, Try.ntmps37
    go_wp2_with fail
    refine (HN.out _ _).mono ?_
    rintro e w1 ⟨rfl, e1⟩
    subst w1
    go_wp2_with fail
    refine (HN.out _ _).mono ?_
    rintro e w1 ⟨rfl, e1⟩
    subst w1
    go_wp2_with fail
    go_ret
    exact ⟨rfl, rfl⟩
  · rw [if_neg h1]
    by_cases h2 : x > y
    · rw [if_pos h2]
      go_enter Try.func37, Try.ntmps37
      go_wp2_with fail
      refine (HN.out _ _).mono ?_
      rintro e w1 ⟨rfl, e1⟩
      subst w1
      go_wp2_with fail
      refine (HN.out _ _).mono ?_
      rintro e w1 ⟨rfl, e1⟩
      subst w1
      go_wp2_with fail
      go_ret
      exact ⟨rfl, rfl⟩
    · rw [if_neg h2]
      go_enter Try.func37, Try.ntmps37
      go_wp2_with fail
      refine (HN.out _ _).mono ?_
      rintro e w1 ⟨rfl, e1⟩
      subst w1
      go_wp2_with fail
      refine (HN.out _ _).mono ?_
      rintro e w1 ⟨rfl, e1⟩
      subst w1
      go_wp2_with fail
      go_ret
      exact ⟨rfl, rfl⟩
theorem closure_any (x y : Int) (b c : Bool) (w : World) : Calls Try.prog 36 #[.agg #[.int .i64 x, .bool b], .agg #[.int .i64 y, .bool c]] w fun e w' => e = .returned (.int .i64 (cmpI x y)) ∧ ∃ q os', w' = grow (w.drewN q) os' := by
  have HC := Lib.hid (fun w0 => compare_any x y w0)
  generalize cmpI x y = r at *
  go_enter Try.func36, Try.ntmps36
  go_wp2_with fail
  refine (HC.out _).mono ?_
  rintro e w1 ⟨rfl, e1⟩
  subst w1
  go_wp2_with fail
  go_ret
  exact ⟨rfl, 0, _, by rw [alloc_eq_grow, alloc_eq_grow, grow_grow]; rfl⟩
theorem sortF_own (wr : Int → Bool) (B g n cap : Nat) (l : List Int) (w : World) (hn : l.length = n) (h : w.ownsRow B 60 2 (.slice (some ⟨g, 0, none⟩) n cap) n (flat (encH wr) l)) (hl : n ≤ 1000000000) :
    Calls Try.prog 35 #[.slice (some ⟨g, 0, none⟩) n cap, .func (.func 36) #[] #[]] w fun e w' => e = .returned (.tuple #[]) ∧
      w'.ownsRow B 60 2 (.slice (some ⟨g, 0, none⟩) n cap) n (flat (encH wr) (l.mergeSort fun x y => decide (x ≤ y))) ∧ w.grownBy w' (some g) := by
  subst hn
  have eg : ∀ args w, (callFunc 36 args).run Try.prog w = .ok (.enter 36 args) w := enters_of Try.func36 (by kernel_rfl) rfl
  have hg : g < w.heap.size := by
    rcases h.2 with ⟨h0, _⟩ | ⟨g', cap', cur, hv, hb, hg, -⟩
    · simp at h0
    · simp only [Value.slice.injEq, Option.some.injEq, Addr.mk.injEq, and_true, true_and] at hv
      obtain ⟨rfl, rfl⟩ := hv
      exact (Array.getElem?_eq_some_iff.1 hg).1
  have hH : HoldsK (encH wr) 2 w g 0 l.toArray := by
    unfold HoldsK
    rw [flatK_flat (encH_len wr)]
    intro j hj
    have hj' : j < (flat (encH wr) l).length := by simpa using hj
    have hlen := flat_length (encH_len wr) l
    refine ⟨?_, ?_⟩
    · rw [Nat.zero_add, h.cellAt j (by omega), List.getElem?_eq_getElem hj']
      simp [hj']
    · rcases h.2 with ⟨h0, _⟩ | ⟨g', cap', cur, hv, hb, hg2, -⟩
      · simp at h0
      · simp only [Value.slice.injEq, Option.some.injEq, Addr.mk.injEq, and_true, true_and] at hv
        obtain ⟨rfl, rfl⟩ := hv
        simp [World.frozen?, hg2]
  have hcon := AnyQ.slices_SortFunc_total shfF 2 Try.isAgg60 Try.sizeOf60 (encH wr) (encH_len wr) (encH_one wr) cmpI swo_cmp 36 #[] g 0 cap l.toArray w eg (fun _ _ _ _ x y => closure_any x y _ _ _) hH hg (by simpa using (by omega : l.length < 4611686018427387904)) total_cmp
  have e1 : (fun x y => !(ltOf cmpI) y x) = fun (x y : Int) => decide (x ≤ y) := by
    funext x y
    rw [ltOf_cmp]
    by_cases hxy : x ≤ y
    · simp [hxy]
    · simp [hxy]; omega
  rw [e1] at hcon
  refine Calls.mono hcon ?_
  rintro e w' ⟨rfl, m, os, rfl⟩
  refine ⟨rfl, ?_, ?_⟩
  · unfold sortWorldK putRowK
    rw [flatK_flat (encH_len wr)]
    have := own_put (enc := id) (m := m) (os := os) h (flat (encH wr) (l.mergeSort fun x y => decide (x ≤ y))) (by rw [flat_length (encH_len wr), flat_length (encH_len wr), List.length_mergeSort])
    rwa [List.map_id] at this
  · unfold sortWorldK putRowK
    exact grown_put _

/-! ### slices.Sort and slices.Compact at numbers -/
theorem sortI_own (B g n cap : Nat) (l : List Int) (w : World) (hn : l.length = n) (h : w.ownsRow B 3 1 (.slice (some ⟨g, 0, none⟩) n cap) n (l.map (Value.int .i64))) (hl : n ≤ 1000000000) :
    Calls Try.prog 31 #[.slice (some ⟨g, 0, none⟩) n cap] w fun e w' => e = .returned (.tuple #[]) ∧ w'.ownsRow B 3 1 (.slice (some ⟨g, 0, none⟩) n cap) n ((l.mergeSort fun x y => decide (x ≤ y)).map (Value.int .i64)) ∧ w.grownBy w' (some g) := by
  obtain ⟨h1, h2, h3⟩ := own_holds h hn
  subst hn
  refine Calls.mono (Any.slices_Sort_int shfS g 0 cap l w h1 h2 (by omega)) ?_
  rintro e w' ⟨rfl, m, os, rfl⟩
  exact ⟨rfl, own_put h _ (by rw [List.length_mergeSort, List.length_map]), grown_put _⟩
theorem sortI_none (p : Option Addr) (cap : Nat) (w : World) : Calls Try.prog 31 #[.slice p 0 cap] w fun e w' => e = .returned (.tuple #[]) ∧ w' = w := Any.slices_Sort_int_none shfS p cap w
theorem sortF_none (p : Option Addr) (cap : Nat) (fv : Value) (w : World) : Calls Try.prog 35 #[.slice p 0 cap, fv] w fun e w' => e = .returned (.tuple #[]) ∧ w' = w := AnyF.slices_SortFunc_none shfF p cap fv w
theorem compactI_own (B g n cap : Nat) (l : List Int) (w : World) (hn : l.length = n) (h : w.ownsRow B 3 1 (.slice (some ⟨g, 0, none⟩) n cap) n (l.map (Value.int .i64))) (hl : n ≤ 1000000000) :
    Calls Try.prog 32 #[.slice (some ⟨g, 0, none⟩) n cap] w fun e w' => e = .returned (.slice (some ⟨g, 0, none⟩) (Lib.compact l).length cap) ∧ w'.ownsRow B 3 1 (.slice (some ⟨g, 0, none⟩) (Lib.compact l).length cap) (Lib.compact l).length ((Lib.compact l).map (Value.int .i64)) ∧ w.grownBy w' (some g) := by
  obtain ⟨h1, h2, h3⟩ := own_holds h hn
  subst hn
  have hc : (Lib.compact l).length ≤ l.length := by
    unfold Lib.compact Lib.compactUpTo
    rw [List.length_map]
    exact Nat.le_trans (List.length_filter_le _ _) (by simp)
  refine Calls.mono (Any.slices_Compact_int shfC g 0 cap l w h1 (by omega) h3) ?_
  rintro e w' ⟨rfl, m, rfl⟩
  have hw : ∀ d : Array Int, putRow (Value.int .i64) (Sort.ahead w m) g 0 d = grow (putRow (Value.int .i64) (Sort.ahead w m) g 0 d) #[] := fun d => (grow_empty _).symm
  refine ⟨rfl, ?_, ?_⟩
  · rw [hw]
    have := own_first (own_put (enc := Value.int .i64) (m := m) (os := #[]) h (Lib.compact l ++ List.replicate (l.length - (Lib.compact l).length) 0) (by rw [List.length_append, List.length_replicate, List.length_map]; omega)) hc
    rw [Nat.mul_one, List.map_append, List.take_left' (by rw [List.length_map])] at this
    exact this
  · rw [hw]
    exact grown_put _
theorem compactI_none (p : Option Addr) (cap : Nat) (w : World) : Calls Try.prog 32 #[.slice p 0 cap] w fun e w' => e = .returned (.slice p 0 cap) ∧ w' = w := Any.slices_Compact_int_empty shfC p cap w
/-- Sorted and compacted numbers rise. -/
theorem compact_rises {l : List Int} (hs : l.Pairwise fun a b => a ≤ b) : Rises (Lib.compact l) ∧ ∀ x, x ∈ Lib.compact l ↔ x ∈ l := by
  have key : ∀ m, m ≤ l.length → Rises (Lib.compactUpTo l.toArray m) ∧ (∀ x, x ∈ Lib.compactUpTo l.toArray m ↔ x ∈ l.take m) := by
    intro m
    induction m with
    | zero => intro _; exact ⟨List.Pairwise.nil, fun x => by simp [Lib.compactUpTo]⟩
    | succ m ih =>
      intro hm
      obtain ⟨h1, h2⟩ := ih (by omega)
      have hlt : m < l.length := by omega
      have hget : l.toArray[m]! = l[m] := by simp [hlt]
      have htake : l.take (m + 1) = l.take m ++ [l[m]] := by rw [List.take_add_one, List.getElem?_eq_getElem hlt]; rfl
      have hle : ∀ x ∈ l.take m, x ≤ l[m] := fun x hx => by
        obtain ⟨j, hj, rfl⟩ := List.mem_take_iff_getElem.1 hx
        exact List.pairwise_iff_getElem.1 hs j m (by omega) hlt (by omega)
      rw [Lib.compactUpTo_succ, htake]
      by_cases hk : Lib.keeps l.toArray m = true
      · rw [if_pos hk, hget]
        have hne : ∀ x ∈ l.take m, x < l[m] := fun x hx => by
          have h3 := hle x hx
          obtain ⟨j, hj, rfl⟩ := List.mem_take_iff_getElem.1 hx
          unfold Lib.keeps at hk
          rw [decide_eq_true_eq] at hk
          rcases hk with hk | hk
          · omega
          · have hp : l.toArray[m - 1]! = l[m - 1]'(by omega) := by simp [show m - 1 < l.length by omega]
            rw [hget, hp] at hk
            have h4 : l[j] ≤ l[m - 1]'(by omega) := by
              by_cases e : j = m - 1
              · subst e; exact Int.le_refl _
              · exact List.pairwise_iff_getElem.1 hs j (m - 1) (by omega) (by omega) (by omega)
            have h5 : l[m - 1]'(by omega) ≤ l[m] := List.pairwise_iff_getElem.1 hs (m - 1) m (by omega) hlt (by omega)
            omega
        refine ⟨List.pairwise_append.2 ⟨h1, List.pairwise_singleton _ _, fun a ha b hb => ?_⟩, fun x => ?_⟩
        · rw [List.mem_singleton.1 hb]
          exact hne a ((h2 a).1 ha)
        · rw [List.mem_append, List.mem_append, h2]
      · rw [if_neg hk, List.append_nil]
        refine ⟨h1, fun x => ?_⟩
        rw [List.mem_append, h2, List.mem_singleton]
        refine ⟨.inl, fun h => ?_⟩
        rcases h with h | h
        · exact h
        · unfold Lib.keeps at hk
          rw [decide_eq_true_eq] at hk
          have hm0 : m ≠ 0 := fun e => hk (.inl e)
          have he : l.toArray[m]! = l.toArray[m - 1]! := Classical.not_not.1 fun e => hk (.inr e)
          have hp : l.toArray[m - 1]! = l[m - 1]'(by omega) := by simp [show m - 1 < l.length by omega]
          rw [hget, hp] at he
          rw [h, he]
          exact List.mem_take_iff_getElem.2 ⟨m - 1, by omega, rfl⟩
  have := key l.length (Nat.le_refl _)
  rw [List.take_length] at this
  exact this
theorem sorted_le (l : List Int) : (l.mergeSort fun x y => decide (x ≤ y)).Pairwise fun a b => a ≤ b := by
  have tr : ∀ a b c : Int, decide (a ≤ b) = true → decide (b ≤ c) = true → decide (a ≤ c) = true := fun a b c h1 h2 => by simp only [decide_eq_true_eq] at *; omega
  have to : ∀ a b : Int, (decide (a ≤ b) || decide (b ≤ a)) = true := fun a b => by simp only [Bool.or_eq_true, decide_eq_true_eq]; omega
  exact (List.pairwise_mergeSort tr to l).imp fun h => by simpa using h
/-- Of numbers, each once, the sorted list is that which rises. -/
theorem sort_supp {β : Type} {f : Int → Option β} {l : List Int} (hl : l.Nodup) (h : ∀ x, x ∈ l ↔ (f x).isSome = true) : (l.mergeSort fun x y => decide (x ≤ y)) = supp f := by
  have hs := sorted_le l
  have hp := List.mergeSort_perm l fun x y => decide (x ≤ y)
  refine (supp_eq ?_ fun x => by rw [hp.mem_iff, h]).symm
  have hn : (l.mergeSort fun x y => decide (x ≤ y)).Nodup := hp.nodup_iff.2 hl
  exact (hs.and hn).imp fun ⟨h1, h2⟩ => by omega
end Go.Proofs.Ytcjefigcaifmeaa
