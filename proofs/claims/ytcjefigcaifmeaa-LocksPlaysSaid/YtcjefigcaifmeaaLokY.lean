/- Contracts at layer 13: the table's give. -/
import Derived.Test.YtcjefigcaifmeaaLokX
namespace Go.Proofs.Ytcjefigcaifmeaa
open Go.RowKit Go.Lk
set_option linter.unusedVariables false
set_option linter.unusedSimpArgs false
set_option maxRecDepth 100000

/-! ### Plain words -/
def wtS (s : Tb) (L : List Int) : Tb := { s with waits := L.foldl (fun f x => upd f x false) s.waits }
theorem wt_at : ∀ (L : List Int) (f : Int → Bool) (y : Int), L.foldl (fun f x => upd f x false) f y = if y ∈ L then false else f y
  | [], f, y => rfl
  | x :: L, f, y => by
    rw [List.foldl_cons, wt_at L]
    by_cases e : y ∈ L
    · rw [if_pos e, if_pos (List.mem_cons_of_mem _ e)]
    · rw [if_neg e]
      by_cases e2 : y = x
      · rw [e2, upd_same, if_pos (List.mem_cons_self ..)]
      · rw [upd_other _ e2, if_neg (fun h => (List.mem_cons.1 h).elim e2 e)]
theorem wtS_snoc (s : Tb) (L : List Int) (x : Int) : wtS s (L ++ [x]) = { wtS s L with waits := upd (wtS s L).waits x false } := by unfold wtS; rw [List.foldl_append]; rfl
/-- A key's holders and waiting ones as they are given. -/
noncomputable def hwS (s : Tb) (k : Int) : Tb := { s with h := upd s.h k (setL (s.h k) (G1 s k)), w := upd s.w k (delL (s.w k) (G1 s k)) }
open Classical in
theorem giveK_eq (s : Tb) (k : Int) : giveK s k = { wtS (hwS s k) ((G1 s k).map fun p => p.1) with row := upd s.row k (decide (∃ x, (setL (s.h k) (G1 s k) x).isSome = true)) } := by
  have : (fun x => if ∃ b, (x, b) ∈ G1 s k then false else s.waits x) = ((G1 s k).map fun p => p.1).foldl (fun f x => upd f x false) s.waits := by
    funext x
    rw [wt_at]
    have e : (∃ b, (x, b) ∈ G1 s k) ↔ x ∈ (G1 s k).map fun p => p.1 := by
      rw [List.mem_map]
      exact ⟨fun ⟨b, h⟩ => ⟨_, h, rfl⟩, fun ⟨p, h, e⟩ => ⟨p.2, by rw [← e]; exact h⟩⟩
    by_cases h : ∃ b, (x, b) ∈ G1 s k
    · rw [if_pos h, if_pos (e.1 h)]
    · rw [if_neg h, if_neg (fun h2 => h (e.2 h2))]
  unfold giveK wtS hwS
  rw [this]
theorem giveS_snoc (s : Tb) (K : List Int) (k : Int) : giveS s (K ++ [k]) = giveK (giveS s K) k := by unfold giveS; rw [List.foldl_append]; rfl
theorem G1_gives (s : Tb) (K : List Int) {j : Int} (h : j ∉ K) : G1 (giveS s K) j = G1 s j := by
  obtain ⟨h1, h2, -⟩ := gives_out K s h
  unfold G1
  rw [h1, h2]
noncomputable def partL (s : Tb) (k but : Int) (n : Nat) : List (Int × Int) := ((((G1 s k).map fun p => p.1).take n).filter fun x => x != but).map fun x => (x, k)
theorem part_all (s : Tb) (k but : Int) : partL s k but (G1 s k).length = ((G1 s k).filter fun p => p.1 != but).map fun p => (p.1, k) := by
  unfold partL
  rw [List.take_of_length_le (by rw [List.length_map]; exact Nat.le_refl _), List.filter_map, List.map_map]
  rfl
theorem woke_snoc (s : Tb) (K : List Int) (k but : Int) : wokeL s (K ++ [k]) but = wokeL s K but ++ partL s k but (G1 s k).length := by
  rw [part_all]
  unfold wokeL
  rw [List.flatMap_append]
  simp
theorem part_step (s : Tb) (k but : Int) (n : Nat) (x : Int) (h : ((G1 s k).map fun p => p.1)[n]? = some x) : partL s k but (n + 1) = partL s k but n ++ if x != but then [(x, k)] else [] := by
  unfold partL
  rw [List.take_add_one, h]
  simp only [Option.toList, List.filter_append, List.map_append, List.filter_cons, List.filter_nil]
  split <;> rfl
theorem part_len (s : Tb) (k but : Int) (n : Nat) : (partL s k but n).length ≤ (G1 s k).length := by
  unfold partL
  rw [List.length_map]
  refine Nat.le_trans (List.length_filter_le _ _) ?_
  rw [List.length_take, List.length_map]
  omega
theorem G1_len {s : Tb} {K : Int → Prop} (m : Mid s K) (k : Int) : (G1 s k).length ≤ cntT s := by
  unfold G1
  refine Nat.le_trans (gl_sub _ _).length_le ?_
  rw [rowOf_len]
  exact mid_feww m k
theorem woke_len {s : Tb} {K : Int → Prop} (m : Mid s K) (but : Int) : ∀ (L : List Int), (wokeL s L but).length ≤ L.length * cntT s
  | [] => by simp [wokeL]
  | k :: L => by
    have h1 := woke_len m but L
    have h2 := G1_len m k
    have e : wokeL s (k :: L) but = (((G1 s k).filter fun p => p.1 != but).map fun p => (p.1, k)) ++ wokeL s L but := by unfold wokeL; rw [List.flatMap_cons]
    rw [e, List.length_append, List.length_map, List.length_cons, Nat.add_mul, Nat.one_mul]
    have := List.length_filter_le (fun p : Int × Bool => p.1 != but) (G1 s k)
    omega

/-! ### In memory -/
def encG (p : Int × Int) : List Value := [.int .i64 p.1, .int .i64 p.2]
theorem encG_len (p : Int × Int) : (encG p).length = 2 := rfl
theorem encG_one (l : List (Int × Int)) : ∀ u ∈ flat encG l, u.oneCell' = true := by
  intro u hu
  unfold flat at hu
  obtain ⟨a, _, hu⟩ := List.mem_flatMap.1 hu
  simp only [encG, List.mem_cons, List.not_mem_nil, or_false] at hu
  rcases hu with rfl | rfl <;> rfl
theorem info_grant : (Try.prog.info? 57).map (fun i => (i.zero, i.size, i.bytes)) = some (some (.agg #[.int .i64 0, .int .i64 0]), 2, 16) := by kernel_rfl
theorem sees_grant (w : World) (g : Nat) (hg : g = w.heap.size) (x k : Int) : Sees (w.alloc (.cells #[.int .i64 x, .int .i64 k] 57)) (g + 1) 2 (some ⟨g, 0, none⟩) 1 (flat encG [(x, k)]) := by
  subst hg
  refine ⟨rfl, fun _ => ⟨w.heap.size, 0, rfl, by omega, fun j u hu => ?_⟩⟩
  rw [Nat.zero_add, (Whole.fresh w _ _).cell j, ← Array.getElem?_toList]
  exact hu
theorem own_unlike {w w' : World} {B B2 n n2 size size2 : Nat} {e e2 : TypeId} {v v2 : Value} {xs ys : List Value} (h : w.ownsRow B e size v n xs) (h2 : w.ownsRow B2 e2 size2 v2 n2 ys) (he : e ≠ e2) (hg : w.grownBy w' v2.ownBlock) : w'.ownsRow B e size v n xs :=
  own_off h (off_of_grown hg) fun b hb hb2 => by
    rcases h.2 with ⟨rfl, _⟩ | ⟨g, cap, cur, rfl, _, hh, _⟩
    · simp [Value.ownBlock] at hb
    · rcases h2.2 with ⟨rfl, _⟩ | ⟨g2, cap2, cur2, rfl, _, hh2, _⟩
      · simp [Value.ownBlock] at hb2
      · have e1 : g = b := by simpa [Value.ownBlock] using hb
        have e3 : g2 = b := by simpa [Value.ownBlock] using hb2
        subst e1
        subst e3
        rw [hh] at hh2
        injection hh2 with hh2
        injection hh2 with _ hh2
        exact he hh2
section
variable {w w' : World} {s : Tb} {loc : Nm → Nat}
theorem Tm.sethw (T : Tm w s loc) {k : Int} (hr : s.row k = true) {f f' : Lk.Fn} (hm : Mh w' (loc (.h k)) f) (hm' : Mh w' (loc (.w k)) f') (ho : Off (fun b => b = loc (.h k) ∨ b = loc (.w k)) w w') : Tm w' { s with h := upd s.h k f, w := upd s.w k f' } loc := by
  have hl : ∀ n, live { s with h := upd s.h k f, w := upd s.w k f' } n = live s n := fun n => by cases n <;> rfl
  refine ⟨fun a b ha hb e => T.inj a b (by rw [← hl]; exact ha) (by rw [← hl]; exact hb) e, fun n hn => ?_⟩
  rw [hl] at hn
  by_cases e1 : n = .h k
  · subst e1
    show Mh w' (loc (.h k)) (upd s.h k f k)
    rw [upd_same]; exact hm
  · by_cases e2 : n = .w k
    · subst e2
      show Mh w' (loc (.w k)) (upd s.w k f' k)
      rw [upd_same]; exact hm'
    · have h := (T.has n hn).at (ho.block _ (T.has n hn).lt fun e => by
        rcases e with e | e
        · exact e1 (T.inj n (.h k) hn hr e)
        · exact e2 (T.inj n (.w k) hn hr e))
      cases n with
      | h j =>
        show Mh w' (loc (.h j)) (upd s.h k f j)
        rw [upd_other _ (fun e => e1 (by rw [e]))]
        exact h
      | w j =>
        show Mh w' (loc (.w j)) (upd s.w k f' j)
        rw [upd_other _ (fun e => e2 (by rw [e]))]
        exact h
      | _ => exact h
theorem Tm.delRow (T : Tm w s loc) {k : Int} (hm : Mv rE w' (loc .rows) (upd (rowF s loc) k none)) (ho : Off (fun b => b = loc .rows) w w') : Tm w' { s with row := upd s.row k false } loc := by
  have hl : ∀ n, live { s with row := upd s.row k false } n = true → live s n = true ∧ (n = .h k → False) ∧ (n = .w k → False) := fun n hn => by
    cases n with
    | h j =>
      have h1 : upd s.row k false j = true := hn
      by_cases e : j = k
      · rw [e, upd_same] at h1; cases h1
      · rw [upd_other _ e] at h1
        exact ⟨h1, fun h => (by injection h with h; exact e h), fun h => by cases h⟩
    | w j =>
      have h1 : upd s.row k false j = true := hn
      by_cases e : j = k
      · rw [e, upd_same] at h1; cases h1
      · rw [upd_other _ e] at h1
        exact ⟨h1, fun h => (by cases h), fun h => by injection h with h; exact e h⟩
    | _ => exact ⟨hn, fun h => (by cases h), fun h => by cases h⟩
  refine ⟨fun a b ha hb e => T.inj a b (hl a ha).1 (hl b hb).1 e, fun n hn => ?_⟩
  obtain ⟨h1, h2, h3⟩ := hl n hn
  by_cases e : n = .rows
  · subst e
    show Mv rE w' (loc .rows) (rowF { s with row := upd s.row k false } loc)
    refine hm.congr fun j => ?_
    unfold rowF
    by_cases e : j = k
    · subst e
      simp only [upd_same]
      rw [if_neg (by simp)]
    · simp only [upd_other _ e]
  · have h := (T.has n h1).at (ho.block _ (T.has n h1).lt fun e2 => e (T.inj n .rows h1 rfl e2))
    cases n with
    | rows => exact absurd rfl e
    | _ => exact h
end
end Go.Proofs.Ytcjefigcaifmeaa
