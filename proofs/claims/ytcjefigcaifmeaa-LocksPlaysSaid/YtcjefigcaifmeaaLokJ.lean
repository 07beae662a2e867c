/- Locks: the document's table, plain: rows by keys, then by transactions; what is put, taken out and given; how it goes with the program's. -/
import Derived.Test.YtcjefigcaifmeaaLokP
import Derived.Test.YtcjefigcaifmeaaLokC
namespace Go.Lk
set_option linter.unusedVariables false
/-- A row of the document's lists. -/
structure Rw where
  tx : Int
  key : Int
  b : Bool
instance : Inhabited Rw := ⟨⟨0, 0, false⟩⟩
def lt2 (a b : Rw) : Prop := a.key < b.key ∨ a.key = b.key ∧ a.tx < b.tx
instance (a b : Rw) : Decidable (lt2 a b) := by unfold lt2; exact inferInstance
theorem lt2_trans {a b c : Rw} (h : lt2 a b) (k : lt2 b c) : lt2 a c := by unfold lt2 at *; omega
/-- A list of rows, as what each key tells of each transaction. -/
structure Rel (l : List Rw) (h : Int → Fn) : Prop where
  sort : l.Pairwise lt2
  mem : ∀ x k b, (⟨x, k, b⟩ : Rw) ∈ l ↔ h k x = some b
theorem Rel.mem' {l : List Rw} {h : Int → Fn} (r : Rel l h) (y : Rw) : y ∈ l ↔ h y.key y.tx = some y.b := r.mem y.tx y.key y.b
theorem Rel.nil : Rel [] (fun _ _ => none) := ⟨List.Pairwise.nil, fun x k b => by simp⟩
theorem lt2_ne {a b : Rw} (h : lt2 a b) : a ≠ b := by
  intro e
  subst e
  unfold lt2 at h
  omega
theorem rel_unique {l m : List Rw} {h : Int → Fn} (r : Rel l h) (q : Rel m h) : l = m := by
  have hn : ∀ {l : List Rw}, l.Pairwise lt2 → l.Nodup := fun h => h.imp fun h => lt2_ne h
  have hp : l.Perm m := (List.perm_ext_iff_of_nodup (hn r.sort) (hn q.sort)).2 fun y => by rw [r.mem', q.mem']
  exact List.Perm.eq_of_pairwise (le := lt2) (fun a b _ _ h1 h2 => by unfold lt2 at h1 h2; omega) r.sort q.sort hp
/-! ### Put, without -/
def putR (x : Rw) : List Rw → List Rw
  | [] => [x]
  | a :: l => if lt2 a x then a :: putR x l else x :: a :: l
theorem putR_mem (x y : Rw) (l : List Rw) : y ∈ putR x l ↔ y = x ∨ y ∈ l := by
  induction l with
  | nil => simp [putR]
  | cons a l ih =>
    unfold putR
    split
    · simp only [List.mem_cons, ih]
      constructor
      · rintro (h | h | h) <;> simp [h]
      · rintro (h | h | h) <;> simp [h]
    · simp [List.mem_cons]
theorem lt2_tri (a b : Rw) : lt2 a b ∨ lt2 b a ∨ (a.key = b.key ∧ a.tx = b.tx) := by unfold lt2; omega
theorem putR_sort {x : Rw} : ∀ {l : List Rw}, l.Pairwise lt2 → (∀ y ∈ l, ¬ (y.key = x.key ∧ y.tx = x.tx)) → (putR x l).Pairwise lt2
  | [], _, _ => List.pairwise_singleton _ _
  | a :: l, h, hn => by
    obtain ⟨h1, h2⟩ := List.pairwise_cons.1 h
    unfold putR
    split
    · rename_i c
      refine List.pairwise_cons.2 ⟨fun y hy => ?_, putR_sort h2 fun y hy => hn y (List.mem_cons_of_mem _ hy)⟩
      rcases (putR_mem x y l).1 hy with rfl | hy
      · exact c
      · exact h1 y hy
    · rename_i c
      have hxa : lt2 x a := by
        rcases lt2_tri a x with h | h | h
        · exact absurd h c
        · exact h
        · exact absurd h (hn a (List.mem_cons_self ..))
      refine List.pairwise_cons.2 ⟨fun y hy => ?_, h⟩
      rcases List.mem_cons.1 hy with rfl | hy
      · exact hxa
      · exact lt2_trans hxa (h1 y hy)
theorem Rel.put {l : List Rw} {h : Int → Fn} (r : Rel l h) (x : Rw) (hn : h x.key x.tx = none) : Rel (putR x l) (upd h x.key (upd (h x.key) x.tx (some x.b))) := by
  refine ⟨putR_sort r.sort fun y hy ⟨e1, e2⟩ => ?_, fun y k b => ?_⟩
  · have := (r.mem' y).1 hy
    rw [e1, e2, hn] at this
    cases this
  · rw [putR_mem, r.mem]
    unfold upd
    by_cases e1 : k = x.key
    · rw [if_pos e1]
      by_cases e2 : y = x.tx
      · rw [if_pos e2, e1, e2, hn]
        constructor
        · rintro (h | h)
          · rw [← h]
          · cases h
        · intro h
          injection h with h
          exact .inl (by rw [← h])
      · rw [if_neg e2, e1]
        exact ⟨fun h => h.resolve_left fun h => e2 (by rw [← h]), fun h => .inr h⟩
    · rw [if_neg e1]
      exact ⟨fun h => h.resolve_left fun h => e1 (by rw [← h]), fun h => .inr h⟩
theorem Rel.filter {l : List Rw} {h g : Int → Fn} (r : Rel l h) (p : Rw → Bool) (hg : ∀ x k b, g k x = some b ↔ h k x = some b ∧ p ⟨x, k, b⟩ = true) : Rel (l.filter p) g :=
  ⟨r.sort.filter _, fun x k b => by rw [List.mem_filter, r.mem, hg]⟩
def withoutR (l : List Rw) (x : Int) : List Rw := l.filter fun y => y.tx != x
def cutAll (h : Int → Fn) (x : Int) : Int → Fn := fun k y => if y = x then none else h k y
theorem Rel.without {l : List Rw} {h : Int → Fn} (r : Rel l h) (x : Int) : Rel (withoutR l x) (cutAll h x) := by
  refine r.filter _ fun y k b => ?_
  unfold cutAll
  by_cases e : y = x
  · simp [e]
  · simp [e]
/-! ### Give -/
def togR (a b : Rw) : Bool := a.tx == b.tx || (!a.b && !b.b)
def mayR (H W : List Rw) (x : Rw) : Bool := (H.all fun y => !(y.key == x.key) || togR y x) && W.all fun y => !(y.key == x.key && decide (y.tx < x.tx)) || togR y x
theorem may_iff {H W : List Rw} {h w : Int → Fn} (rH : Rel H h) (rW : Rel W w) (x : Rw) :
    mayR H W x = true ↔ (∀ y c, h x.key y = some c → y = x.tx ∨ (c = false ∧ x.b = false)) ∧ ∀ y c, w x.key y = some c → y < x.tx → c = false ∧ x.b = false := by
  unfold mayR togR
  rw [Bool.and_eq_true, List.all_eq_true, List.all_eq_true]
  constructor
  · rintro ⟨h1, h2⟩
    refine ⟨fun y c hy => ?_, fun y c hy hlt => ?_⟩
    · have := h1 ⟨y, x.key, c⟩ ((rH.mem y x.key c).2 hy)
      simpa using this
    · have := h2 ⟨y, x.key, c⟩ ((rW.mem y x.key c).2 hy)
      have hne : y ≠ x.tx := by omega
      simpa [hlt, hne] using this
  · rintro ⟨h1, h2⟩
    refine ⟨fun y hy => ?_, fun y hy => ?_⟩
    · by_cases e : y.key = x.key
      · have := h1 y.tx y.b (by rw [← e]; exact (rH.mem' y).1 hy)
        simpa [e] using this
      · simp [e]
    · by_cases e : y.key = x.key
      · by_cases hlt : y.tx < x.tx
        · have := h2 y.tx y.b (by rw [← e]; exact (rW.mem' y).1 hy) hlt
          simp [e, this]
        · simp [hlt]
      · simp [e]
/-- One waiting row's turn. -/
def stepR (t : List Rw × List Rw × List (Int × Int)) (x : Rw) : List Rw × List Rw × List (Int × Int) :=
  if mayR t.1 t.2.1 x = true then
    (putR ⟨x.tx, x.key, x.b || (t.1.any fun y => y.tx == x.tx && y.key == x.key && y.b)⟩ (t.1.filter fun y => !(y.tx == x.tx && y.key == x.key)), withoutR t.2.1 x.tx, t.2.2 ++ [(x.tx, x.key)])
  else t
def giveR (H W : List Rw) : List Rw × List Rw × List (Int × Int) := W.foldl stepR (H, W, [])
def upH (h : Int → Fn) (k x : Int) (v : Option Bool) : Int → Fn := upd h k (upd (h k) x v)
theorem upH_at (h : Int → Fn) (k x : Int) (v : Option Bool) (j y : Int) : upH h k x v j y = if j = k ∧ y = x then v else h j y := by
  unfold upH upd
  by_cases e1 : j = k
  · subst e1
    rw [if_pos rfl]
    by_cases e2 : y = x <;> simp [e2]
  · rw [if_neg e1, if_neg (fun h => e1 h.1)]
/-- A row's turn, where it may. -/
theorem step_may {H W : List Rw} {h w : Int → Fn} (rH : Rel H h) (rW : Rel W w) {x : Rw} (hm : mayR H W x = true) (hone : ∀ j, w j x.tx ≠ none → j = x.key) (hup : ∀ c, h x.key x.tx = some c → x.b = true) (out : List (Int × Int)) :
    ∃ H' W', stepR (H, W, out) x = (H', W', out ++ [(x.tx, x.key)]) ∧ Rel H' (upH h x.key x.tx (some x.b)) ∧ Rel W' (upH w x.key x.tx none) := by
  unfold stepR
  rw [if_pos hm]
  have hb : (x.b || (H.any fun y => y.tx == x.tx && y.key == x.key && y.b)) = x.b := by
    cases e : x.b with
    | true => rfl
    | false =>
      rw [Bool.false_or, List.any_eq_false]
      intro y hy
      rw [Bool.and_eq_true, Bool.and_eq_true]
      rintro ⟨⟨e1, e2⟩, -⟩
      have e1 : y.tx = x.tx := by simpa using e1
      have e2 : y.key = x.key := by simpa using e2
      have h1 := (rH.mem' y).1 hy
      rw [e1, e2] at h1
      have := hup _ h1
      rw [e] at this
      cases this
  dsimp only
  rw [hb]
  have rF : Rel (H.filter fun y => !(y.tx == x.tx && y.key == x.key)) (upH h x.key x.tx none) := rH.filter _ fun y k b => by
    rw [upH_at]
    by_cases e1 : k = x.key
    · by_cases e2 : y = x.tx
      · simp [e1, e2]
      · simp [e1, e2]
    · simp [e1]
  refine ⟨_, _, rfl, ?_, ?_⟩
  · have := rF.put ⟨x.tx, x.key, x.b⟩ (by show upH h x.key x.tx none x.key x.tx = none; rw [upH_at, if_pos ⟨rfl, rfl⟩])
    have e : upd (upH h x.key x.tx none) x.key (upd (upH h x.key x.tx none x.key) x.tx (some x.b)) = upH h x.key x.tx (some x.b) := by
      funext j y
      show upH (upH h x.key x.tx none) x.key x.tx (some x.b) j y = _
      rw [upH_at, upH_at, upH_at]
      split <;> rfl
    rw [← e]
    exact this
  · have e : cutAll w x.tx = upH w x.key x.tx none := by
      funext j y
      rw [upH_at]
      unfold cutAll
      by_cases e2 : y = x.tx
      · rw [if_pos e2]
        by_cases e1 : j = x.key
        · rw [if_pos ⟨e1, e2⟩]
        · rw [if_neg (fun h => e1 h.1), e2]
          cases e3 : w j x.tx with
          | none => rfl
          | some c => exact absurd (hone j (by rw [e3]; simp)) e1
      · rw [if_neg e2, if_neg (fun h => e2 h.2)]
    rw [← e]
    exact rW.without x.tx
theorem step_not {H W : List Rw} {x : Rw} (hm : mayR H W x = false) (out : List (Int × Int)) : stepR (H, W, out) x = (H, W, out) := by
  unfold stepR
  rw [if_neg (by rw [hm]; simp)]
/-- The rows of one key. -/
def mkR (k : Int) (l : List (Int × Bool)) : List Rw := l.map fun p => ⟨p.1, k, p.2⟩
/-- Behind one that is blocked nobody may. -/
theorem block_not {H W : List Rw} {h w : Int → Fn} (rH : Rel H h) (rW : Rel W w) {k x : Int} {b : Bool} (hok : Rok (h k) (w k)) (hw : w k x = some b) (hb : Blk (h k) x b) {y : Int} {c : Bool} (hy : w k y = some c) (hxy : x ≤ y) : mayR H W ⟨y, k, c⟩ = false := by
  cases hm : mayR H W ⟨y, k, c⟩ with
  | false => rfl
  | true =>
    exfalso
    obtain ⟨h1, h2⟩ := (may_iff rH rW ⟨y, k, c⟩).1 hm
    dsimp only at h1 h2
    obtain ⟨z, d, hzx, hz, hd⟩ := hb
    rcases Int.lt_or_eq_of_le hxy with hlt | rfl
    · obtain ⟨e1, e2⟩ := h2 x b hw hlt
      rcases hd with hd | hd
      · rcases h1 z d hz with e | e
        · subst e
          have := (hok.up z d c hz hy).1
          rw [this] at hd; cases hd
        · rw [e.1] at hd; cases hd
      · rw [e1] at hd; cases hd
    · have : c = b := by rw [hw] at hy; injection hy with hy; exact hy.symm
      subst this
      rcases h1 z d hz with e | e
      · exact hzx e
      · rcases hd with hd | hd
        · rw [e.1] at hd; cases hd
        · rw [e.2] at hd; cases hd
theorem fold_not {H W : List Rw} {out : List (Int × Int)} : ∀ {l : List Rw}, (∀ y ∈ l, mayR H W y = false) → l.foldl stepR (H, W, out) = (H, W, out)
  | [], _ => rfl
  | a :: l, hl => by
    rw [List.foldl_cons, step_not (hl a (List.mem_cons_self ..)), fold_not fun y hy => hl y (List.mem_cons_of_mem _ hy)]
def setK (h : Int → Fn) (k : Int) (f : Fn) : Int → Fn := upd h k f
/-- The rows of one key, in turn. -/
theorem block_give : ∀ (l : List (Int × Bool)) (H W : List Rw) (h w : Int → Fn) (out : List (Int × Int)) (k : Int), Rel H h → Rel W w → Rok (h k) (w k) → l.Pairwise (fun p q => p.1 < q.1) → (∀ x b, (x, b) ∈ l ↔ w k x = some b) → (∀ x j, (w k x).isSome = true → w j x ≠ none → j = k) →
    ∃ H' W', (mkR k l).foldl stepR (H, W, out) = (H', W', out ++ (gl (h k) l).map fun p => (p.1, k)) ∧ Rel H' (setK h k (setL (h k) (gl (h k) l))) ∧ Rel W' (setK w k (delL (w k) (gl (h k) l)))
  | [], H, W, h, w, out, k, rH, rW, hok, hl, hw, hone => by
    refine ⟨H, W, by simp [mkR, gl], ?_, ?_⟩
    · unfold gl setK
      show Rel H (upd h k (h k))
      rw [upd_id]; exact rH
    · unfold gl setK
      show Rel W (upd w k (w k))
      rw [upd_id]; exact rW
  | (x, b) :: l, H, W, h, w, out, k, rH, rW, hok, hl, hw, hone => by
    obtain ⟨h1, h2⟩ := List.pairwise_cons.1 hl
    have hx := (hw x b).1 (List.mem_cons_self ..)
    by_cases hb : Blk (h k) x b
    · have hg : gl (h k) ((x, b) :: l) = [] := by unfold gl; rw [if_pos hb]
      rw [hg]
      refine ⟨H, W, ?_, ?_, ?_⟩
      · rw [fold_not fun y hy => ?_]
        · simp
        · obtain ⟨p, hp, rfl⟩ := List.mem_map.1 hy
          refine block_not rH rW hok hx hb ((hw p.1 p.2).1 hp) ?_
          rcases List.mem_cons.1 hp with rfl | hp
          · exact Int.le_refl _
          · exact Int.le_of_lt (h1 p hp)
      · show Rel H (upd h k (h k))
        rw [upd_id]; exact rH
      · show Rel W (upd w k (w k))
        rw [upd_id]; exact rW
    · have hg : gl (h k) ((x, b) :: l) = (x, b) :: gl (upd (h k) x (some b)) l := by rw [gl]; rw [if_neg hb]
      have hm : mayR H W ⟨x, k, b⟩ = true := by
        rw [may_iff rH rW]
        refine ⟨fun y c hy => ?_, fun y c hy hlt => ?_⟩
        · by_cases e : y = x
          · exact .inl e
          · refine .inr ?_
            by_cases e1 : c = true
            · exact absurd ⟨y, c, e, hy, .inl e1⟩ hb
            · by_cases e2 : b = true
              · exact absurd ⟨y, c, e, hy, .inr e2⟩ hb
              · exact ⟨by simpa using e1, by simpa using e2⟩
        · dsimp only at hy hlt
          rcases List.mem_cons.1 ((hw y c).2 hy) with e | hy
          · injection e with e
            omega
          · have := h1 _ hy
            simp only at this
            omega
      obtain ⟨H1, W1, e1, r1, r2⟩ := step_may rH rW hm (fun j hj => hone x j (by rw [hx]; rfl) hj) (fun c hc => (hok.up x c b hc hx).2) out
      dsimp only at r1 r2 e1
      have hk1 : upH h k x (some b) k = upd (h k) x (some b) := by unfold upH; rw [upd_same]
      have hk2 : upH w k x none k = upd (w k) x none := by unfold upH; rw [upd_same]
      obtain ⟨H2, W2, e2, r3, r4⟩ := block_give l H1 W1 (upH h k x (some b)) (upH w k x none) (out ++ [(x, k)]) k r1 r2 (by
        rw [hk1, hk2]
        have nb : ∀ y c, y ≠ x → h k y = some c → c = false ∧ b = false := fun y c hy hc => by
          by_cases e1 : c = true
          · exact absurd ⟨y, c, hy, hc, .inl e1⟩ hb
          · by_cases e2 : b = true
            · exact absurd ⟨y, c, hy, hc, .inr e2⟩ hb
            · exact ⟨by simpa using e1, by simpa using e2⟩
        refine ⟨fun y z p q n hy hz => ?_, fun y p q hy hz => ?_, fun y p z q hy hz hlt => ?_⟩
        · unfold upd at hy hz
          by_cases e1 : y = x
          · rw [if_pos e1] at hy
            rw [if_neg (fun e => n (e1.trans e.symm))] at hz
            injection hy with hy
            have := nb z q (fun e => n (e1.trans e.symm)) hz
            exact ⟨hy ▸ this.2, this.1⟩
          · rw [if_neg e1] at hy
            by_cases e2 : z = x
            · rw [if_pos e2] at hz
              injection hz with hz
              have := nb y p e1 hy
              exact ⟨this.1, hz ▸ this.2⟩
            · rw [if_neg e2] at hz
              exact hok.tog y z p q n hy hz
        · unfold upd at hy hz
          by_cases e1 : y = x
          · rw [if_pos e1] at hz; cases hz
          · rw [if_neg e1] at hy hz
            exact hok.up y p q hy hz
        · unfold upd at hy hz
          by_cases e1 : y = x
          · rw [if_pos e1] at hy; cases hy
          · rw [if_neg e1] at hy
            by_cases e2 : z = x
            · have := (hw y p).2 hy
              rcases List.mem_cons.1 this with e | hm
              · injection e with e; exact absurd e e1
              · have := h1 _ hm; simp only at this; omega
            · rw [if_neg e2] at hz
              exact hok.yng y p z q hy hz hlt) h2 (fun y c => by
        rw [hk2]
        unfold upd
        by_cases e1 : y = x
        · rw [if_pos e1]
          subst e1
          exact ⟨fun hm => by have := h1 _ hm; simp only at this; omega, fun h => by cases h⟩
        · rw [if_neg e1, ← hw y c, List.mem_cons]
          exact ⟨fun h => .inr h, fun h => by
            rcases h with h | h
            · injection h with h; exact absurd h e1
            · exact h⟩) (fun y j hy hj => by
        rw [hk2] at hy
        rw [upH_at] at hj
        unfold upd at hy
        by_cases e1 : y = x
        · rw [if_pos e1] at hy; cases hy
        · rw [if_neg e1] at hy
          rw [if_neg (fun e => e1 e.2)] at hj
          exact hone y j hy hj)
      refine ⟨H2, W2, ?_, ?_, ?_⟩
      · show (l.map (fun p => (⟨p.1, k, p.2⟩ : Rw))).foldl stepR (stepR (H, W, out) ⟨x, k, b⟩) = _
        rw [e1]
        show (mkR k l).foldl stepR (H1, W1, out ++ [(x, k)]) = _
        rw [e2, hk1, hg]
        simp
      · rw [hk1] at r3
        rw [hg, setL_cons]
        have e : setK (upH h k x (some b)) k (setL (upd (h k) x (some b)) (gl (upd (h k) x (some b)) l)) = setK h k (setL (upd (h k) x (some b)) (gl (upd (h k) x (some b)) l)) := by
          funext j
          unfold setK upH upd
          split
          · rfl
          · rfl
        rw [← e]
        exact r3
      · rw [hk1, hk2] at r4
        rw [hg, delL_cons]
        have e : setK (upH w k x none) k (delL (upd (w k) x none) (gl (upd (h k) x (some b)) l)) = setK w k (delL (upd (w k) x none) (gl (upd (h k) x (some b)) l)) := by
          funext j
          unfold setK upH upd
          split
          · rfl
          · rfl
        rw [← e]
        exact r4
end Go.Lk
