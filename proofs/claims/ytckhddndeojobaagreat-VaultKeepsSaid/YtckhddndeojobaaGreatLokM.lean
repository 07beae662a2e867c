/- Locks: the plain mathematics of layer 13 (no program): who holds which keys, who waits, who is dead; how keys are given. -/
import Derived.Test.YtckhddndeojobaaGreatMem
namespace Go.Lk
set_option linter.unusedVariables false

/-! ### Numbers of which a function tells something -/
def Rises (m : List Int) : Prop := m.Pairwise fun a b => a < b
/-- They are finitely many. -/
def Fin1 {α : Type} (f : Int → Option α) : Prop := ∃ m : List Int, Rises m ∧ ∀ x, x ∈ m ↔ (f x).isSome = true
open Classical in
/-- These are they, rising. -/
noncomputable def supp {α : Type} (f : Int → Option α) : List Int := if h : Fin1 f then h.choose else []
def upd {α : Type} (f : Int → α) (a : Int) (v : α) : Int → α := fun x => if x = a then v else f x
theorem upd_same {α : Type} (f : Int → α) (a : Int) (v : α) : upd f a v a = v := if_pos rfl
theorem upd_other {α : Type} (f : Int → α) {a x : Int} (h : x ≠ a) (v : α) : upd f a v x = f x := if_neg h
theorem upd_id {α : Type} (f : Int → α) (a : Int) : upd f a (f a) = f := by
  funext x
  unfold upd
  split
  · rename_i h; rw [h]
  · rfl
theorem Rises.nodup {m : List Int} (h : Rises m) : m.Nodup := h.imp fun h => by omega
theorem rises_unique {l m : List Int} (hl : Rises l) (hm : Rises m) (h : ∀ x, x ∈ l ↔ x ∈ m) : l = m := by
  have hp : l.Perm m := (List.perm_ext_iff_of_nodup hl.nodup hm.nodup).2 h
  exact List.Perm.eq_of_pairwise (le := fun a b => a < b) (fun a b _ _ h1 h2 => by omega) hl hm hp
section
variable {α β : Type} {f : Int → Option α}
theorem supp_spec (h : Fin1 f) : Rises (supp f) ∧ ∀ x, x ∈ supp f ↔ (f x).isSome = true := by
  unfold supp
  rw [dif_pos h]
  exact h.choose_spec
theorem supp_mem (h : Fin1 f) (x : Int) : x ∈ supp f ↔ (f x).isSome = true := (supp_spec h).2 x
theorem supp_rises (h : Fin1 f) : Rises (supp f) := (supp_spec h).1
theorem supp_eq {m : List Int} (hm : Rises m) (h : ∀ x, x ∈ m ↔ (f x).isSome = true) : supp f = m :=
  rises_unique (supp_rises ⟨m, hm, h⟩) hm fun x => by rw [supp_mem ⟨m, hm, h⟩, h]
theorem Fin1.less {g : Int → Option β} (h : Fin1 f) (hg : ∀ x, (g x).isSome = true → (f x).isSome = true) : Fin1 g := by
  obtain ⟨m, h1, h2⟩ := h
  refine ⟨m.filter fun x => (g x).isSome, List.Pairwise.filter _ h1, fun x => ?_⟩
  rw [List.mem_filter, h2]
  exact ⟨fun h => h.2, fun h => ⟨hg x h, h⟩⟩
theorem Fin1.none : Fin1 (fun _ => (none : Option α)) := ⟨[], List.Pairwise.nil, fun x => by simp⟩
def ins (a : Int) : List Int → List Int
  | [] => [a]
  | b :: l => if a < b then a :: b :: l else if a = b then b :: l else b :: ins a l
theorem mem_ins (a x : Int) (l : List Int) : x ∈ ins a l ↔ x = a ∨ x ∈ l := by
  induction l with
  | nil => simp [ins]
  | cons b l ih =>
    unfold ins
    by_cases h1 : a < b
    · simp [h1]
    · by_cases h2 : a = b
      · subst h2; simp
      · simp only [if_neg h1, if_neg h2, List.mem_cons, ih]
        constructor
        · rintro (h | h | h)
          · exact .inr (.inl h)
          · exact .inl h
          · exact .inr (.inr h)
        · rintro (h | h | h)
          · exact .inr (.inl h)
          · exact .inl h
          · exact .inr (.inr h)
theorem Rises.ins {l : List Int} (h : Rises l) (a : Int) : Rises (ins a l) := by
  induction l with
  | nil => exact List.pairwise_singleton _ _
  | cons b l ih =>
    obtain ⟨h1, h2⟩ := List.pairwise_cons.1 h
    unfold Lk.ins
    by_cases c1 : a < b
    · rw [if_pos c1]
      exact List.pairwise_cons.2 ⟨fun x hx => by
        rcases List.mem_cons.1 hx with rfl | hx
        · exact c1
        · have := h1 x hx; omega, h⟩
    · rw [if_neg c1]
      by_cases c2 : a = b
      · rw [if_pos c2]; exact h
      · rw [if_neg c2]
        exact List.pairwise_cons.2 ⟨fun x hx => by
          rcases (mem_ins a x l).1 hx with rfl | hx
          · omega
          · exact h1 x hx, ih h2⟩
theorem Fin1.of_list (L : List Int) {f : Int → Option α} (h : ∀ x, (f x).isSome = true → x ∈ L) : Fin1 f := by
  have hL : ∃ m, Rises m ∧ ∀ x, x ∈ m ↔ x ∈ L := by
    clear h
    induction L with
    | nil => exact ⟨[], List.Pairwise.nil, fun x => Iff.rfl⟩
    | cons a L ih =>
      obtain ⟨m, h1, h2⟩ := ih
      exact ⟨ins a m, h1.ins a, fun x => by rw [mem_ins, h2, List.mem_cons]⟩
  obtain ⟨m, h1, h2⟩ := hL
  refine ⟨m.filter fun x => (f x).isSome, List.Pairwise.filter _ h1, fun x => ?_⟩
  rw [List.mem_filter, h2]
  exact ⟨fun h => h.2, fun hx => ⟨h x hx, hx⟩⟩
theorem Fin1.upd (h : Fin1 f) (a : Int) (v : Option α) : Fin1 (upd f a v) := by
  obtain ⟨m, -, h2⟩ := h
  refine .of_list (a :: m) fun x hx => ?_
  unfold Lk.upd at hx
  split at hx
  · rename_i e; exact List.mem_cons.2 (.inl e)
  · exact List.mem_cons.2 (.inr ((h2 x).2 hx))
end
theorem len_sub {l m : List Int} (hl : l.Nodup) (h : ∀ x ∈ l, x ∈ m) : l.length ≤ m.length := by
  induction l generalizing m with
  | nil => simp
  | cons a l ih =>
    obtain ⟨h1, h2⟩ := List.nodup_cons.1 hl
    have ha := h a (List.mem_cons_self ..)
    have := ih (m := m.erase a) h2 fun x hx => (List.mem_erase_of_ne (fun e => h1 (by rw [← e]; exact hx))).2 (h x (List.mem_cons_of_mem _ hx))
    rw [List.length_erase_of_mem ha] at this
    have := List.length_pos_of_mem ha
    simp only [List.length_cons]
    omega
theorem supp_less {α β : Type} {f : Int → Option α} {g : Int → Option β} (hf : Fin1 f) (hg : Fin1 g) (h : ∀ x, (g x).isSome = true → (f x).isSome = true) : (supp g).length ≤ (supp f).length :=
  len_sub (supp_rises hg).nodup fun x hx => (supp_mem hf x).2 (h x ((supp_mem hg x).1 hx))

/-! ### One key -/
abbrev Fn := Int → Option Bool
/-- One that holds doesn't go together with x, as it asks. -/
def Blk (h : Fn) (x : Int) (b : Bool) : Prop := ∃ y c, y ≠ x ∧ h y = some c ∧ (c = true ∨ b = true)
open Classical in
/-- Those that are given a key, of those that wait for it, the eldest first. -/
noncomputable def gl : Fn → List (Int × Bool) → List (Int × Bool)
  | h, [] => []
  | h, (x, b) :: l => if Blk h x b then [] else (x, b) :: gl (upd h x (some b)) l
def setL (h : Fn) (l : List (Int × Bool)) : Fn := l.foldl (fun h p => upd h p.1 (some p.2)) h
def delL (w : Fn) (l : List (Int × Bool)) : Fn := l.foldl (fun w p => upd w p.1 none) w
/-- Those of whom something is told, with that. -/
noncomputable def rowOf (f : Fn) : List (Int × Bool) := (supp f).map fun x => (x, (f x).getD false)
theorem rowOf_mem {f : Fn} (h : Fin1 f) (x : Int) (b : Bool) : (x, b) ∈ rowOf f ↔ f x = some b := by
  unfold rowOf
  rw [List.mem_map]
  constructor
  · rintro ⟨y, hy, e⟩
    injection e with e1 e2
    subst e1
    obtain ⟨c, hc⟩ := Option.isSome_iff_exists.1 ((supp_mem h y).1 hy)
    rw [hc] at e2 ⊢
    rw [← e2]; rfl
  · intro hx
    exact ⟨x, (supp_mem h x).2 (by rw [hx]; rfl), by rw [hx]; rfl⟩
theorem rowOf_rises {f : Fn} (h : Fin1 f) : (rowOf f).Pairwise fun p q => p.1 < q.1 := by
  unfold rowOf
  exact List.pairwise_map.2 (supp_rises h)
theorem setL_cons (h : Fn) (p : Int × Bool) (l : List (Int × Bool)) : setL h (p :: l) = setL (upd h p.1 (some p.2)) l := rfl
theorem delL_cons (h : Fn) (p : Int × Bool) (l : List (Int × Bool)) : delL h (p :: l) = delL (upd h p.1 none) l := rfl
theorem setL_out {x : Int} : ∀ (l : List (Int × Bool)) (h : Fn), (∀ p ∈ l, p.1 ≠ x) → setL h l x = h x
  | [], _, _ => rfl
  | p :: l, h, hl => by
    rw [setL_cons, setL_out l _ fun q hq => hl q (List.mem_cons_of_mem _ hq), upd_other _ (fun e => hl p (List.mem_cons_self ..) e.symm)]
theorem delL_out {x : Int} : ∀ (l : List (Int × Bool)) (h : Fn), (∀ p ∈ l, p.1 ≠ x) → delL h l x = h x
  | [], _, _ => rfl
  | p :: l, h, hl => by
    rw [delL_cons, delL_out l _ fun q hq => hl q (List.mem_cons_of_mem _ hq), upd_other _ (fun e => hl p (List.mem_cons_self ..) e.symm)]
theorem delL_none {x : Int} : ∀ (l : List (Int × Bool)) (h : Fn), h x = none → delL h l x = none
  | [], _, h => h
  | p :: l, w, h => by
    rw [delL_cons]
    refine delL_none l _ ?_
    unfold upd
    split
    · rfl
    · exact h
theorem delL_in {x : Int} : ∀ (l : List (Int × Bool)) (h : Fn), (∃ p ∈ l, p.1 = x) → delL h l x = none
  | [], _, ⟨p, hp, _⟩ => by cases hp
  | p :: l, w, ⟨q, hq, e⟩ => by
    rw [delL_cons]
    rcases List.mem_cons.1 hq with rfl | hq
    · exact delL_none l _ (by rw [← e, upd_same])
    · exact delL_in l _ ⟨q, hq, e⟩
theorem setL_in {x : Int} {b : Bool} : ∀ (l : List (Int × Bool)) (h : Fn), l.Pairwise (fun p q => p.1 < q.1) → (x, b) ∈ l → setL h l x = some b
  | [], _, _, hp => by cases hp
  | p :: l, h, hl, hx => by
    obtain ⟨h1, h2⟩ := List.pairwise_cons.1 hl
    rw [setL_cons]
    rcases List.mem_cons.1 hx with e | hx
    · subst e
      rw [setL_out l _ fun q hq e => by have := h1 q hq; simp only at this; omega]
      exact upd_same _ _ _
    · exact setL_in l _ h2 hx
theorem gl_sub : ∀ (l : List (Int × Bool)) (h : Fn), (gl h l).Sublist l
  | [], h => by unfold gl; exact List.Sublist.refl _
  | (x, b) :: l, h => by
    unfold gl
    split
    · exact List.nil_sublist _
    · exact (gl_sub l _).cons_cons _
theorem gl_mem {l : List (Int × Bool)} {h : Fn} {p : Int × Bool} (hp : p ∈ gl h l) : p ∈ l := (gl_sub l h).mem hp
/-- What holds of each key between calls, but that it doesn't lie idle. -/
structure Rok (h w : Fn) : Prop where
  tog : ∀ x y a b, x ≠ y → h x = some a → h y = some b → a = false ∧ b = false
  up : ∀ x a b, h x = some a → w x = some b → a = false ∧ b = true
  yng : ∀ x b y c, w x = some b → h y = some c → x < y → b = false ∧ c = false
/-- It doesn't lie idle. -/
def Idle (h w : Fn) : Prop := ∀ x b, w x = some b → (∀ y, (w y).isSome = true → x ≤ y) → Blk h x b
theorem Rok.less {h w h' w' : Fn} (r : Rok h w) (h1 : ∀ x c, h' x = some c → h x = some c) (h2 : ∀ x c, w' x = some c → w x = some c) : Rok h' w' :=
  ⟨fun x y a b n p q => r.tog x y a b n (h1 _ _ p) (h1 _ _ q), fun x a b p q => r.up x a b (h1 _ _ p) (h2 _ _ q), fun x b y c p q l => r.yng x b y c (h2 _ _ p) (h1 _ _ q) l⟩
theorem give_ok : ∀ (l : List (Int × Bool)) (h w : Fn), Rok h w → l.Pairwise (fun p q => p.1 < q.1) → (∀ x b, (x, b) ∈ l ↔ w x = some b) →
    Rok (setL h (gl h l)) (delL w (gl h l)) ∧ Idle (setL h (gl h l)) (delL w (gl h l))
  | [], h, w, r, hl, hw => by
    unfold gl
    refine ⟨r, fun x b hx => ?_⟩
    have := (hw x b).2 hx
    cases this
  | (x, b) :: l, h, w, r, hl, hw => by
    obtain ⟨h1, h2⟩ := List.pairwise_cons.1 hl
    have hx := (hw x b).1 (List.mem_cons_self ..)
    unfold gl
    split
    · rename_i hb
      refine ⟨r, fun y c hy hmin => ?_⟩
      have hyx : y = x := by
        have := hmin x (show (w x).isSome = true by rw [hx]; rfl)
        rcases List.mem_cons.1 ((hw y c).2 hy) with e | hm
        · injection e
        · have := h1 _ hm; simp only at this; omega
      subst hyx
      have : c = b := by have := hx.symm.trans hy; injection this with this; exact this.symm
      subst this
      exact hb
    · rename_i hb
      have nb : ∀ y c, y ≠ x → h y = some c → c = false ∧ b = false := fun y c hy hc => by
        by_cases e1 : c = true
        · exact absurd ⟨y, c, hy, hc, .inl e1⟩ hb
        · by_cases e2 : b = true
          · exact absurd ⟨y, c, hy, hc, .inr e2⟩ hb
          · exact ⟨by simpa using e1, by simpa using e2⟩
      rw [setL_cons, delL_cons]
      refine give_ok l (upd h x (some b)) (upd w x none) ⟨?_, ?_, ?_⟩ h2 fun y c => ?_
      · intro y z p q n hy hz
        unfold upd at hy hz
        by_cases e1 : y = x
        · rw [if_pos e1] at hy
          rw [if_neg (fun e => n (e1.trans e.symm))] at hz
          injection hy with hy
          have := nb z q (fun e => n (e1.trans e.symm)) hz
          exact ⟨hy ▸ this.2, this.1⟩
        · rw [if_neg e1] at hy
          by_cases e2 : z = x
          · rw [if_pos e2] at hz
            injection hz with hz
            have := nb y p e1 hy
            exact ⟨this.1, hz ▸ this.2⟩
          · rw [if_neg e2] at hz
            exact r.tog y z p q n hy hz
      · intro y p q hy hz
        unfold upd at hy hz
        by_cases e1 : y = x
        · rw [if_pos e1] at hz; cases hz
        · rw [if_neg e1] at hy hz
          exact r.up y p q hy hz
      · intro y p z q hy hz hlt
        unfold upd at hy hz
        by_cases e1 : y = x
        · rw [if_pos e1] at hy; cases hy
        · rw [if_neg e1] at hy
          by_cases e2 : z = x
          · have := (hw y p).2 hy
            rcases List.mem_cons.1 this with e | hm
            · injection e with e; exact absurd e e1
            · have := h1 _ hm; simp only at this; omega
          · rw [if_neg e2] at hz
            exact r.yng y p z q hy hz hlt
      · unfold upd
        by_cases e1 : y = x
        · rw [if_pos e1]
          subst e1
          exact ⟨fun hm => by have := h1 _ hm; simp only at this; omega, fun h => by cases h⟩
        · rw [if_neg e1, ← hw y c, List.mem_cons]
          exact ⟨fun h => .inr h, fun h => by
            rcases h with h | h
            · injection h with h; exact absurd h e1
            · exact h⟩
/-- The eldest one that waits has it where nobody holds it. -/
theorem gl_free {h : Fn} {l : List (Int × Bool)} (hh : ∀ x, h x = none) (hl : l ≠ []) : gl h l ≠ [] := by
  match l, hl with
  | (x, b) :: l, _ =>
    unfold gl
    rw [if_neg]
    · simp
    · rintro ⟨y, c, -, hy, -⟩
      rw [hh] at hy; cases hy
end Go.Lk
