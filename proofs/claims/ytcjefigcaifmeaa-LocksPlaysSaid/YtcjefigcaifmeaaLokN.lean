/- Locks: the plain mathematics of layer 13 (no program): a table, what holds of it always, and what each call makes of it. -/
import Derived.Test.YtcjefigcaifmeaaLokM
namespace Go.Lk
set_option linter.unusedVariables false

/-- A table: who holds, who waits (by keys), which keys have a row; who has asked and hasn't ended, with which keys, who waits, who is dead. -/
structure Tb where
  h : Int → Fn
  w : Int → Fn
  row : Int → Bool
  inn : Int → Bool
  ks : Int → Int → Bool
  waits : Int → Bool
  dead : Int → Bool
def newT : Tb := ⟨fun _ _ => none, fun _ _ => none, fun _ => false, fun _ => false, fun _ _ => false, fun _ => false, fun _ => false⟩
def isK (k : Int) : Bool := decide (0 ≤ k ∧ k < 8192)
theorem isK_iff (k : Int) : isK k = true ↔ 0 ≤ k ∧ k < 8192 := by unfold isK; rw [decide_eq_true_eq]
def innF (s : Tb) : Int → Option Unit := fun x => if s.inn x then some () else none
/-- What holds of each table; of the keys K it isn't known that they don't lie idle. -/
structure Mid (s : Tb) (K : Int → Prop) : Prop where
  hin : ∀ k x c, s.h k x = some c → s.ks x k = true ∧ s.row k = true
  win : ∀ k x c, s.w k x = some c → s.ks x k = true ∧ s.row k = true
  ksx : ∀ x k, s.ks x k = true → s.inn x = true ∧ isK k = true ∧ ((s.h k x).isSome = true ∨ (s.w k x).isSome = true)
  inn64 : ∀ x, s.inn x = true → 1 ≤ x ∧ x ≤ 9223372036854775807
  rowk : ∀ k, s.row k = true → isK k = true ∧ (K k ∨ ∃ x, (s.h k x).isSome = true)
  kr : ∀ k, K k → s.row k = true
  wts : ∀ x, s.waits x = true ↔ ∃ k, (s.w k x).isSome = true
  one : ∀ j k x, (s.w j x).isSome = true → (s.w k x).isSome = true → j = k
  dd : ∀ x, s.dead x = true → s.inn x = true ∧ ∀ k, s.h k x = none ∧ s.w k x = none
  ok : ∀ k, Rok (s.h k) (s.w k)
  idle : ∀ k, ¬ K k → Idle (s.h k) (s.w k)
  fin : Fin1 (innF s)
abbrev Fine (s : Tb) : Prop := Mid s fun _ => False
theorem Fine.new : Fine newT :=
  ⟨fun k x c h => (by cases h), fun k x c h => (by cases h), fun x k h => (by cases h), fun x h => (by cases h), fun k h => (by cases h), fun k h => h.elim, fun x => ⟨fun h => (by cases h), fun ⟨k, h⟩ => (by cases h)⟩,
    fun j k x h => (by cases h), fun x h => (by cases h), fun k => ⟨fun x y a b n h => (by cases h), fun x a b h => (by cases h), fun x b y c h => (by cases h)⟩, fun k _ x b h => (by cases h), .of_list [] fun x h => (by cases h)⟩
section
variable {s : Tb} {K K' : Int → Prop}
theorem Mid.congr (m : Mid s K) (h : ∀ k, K' k ↔ K k) : Mid s K' := by
  have : K' = K := funext fun k => propext (h k)
  rw [this]; exact m
theorem some_of {α : Type} {o : Option α} (h : o.isSome = true) : ∃ c, o = some c := Option.isSome_iff_exists.1 h
theorem Mid.hks (m : Mid s K) {k x : Int} (h : (s.h k x).isSome = true) : s.ks x k = true := by obtain ⟨c, hc⟩ := some_of h; exact (m.hin k x c hc).1
theorem Mid.wks (m : Mid s K) {k x : Int} (h : (s.w k x).isSome = true) : s.ks x k = true := by obtain ⟨c, hc⟩ := some_of h; exact (m.win k x c hc).1
theorem Mid.hinn (m : Mid s K) {k x : Int} (h : (s.h k x).isSome = true) : s.inn x = true := (m.ksx x k (m.hks h)).1
theorem Mid.winn (m : Mid s K) {k x : Int} (h : (s.w k x).isSome = true) : s.inn x = true := (m.ksx x k (m.wks h)).1
theorem innF_iff (s : Tb) (x : Int) : (innF s x).isSome = true ↔ s.inn x = true := by unfold innF; split <;> simp_all
theorem Mid.finh (m : Mid s K) (k : Int) : Fin1 (s.h k) := m.fin.less fun x h => (innF_iff s x).2 (m.hinn h)
theorem Mid.finw (m : Mid s K) (k : Int) : Fin1 (s.w k) := m.fin.less fun x h => (innF_iff s x).2 (m.winn h)
theorem none_of {α : Type} {o : Option α} (h : ¬ o.isSome = true) : o = none := by cases o <;> simp_all
end

/-! ### One is let go -/
def freeS (s : Tb) (x : Int) : Tb :=
  { s with h := fun k y => if y = x then none else s.h k y, w := fun k y => if y = x then none else s.w k y, ks := upd s.ks x fun _ => false, waits := upd s.waits x false }
def killS (s : Tb) (x : Int) : Tb := { freeS s x with dead := upd s.dead x true }
def goS (s : Tb) (x : Int) : Tb := { freeS s x with inn := upd s.inn x false, dead := upd s.dead x false }
section
variable {s : Tb} {K : Int → Prop}
theorem drop_some {f : Int → Option Bool} {x y : Int} {c : Bool} (h : (if y = x then none else f y) = some c) : y ≠ x ∧ f y = some c := by
  by_cases e : y = x
  · rw [if_pos e] at h; cases h
  · rw [if_neg e] at h; exact ⟨e, h⟩
theorem drop_isSome {f : Int → Option Bool} {x y : Int} (h : (if y = x then none else f y).isSome = true) : y ≠ x ∧ (f y).isSome = true := by
  by_cases e : y = x
  · rw [if_pos e] at h; cases h
  · rw [if_neg e] at h; exact ⟨e, h⟩
/-- What is common to both ends of one. -/
theorem Mid.drop (m : Mid s K) (x : Int) (t : Tb) (th : t.h = (freeS s x).h) (tw : t.w = (freeS s x).w) (tk : t.ks = (freeS s x).ks) (tr : t.row = s.row) (ts : t.waits = (freeS s x).waits)
    (ti : ∀ y, t.inn y = true → s.inn y = true) (ti2 : ∀ y, y ≠ x → s.inn y = true → t.inn y = true) (td : ∀ y, t.dead y = true → t.inn y = true ∧ (y = x ∨ s.dead y = true)) : Mid t fun k => K k ∨ s.ks x k = true := by
  refine ⟨fun k y c hc => ?_, fun k y c hc => ?_, fun y k hy => ?_, fun y hy => m.inn64 y (ti y hy), fun k hk => ?_, fun k hk => ?_, fun y => ?_, fun j k y h1 h2 => ?_, fun y hy => ?_, fun k => ?_, fun k hk => ?_, ?_⟩
  · rw [th] at hc
    obtain ⟨e, hc⟩ := drop_some hc
    have := m.hin k y c hc
    rw [tk, tr]
    exact ⟨by show upd s.ks x _ y k = true; rw [upd_other _ e]; exact this.1, this.2⟩
  · rw [tw] at hc
    obtain ⟨e, hc⟩ := drop_some hc
    have := m.win k y c hc
    rw [tk, tr]
    exact ⟨by show upd s.ks x _ y k = true; rw [upd_other _ e]; exact this.1, this.2⟩
  · rw [tk] at hy
    replace hy : upd s.ks x (fun _ => false) y k = true := hy
    by_cases e : y = x
    · rw [e, upd_same] at hy; cases hy
    · rw [upd_other _ e] at hy
      obtain ⟨h1, h2, h3⟩ := m.ksx y k hy
      refine ⟨ti2 y e h1, h2, ?_⟩
      rw [th, tw]
      show (if y = x then none else s.h k y).isSome = true ∨ (if y = x then none else s.w k y).isSome = true
      rw [if_neg e, if_neg e]
      exact h3
  · rw [tr] at hk
    obtain ⟨h1, h2⟩ := m.rowk k hk
    refine ⟨h1, ?_⟩
    rcases h2 with h2 | ⟨y, hy⟩
    · exact .inl (.inl h2)
    · by_cases e : y = x
      · exact .inl (.inr (e ▸ m.hks hy))
      · refine .inr ⟨y, ?_⟩
        rw [th]
        show (if y = x then none else s.h k y).isSome = true
        rw [if_neg e]; exact hy
  · rw [tr]
    rcases hk with hk | hk
    · exact m.kr k hk
    · obtain ⟨-, -, h⟩ := m.ksx x k hk
      rcases h with h | h
      · obtain ⟨c, hc⟩ := some_of h; exact (m.hin k x c hc).2
      · obtain ⟨c, hc⟩ := some_of h; exact (m.win k x c hc).2
  · rw [ts, tw]
    show upd s.waits x false y = true ↔ ∃ k, (if y = x then none else s.w k y).isSome = true
    by_cases e : y = x
    · rw [e, upd_same]
      simp
    · rw [upd_other _ e]
      simp only [if_neg e]
      exact m.wts y
  · rw [tw] at h1 h2
    exact m.one j k y (drop_isSome h1).2 (drop_isSome h2).2
  · obtain ⟨h1, h2⟩ := td y hy
    refine ⟨h1, fun k => ?_⟩
    rw [th, tw]
    show (if y = x then none else s.h k y) = none ∧ (if y = x then none else s.w k y) = none
    by_cases e : y = x
    · rw [if_pos e, if_pos e]; exact ⟨rfl, rfl⟩
    · rw [if_neg e, if_neg e]
      rcases h2 with h2 | h2
      · exact absurd h2 e
      · exact (m.dd y h2).2 k
  · rw [th, tw]
    exact (m.ok k).less (fun y c h => (drop_some h).2) fun y c h => (drop_some h).2
  · have h1 : ¬ K k := fun h => hk (.inl h)
    have h2 : ¬ s.ks x k = true := fun h => hk (.inr h)
    have e1 : t.h k = s.h k := by
      rw [th]; funext y
      show (if y = x then none else s.h k y) = s.h k y
      by_cases e : y = x
      · rw [if_pos e, e]; exact (none_of fun h => h2 (m.hks h)).symm
      · rw [if_neg e]
    have e2 : t.w k = s.w k := by
      rw [tw]; funext y
      show (if y = x then none else s.w k y) = s.w k y
      by_cases e : y = x
      · rw [if_pos e, e]; exact (none_of fun h => h2 (m.wks h)).symm
      · rw [if_neg e]
    rw [e1, e2]
    exact m.idle k h1
  · exact m.fin.less fun y hy => (innF_iff s y).2 (ti y ((innF_iff t y).1 hy))
theorem Mid.kill (m : Mid s K) {x : Int} (hx : s.inn x = true) : Mid (killS s x) fun k => K k ∨ s.ks x k = true :=
  m.drop x (killS s x) rfl rfl rfl rfl rfl (fun y h => h) (fun y _ h => h) fun y h => by
    replace h : upd s.dead x true y = true := h
    by_cases e : y = x
    · exact ⟨e ▸ hx, .inl e⟩
    · rw [upd_other _ e] at h
      exact ⟨(m.dd y h).1, .inr h⟩
theorem Mid.go (m : Mid s K) (x : Int) : Mid (goS s x) fun k => K k ∨ s.ks x k = true :=
  m.drop x (goS s x) rfl rfl rfl rfl rfl (fun y h => by
    replace h : upd s.inn x false y = true := h
    by_cases e : y = x
    · rw [e, upd_same] at h; cases h
    · rwa [upd_other _ e] at h) (fun y e h => by show upd s.inn x false y = true; rw [upd_other _ e]; exact h) fun y h => by
    replace h : upd s.dead x false y = true := h
    by_cases e : y = x
    · rw [e, upd_same] at h; cases h
    · rw [upd_other _ e] at h
      exact ⟨by show upd s.inn x false y = true; rw [upd_other _ e]; exact (m.dd y h).1, .inr h⟩
end
def killsS (s : Tb) (l : List Int) : Tb := l.foldl killS s
theorem killsS_cons (s : Tb) (x : Int) (l : List Int) : killsS s (x :: l) = killsS (killS s x) l := rfl
theorem Mid.kills : ∀ (l : List Int) {s : Tb} {K : Int → Prop}, Mid s K → l.Nodup → (∀ y ∈ l, s.inn y = true) → Mid (killsS s l) fun k => K k ∨ ∃ y ∈ l, s.ks y k = true
  | [], s, K, m, _, _ => m.congr fun k => by simp
  | x :: l, s, K, m, hn, hi => by
    obtain ⟨h1, h2⟩ := List.nodup_cons.1 hn
    have := Mid.kills l (m.kill (hi x (List.mem_cons_self ..))) h2 fun y hy => hi y (List.mem_cons_of_mem _ hy)
    refine this.congr fun k => ?_
    have hks : ∀ y ∈ l, (killS s x).ks y k = s.ks y k := fun y hy => by
      show upd s.ks x _ y k = _
      rw [upd_other _ (fun e => h1 (by rw [← e]; exact hy))]
    constructor
    · rintro (h | ⟨y, hy, h⟩)
      · exact .inl (.inl h)
      · rcases List.mem_cons.1 hy with rfl | hy
        · exact .inl (.inr h)
        · exact .inr ⟨y, hy, (hks y hy).trans h⟩
    · rintro ((h | h) | ⟨y, hy, h⟩)
      · exact .inl h
      · exact .inr ⟨x, List.mem_cons_self .., h⟩
      · exact .inr ⟨y, List.mem_cons_of_mem _ hy, (hks y hy).symm.trans h⟩
theorem kills_out : ∀ (l : List Int) (s : Tb) {y : Int}, y ∉ l → (∀ k, (killsS s l).h k y = s.h k y) ∧ (∀ k, (killsS s l).w k y = s.w k y) ∧ (killsS s l).waits y = s.waits y ∧ (killsS s l).dead y = s.dead y
  | [], s, y, _ => ⟨fun _ => rfl, fun _ => rfl, rfl, rfl⟩
  | x :: l, s, y, hy => by
    have e : y ≠ x := fun e => hy (by rw [e]; exact List.mem_cons_self ..)
    obtain ⟨h1, h2, h3, h4⟩ := kills_out l (killS s x) (y := y) fun h => hy (List.mem_cons_of_mem _ h)
    rw [killsS_cons]
    exact ⟨fun k => (h1 k).trans (if_neg e), fun k => (h2 k).trans (if_neg e), h3.trans (upd_other _ e _), h4.trans (upd_other _ e _)⟩
theorem kills_none : ∀ (l : List Int) (s : Tb) {y : Int}, (∀ k, s.h k y = none ∧ s.w k y = none) → ∀ k, (killsS s l).h k y = none ∧ (killsS s l).w k y = none
  | [], s, y, h, k => h k
  | x :: l, s, y, h, k => by
    rw [killsS_cons]
    refine kills_none l (killS s x) (fun j => ?_) k
    show (if y = x then none else s.h j y) = none ∧ (if y = x then none else s.w j y) = none
    split
    · exact ⟨rfl, rfl⟩
    · exact h j
theorem kills_in : ∀ (l : List Int) (s : Tb) {y : Int}, y ∈ l → ∀ k, (killsS s l).h k y = none ∧ (killsS s l).w k y = none
  | x :: l, s, y, hy, k => by
    rw [killsS_cons]
    rcases List.mem_cons.1 hy with rfl | hy
    · exact kills_none l (killS s y) (fun j => ⟨if_pos rfl, if_pos rfl⟩) k
    · exact kills_in l (killS s x) hy k
theorem kills_inn : ∀ (l : List Int) (s : Tb), (killsS s l).inn = s.inn ∧ (killsS s l).row = s.row
  | [], s => ⟨rfl, rfl⟩
  | x :: l, s => by rw [killsS_cons]; exact kills_inn l (killS s x)

/-! ### One waits -/
def waitS (s : Tb) (x : Int) (b : Bool) (k : Int) : Tb :=
  { s with row := upd s.row k true, inn := upd s.inn x true, w := upd s.w k (upd (s.w k) x (some b)), ks := upd s.ks x (upd (s.ks x) k true), waits := upd s.waits x true }
section
variable {s : Tb} {K : Int → Prop}
theorem upd_true {f : Int → Bool} {a x : Int} (h : f x = true) : upd f a true x = true := by
  unfold upd
  split
  · rfl
  · exact h
theorem waitS_w (s : Tb) (x : Int) (b : Bool) (k j y : Int) : (waitS s x b k).w j y = if j = k ∧ y = x then some b else s.w j y := by
  show upd s.w k _ j y = _
  by_cases e : j = k
  · subst e
    rw [upd_same]
    by_cases e2 : y = x
    · rw [e2, upd_same, if_pos ⟨rfl, rfl⟩]
    · rw [upd_other _ e2, if_neg (fun h => e2 h.2)]
  · rw [upd_other _ e, if_neg (fun h => e h.1)]
theorem waitS_ks (s : Tb) (x : Int) (b : Bool) (k j y : Int) : (waitS s x b k).ks y j = if j = k ∧ y = x then true else s.ks y j := by
  show upd s.ks x _ y j = _
  by_cases e : y = x
  · subst e
    rw [upd_same]
    by_cases e2 : j = k
    · rw [e2, upd_same, if_pos ⟨rfl, rfl⟩]
    · rw [upd_other _ e2, if_neg (fun h => e2 h.1)]
  · rw [upd_other _ e, if_neg (fun h => e h.2)]
theorem Mid.wait (m : Mid s K) {x k : Int} {b : Bool} (hk : isK k = true) (hx : 1 ≤ x ∧ x ≤ 9223372036854775807) (hd : s.dead x = false) (hw : s.waits x = false) (hh : ∀ c, s.h k x = some c → c = false ∧ b = true) (hy : ∀ y c, s.h k y = some c → x < y → c = false ∧ b = false) :
    Mid (waitS s x b k) fun j => K j ∨ j = k := by
  have nw : ∀ j, s.w j x = none := fun j => none_of fun h => by
    have := (m.wts x).2 ⟨j, h⟩
    rw [hw] at this; cases this
  refine ⟨fun j y c hc => ?_, fun j y c hc => ?_, fun y j hy2 => ?_, fun y hy2 => ?_, fun j hj => ?_, fun j hj => ?_, fun y => ?_, fun i j y h1 h2 => ?_, fun y hy2 => ?_, fun j => ⟨fun y z p q n h1 h2 => (m.ok j).tog y z p q n h1 h2, fun y p q h1 h2 => ?_, fun y p z q h1 h2 hlt => ?_⟩, fun j hj => ?_, ?_⟩
  · have := m.hin j y c hc
    rw [waitS_ks]
    exact ⟨by split; rfl; exact this.1, upd_true this.2⟩
  · rw [waitS_w] at hc
    rw [waitS_ks]
    by_cases e : j = k ∧ y = x
    · rw [if_pos e]
      exact ⟨rfl, by rw [e.1]; exact upd_same _ _ _⟩
    · rw [if_neg e] at hc ⊢
      have := m.win j y c hc
      exact ⟨this.1, upd_true this.2⟩
  · rw [waitS_ks] at hy2
    rw [waitS_w]
    by_cases e : j = k ∧ y = x
    · rw [if_pos e]
      exact ⟨by rw [e.2]; exact upd_same _ _ _, by rw [e.1]; exact hk, .inr rfl⟩
    · rw [if_neg e] at hy2 ⊢
      have := m.ksx y j hy2
      exact ⟨upd_true this.1, this.2⟩
  · replace hy2 : upd s.inn x true y = true := hy2
    by_cases e : y = x
    · rw [e]; exact hx
    · rw [upd_other _ e] at hy2
      exact m.inn64 y hy2
  · replace hj : upd s.row k true j = true := hj
    by_cases e : j = k
    · exact ⟨e ▸ hk, .inl (.inr e)⟩
    · rw [upd_other _ e] at hj
      obtain ⟨h1, h2⟩ := m.rowk j hj
      exact ⟨h1, h2.imp .inl id⟩
  · show upd s.row k true j = true
    rcases hj with h | h
    · exact upd_true (m.kr j h)
    · rw [h]; exact upd_same _ _ _
  · show upd s.waits x true y = true ↔ _
    simp only [waitS_w]
    by_cases e : y = x
    · rw [e, upd_same]
      exact ⟨fun _ => ⟨k, by rw [if_pos ⟨rfl, rfl⟩]; rfl⟩, fun _ => rfl⟩
    · rw [upd_other _ e, m.wts y]
      simp only [e, and_false, if_false]
  · rw [waitS_w] at h1 h2
    by_cases e : y = x
    · subst e
      have g : ∀ j, (if j = k ∧ y = y then some b else s.w j y).isSome = true → j = k := fun j h => by
        by_cases e2 : j = k
        · exact e2
        · rw [if_neg (fun h => e2 h.1), nw] at h; cases h
      rw [g i h1, g j h2]
    · rw [if_neg (fun h => e h.2)] at h1 h2
      exact m.one i j y h1 h2
  · obtain ⟨h1, h2⟩ := m.dd y hy2
    refine ⟨upd_true h1, fun j => ⟨(h2 j).1, ?_⟩⟩
    rw [waitS_w, if_neg (fun e => by
      have hy3 : s.dead y = true := hy2
      rw [e.2, hd] at hy3; cases hy3)]
    exact (h2 j).2
  · rw [waitS_w] at h2
    by_cases e : j = k ∧ y = x
    · rw [if_pos e] at h2
      injection h2 with h2
      obtain ⟨rfl, rfl⟩ := e
      rw [← h2]
      exact hh p h1
    · rw [if_neg e] at h2
      exact (m.ok j).up y p q h1 h2
  · rw [waitS_w] at h1
    by_cases e : j = k ∧ y = x
    · rw [if_pos e] at h1
      injection h1 with h1
      obtain ⟨rfl, rfl⟩ := e
      rw [← h1]
      have := hy z q h2 hlt
      exact ⟨this.2, this.1⟩
    · rw [if_neg e] at h1
      exact (m.ok j).yng y p z q h1 h2 hlt
  · have h1 : ¬ K j := fun h => hj (.inl h)
    have h2 : j ≠ k := fun h => hj (.inr h)
    have : (waitS s x b k).w j = s.w j := upd_other _ h2 _
    rw [this]
    exact m.idle j h1
  · have : innF (waitS s x b k) = upd (innF s) x (some ()) := by
      funext y
      show (if upd s.inn x true y = true then some () else none) = _
      by_cases e : y = x
      · rw [e, upd_same, upd_same, if_pos rfl]
      · rw [upd_other _ e, upd_other _ e]; rfl
    rw [this]
    exact m.fin.upd x _
end

/-! ### A key is given -/
noncomputable def G1 (s : Tb) (k : Int) : List (Int × Bool) := gl (s.h k) (rowOf (s.w k))
open Classical in
noncomputable def giveK (s : Tb) (k : Int) : Tb :=
  { s with h := upd s.h k (setL (s.h k) (G1 s k)), w := upd s.w k (delL (s.w k) (G1 s k)), row := upd s.row k (decide (∃ x, (setL (s.h k) (G1 s k) x).isSome = true)), waits := fun x => if ∃ b, (x, b) ∈ G1 s k then false else s.waits x }
noncomputable def giveS (s : Tb) (K : List Int) : Tb := K.foldl giveK s
section
variable {s : Tb} {K : Int → Prop}
theorem Mid.g1 (m : Mid s K) (k : Int) : (G1 s k).Pairwise (fun p q => p.1 < q.1) ∧ ∀ x b, (x, b) ∈ G1 s k → s.w k x = some b :=
  ⟨(rowOf_rises (m.finw k)).sublist (gl_sub _ _), fun x b h => (rowOf_mem (m.finw k) x b).1 (gl_mem h)⟩
theorem set_some {h : Fn} {l : List (Int × Bool)} (hl : l.Pairwise fun p q => p.1 < q.1) {x : Int} {c : Bool} (hx : setL h l x = some c) : (x, c) ∈ l ∨ ((∀ b, (x, b) ∉ l) ∧ h x = some c) := by
  by_cases e : ∃ b, (x, b) ∈ l
  · obtain ⟨b, hb⟩ := e
    rw [setL_in l h hl hb] at hx
    injection hx with hx
    subst hx
    exact .inl hb
  · have : ∀ b, (x, b) ∉ l := fun b hb => e ⟨b, hb⟩
    rw [setL_out l h fun p hp hpx => this p.2 (by rw [← hpx]; exact hp)] at hx
    exact .inr ⟨this, hx⟩
theorem set_isSome {h : Fn} {l : List (Int × Bool)} (hl : l.Pairwise fun p q => p.1 < q.1) {x : Int} (hx : (h x).isSome = true ∨ ∃ b, (x, b) ∈ l) : (setL h l x).isSome = true := by
  by_cases e : ∃ b, (x, b) ∈ l
  · obtain ⟨b, hb⟩ := e
    rw [setL_in l h hl hb]; rfl
  · rw [setL_out l h fun p hp hpx => e ⟨p.2, by rw [← hpx]; exact hp⟩]
    rcases hx with hx | hx
    · exact hx
    · exact absurd hx e
theorem del_some {w : Fn} {l : List (Int × Bool)} {x : Int} {c : Bool} (hx : delL w l x = some c) : (∀ b, (x, b) ∉ l) ∧ w x = some c := by
  by_cases e : ∃ b, (x, b) ∈ l
  · obtain ⟨b, hb⟩ := e
    rw [delL_in l w ⟨_, hb, rfl⟩] at hx; cases hx
  · have : ∀ b, (x, b) ∉ l := fun b hb => e ⟨b, hb⟩
    rw [delL_out l w fun p hp hpx => this p.2 (by rw [← hpx]; exact hp)] at hx
    exact ⟨this, hx⟩
theorem del_keep {w : Fn} {l : List (Int × Bool)} {x : Int} (h : ∀ b, (x, b) ∉ l) : delL w l x = w x := delL_out l w fun p hp hpx => h p.2 (by rw [← hpx]; exact hp)
open Classical in
theorem Mid.give (m : Mid s K) {k : Int} (hk : K k) : Mid (giveK s k) fun j => K j ∧ j ≠ k := by
  obtain ⟨gr, gw⟩ := m.g1 k
  obtain ⟨gok, gid⟩ := give_ok (rowOf (s.w k)) (s.h k) (s.w k) (m.ok k) (rowOf_rises (m.finw k)) fun x b => rowOf_mem (m.finw k) x b
  replace gok : Rok (setL (s.h k) (G1 s k)) (delL (s.w k) (G1 s k)) := gok
  replace gid : Idle (setL (s.h k) (G1 s k)) (delL (s.w k) (G1 s k)) := gid
  have eh : ∀ j, (giveK s k).h j = if j = k then setL (s.h k) (G1 s k) else s.h j := fun j => rfl
  have ew : ∀ j, (giveK s k).w j = if j = k then delL (s.w k) (G1 s k) else s.w j := fun j => rfl
  have hany : ∀ x, ((giveK s k).h k x).isSome = true ↔ ((s.h k x).isSome = true ∨ ∃ b, (x, b) ∈ G1 s k) := fun x => by
    rw [eh, if_pos rfl]
    refine ⟨fun h => ?_, set_isSome gr⟩
    obtain ⟨c, hc⟩ := some_of h
    rcases set_some gr hc with h | ⟨-, h⟩
    · exact .inr ⟨c, h⟩
    · exact .inl (by rw [h]; rfl)
  have holder : (∃ x, ((s.h k x).isSome = true ∨ (s.w k x).isSome = true)) → ∃ x, (setL (s.h k) (G1 s k) x).isSome = true := by
    rintro ⟨x, hx⟩
    by_cases e : ∃ y, (s.h k y).isSome = true
    · obtain ⟨y, hy⟩ := e
      exact ⟨y, set_isSome gr (.inl hy)⟩
    · have hw : (s.w k x).isSome = true := hx.resolve_left fun h => e ⟨x, h⟩
      have hne : rowOf (s.w k) ≠ [] := fun e2 => by
        obtain ⟨c, hc⟩ := some_of hw
        have := (rowOf_mem (m.finw k) x c).2 hc
        rw [e2] at this; cases this
      have := gl_free (h := s.h k) (fun y => none_of fun h => e ⟨y, h⟩) hne
      obtain ⟨p, hp⟩ := List.exists_mem_of_ne_nil _ this
      exact ⟨p.1, set_isSome gr (.inr ⟨p.2, hp⟩)⟩
  have rowE : ∀ j, (giveK s k).row j = true ↔ (j ≠ k ∧ s.row j = true) ∨ (j = k ∧ ∃ x, (setL (s.h k) (G1 s k) x).isSome = true) := fun j => by
    show upd s.row k _ j = true ↔ _
    by_cases e : j = k
    · subst e
      rw [upd_same]
      exact ⟨fun h => .inr ⟨rfl, of_decide_eq_true h⟩, fun h => by
        rcases h with h | h
        · exact absurd rfl h.1
        · exact decide_eq_true h.2⟩
    · rw [upd_other _ e]
      simp [e]
  refine ⟨fun j x c hc => ?_, fun j x c hc => ?_, fun x j hx => ?_, m.inn64, fun j hj => ?_, fun j hj => ?_, fun x => ?_, fun i j x h1 h2 => ?_, fun x hx => ?_, fun j => ?_, fun j hj => ?_, m.fin⟩
  · rw [eh] at hc
    by_cases e : j = k
    · subst e
      rw [if_pos rfl] at hc
      refine ⟨?_, (rowE j).2 (.inr ⟨rfl, x, by rw [hc]; rfl⟩)⟩
      rcases set_some gr hc with h | ⟨-, h⟩
      · exact (m.win j x c (gw x c h)).1
      · exact (m.hin j x c h).1
    · rw [if_neg e] at hc
      have := m.hin j x c hc
      exact ⟨this.1, (rowE j).2 (.inl ⟨e, this.2⟩)⟩
  · rw [ew] at hc
    by_cases e : j = k
    · subst e
      rw [if_pos rfl] at hc
      have h := (del_some hc).2
      exact ⟨(m.win j x c h).1, (rowE j).2 (.inr ⟨rfl, holder ⟨x, .inr (by rw [h]; rfl)⟩⟩)⟩
    · rw [if_neg e] at hc
      have := m.win j x c hc
      exact ⟨this.1, (rowE j).2 (.inl ⟨e, this.2⟩)⟩
  · obtain ⟨h1, h2, h3⟩ := m.ksx x j hx
    refine ⟨h1, h2, ?_⟩
    by_cases e : j = k
    · subst e
      by_cases eg : ∃ b, (x, b) ∈ G1 s j
      · exact .inl ((hany x).2 (.inr eg))
      · rcases h3 with h3 | h3
        · exact .inl ((hany x).2 (.inl h3))
        · refine .inr ?_
          rw [ew, if_pos rfl, del_keep fun b hb => eg ⟨b, hb⟩]
          exact h3
    · rw [eh, ew, if_neg e, if_neg e]
      exact h3
  · rcases (rowE j).1 hj with ⟨e, h⟩ | ⟨e, x, h⟩
    · obtain ⟨h1, h2⟩ := m.rowk j h
      refine ⟨h1, ?_⟩
      rcases h2 with h2 | h2
      · exact .inl ⟨h2, e⟩
      · refine .inr ?_
        rw [eh, if_neg e]
        exact h2
    · subst e
      refine ⟨(m.rowk j (m.kr j hk)).1, .inr ⟨x, ?_⟩⟩
      rw [eh, if_pos rfl]
      exact h
  · exact (rowE j).2 (.inl ⟨hj.2, m.kr j hj.1⟩)
  · show (if ∃ b, (x, b) ∈ G1 s k then false else s.waits x) = true ↔ _
    by_cases eg : ∃ b, (x, b) ∈ G1 s k
    · rw [if_pos eg]
      obtain ⟨b, hb⟩ := eg
      refine ⟨fun h => (by cases h), fun ⟨j, hj⟩ => ?_⟩
      rw [ew] at hj
      by_cases e : j = k
      · rw [if_pos e, delL_in _ _ ⟨_, hb, rfl⟩] at hj; cases hj
      · rw [if_neg e] at hj
        exact absurd (m.one j k x hj (by rw [gw x b hb]; rfl)) e
    · rw [if_neg eg, m.wts x]
      constructor
      · rintro ⟨j, hj⟩
        refine ⟨j, ?_⟩
        rw [ew]
        by_cases e : j = k
        · rw [if_pos e, del_keep fun b hb => eg ⟨b, hb⟩, ← e]; exact hj
        · rw [if_neg e]; exact hj
      · rintro ⟨j, hj⟩
        refine ⟨j, ?_⟩
        rw [ew] at hj
        by_cases e : j = k
        · rw [if_pos e, del_keep fun b hb => eg ⟨b, hb⟩, ← e] at hj; exact hj
        · rw [if_neg e] at hj; exact hj
  · have g : ∀ j, ((giveK s k).w j x).isSome = true → (s.w j x).isSome = true := fun j h => by
      rw [ew] at h
      by_cases e : j = k
      · rw [if_pos e] at h
        obtain ⟨c, hc⟩ := some_of h
        rw [e, (del_some hc).2]; rfl
      · rw [if_neg e] at h; exact h
    exact m.one i j x (g i h1) (g j h2)
  · obtain ⟨h1, h2⟩ := m.dd x hx
    refine ⟨h1, fun j => ?_⟩
    rw [eh, ew]
    by_cases e : j = k
    · subst e
      rw [if_pos rfl, if_pos rfl]
      have no : ∀ b, (x, b) ∉ G1 s j := fun b hb => by
        have := gw x b hb
        rw [(h2 j).2] at this; cases this
      rw [del_keep no, setL_out _ _ fun p hp hpx => no p.2 (by rw [← hpx]; exact hp)]
      exact h2 j
    · rw [if_neg e, if_neg e]
      exact h2 j
  · rw [eh, ew]
    by_cases e : j = k
    · rw [if_pos e, if_pos e]; exact gok
    · rw [if_neg e, if_neg e]; exact m.ok j
  · rw [eh, ew]
    by_cases e : j = k
    · rw [if_pos e, if_pos e]; exact gid
    · rw [if_neg e, if_neg e]
      exact m.idle j fun h => hj ⟨h, e⟩
end
theorem giveS_cons (s : Tb) (k : Int) (K : List Int) : giveS s (k :: K) = giveS (giveK s k) K := rfl
theorem Mid.gives : ∀ (K : List Int) {s : Tb} {P : Int → Prop}, Mid s P → K.Nodup → (∀ k ∈ K, P k) → Mid (giveS s K) fun j => P j ∧ j ∉ K
  | [], s, P, m, _, _ => m.congr fun j => by simp
  | k :: K, s, P, m, hn, hP => by
    obtain ⟨h1, h2⟩ := List.nodup_cons.1 hn
    have := Mid.gives K (m.give (hP k (List.mem_cons_self ..))) h2 fun j hj => ⟨hP j (List.mem_cons_of_mem _ hj), fun e => h1 (by rw [← e]; exact hj)⟩
    refine this.congr fun j => ?_
    rw [List.mem_cons, not_or]
    exact ⟨fun ⟨a, b, c⟩ => ⟨⟨a, b⟩, c⟩, fun ⟨⟨a, b⟩, c⟩ => ⟨a, b, c⟩⟩
/-- Other keys' rows are as they were. -/
theorem gives_out : ∀ (K : List Int) (s : Tb) {j : Int}, j ∉ K → (giveS s K).h j = s.h j ∧ (giveS s K).w j = s.w j ∧ (giveS s K).row j = s.row j
  | [], s, j, _ => ⟨rfl, rfl, rfl⟩
  | k :: K, s, j, hj => by
    rw [List.mem_cons, not_or] at hj
    obtain ⟨h1, h2, h3⟩ := gives_out K (giveK s k) (j := j) hj.2
    rw [giveS_cons, h1, h2, h3]
    exact ⟨upd_other _ hj.1 _, upd_other _ hj.1 _, upd_other _ hj.1 _⟩
theorem gives_in : ∀ (K : List Int) (s : Tb) {j : Int}, K.Nodup → j ∈ K → (giveS s K).h j = setL (s.h j) (G1 s j) ∧ (giveS s K).w j = delL (s.w j) (G1 s j)
  | k :: K, s, j, hn, hj => by
    obtain ⟨h1, h2⟩ := List.nodup_cons.1 hn
    rw [giveS_cons]
    by_cases e : j = k
    · subst e
      obtain ⟨g1, g2, -⟩ := gives_out K (giveK s j) h1
      rw [g1, g2]
      exact ⟨upd_same _ _ _, upd_same _ _ _⟩
    · have hj2 := (List.mem_cons.1 hj).resolve_left e
      obtain ⟨g1, g2⟩ := gives_in K (giveK s k) h2 hj2
      have a1 : (giveK s k).h j = s.h j := upd_other _ e _
      have a2 : (giveK s k).w j = s.w j := upd_other _ e _
      rw [g1, g2]
      unfold G1
      rw [a1, a2]
      exact ⟨rfl, rfl⟩
theorem G1_give (s : Tb) {k j : Int} (e : j ≠ k) : G1 (giveK s k) j = G1 s j := by
  have a1 : (giveK s k).h j = s.h j := upd_other _ e _
  have a2 : (giveK s k).w j = s.w j := upd_other _ e _
  unfold G1
  rw [a1, a2]
theorem gives_same : ∀ (K : List Int) (s : Tb), (giveS s K).inn = s.inn ∧ (giveS s K).dead = s.dead ∧ (giveS s K).ks = s.ks
  | [], s => ⟨rfl, rfl, rfl⟩
  | k :: K, s => by rw [giveS_cons]; exact gives_same K (giveK s k)
/-- Who was given which, but for one. -/
noncomputable def wokeL (s : Tb) (K : List Int) (but : Int) : List (Int × Int) := K.flatMap fun k => ((G1 s k).filter fun p => p.1 != but).map fun p => (p.1, k)
theorem wokeL_cons (s : Tb) (k : Int) (K : List Int) (but : Int) (h : k ∉ K) : wokeL s (k :: K) but = (((G1 s k).filter fun p => p.1 != but).map fun p => (p.1, k)) ++ wokeL (giveK s k) K but := by
  unfold wokeL
  rw [List.flatMap_cons]
  congr 1
  have : ∀ l : List Int, k ∉ l → (l.flatMap fun j => ((G1 s j).filter fun p => p.1 != but).map fun p => (p.1, j)) = l.flatMap fun j => ((G1 (giveK s k) j).filter fun p => p.1 != but).map fun p => (p.1, j) := fun l hl => by
    induction l with
    | nil => rfl
    | cons j l ih =>
      rw [List.mem_cons, not_or] at hl
      rw [List.flatMap_cons, List.flatMap_cons, ih hl.2, G1_give s (Ne.symm hl.1)]
  exact this K h
end Go.Lk
