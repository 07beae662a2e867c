/- Stores: the plain mathematics of layer 12 (no program): a chain for each key, up to when it is closed, the mark. -/
import Derived.Test.YtckhddndeojobaaGreatChnM
namespace Go.So
open Go.Cn
set_option linter.unusedVariables false

/-- An entry: its key and its number. -/
abbrev En := Int × Int
/-- A store. -/
structure Sto where
  ch : Int → Option Cs
  closed : Int
  mark : Int
def newS : Sto := ⟨fun _ => none, 0, 0⟩
def isK (k : Int) : Bool := decide (0 ≤ k ∧ k < 8192)
theorem isK_iff (k : Int) : isK k = true ↔ 0 ≤ k ∧ k < 8192 := by unfold isK; rw [decide_eq_true_eq]
theorem isK_no (k : Int) : isK k = false ↔ k < 0 ∨ 8192 ≤ k := by unfold isK; rw [decide_eq_false_iff_not]; omega
/-- What holds of each store. -/
structure Fine (s : Sto) : Prop where
  key : ∀ k c, s.ch k = some c → 0 ≤ k ∧ k < 8192
  ok : ∀ k c, s.ch k = some c → Ok c
  pos : ∀ k c, s.ch k = some c → 0 < c.l.length
  marks : ∀ k c, s.ch k = some c → c.mark ≤ s.mark
  range : 0 ≤ s.mark ∧ s.mark ≤ s.closed ∧ s.closed ≤ 1125899906842624
theorem Fine.new : Fine newS := ⟨fun k c h => (by cases h), fun k c h => (by cases h), fun k c h => (by cases h), fun k c h => (by cases h), by simp [newS]⟩

/-! ### What is asked -/
def tellsE (s : Sto) (t : Int) : Int := if isT t = false then 120 else if s.closed < t then 128 else if t < s.mark then 126 else 0
theorem tells_cases (s : Sto) (t : Int) :
    (isT t = false ∧ tellsE s t = 120) ∨ (isT t = true ∧ s.closed < t ∧ tellsE s t = 128) ∨ (isT t = true ∧ t ≤ s.closed ∧ t < s.mark ∧ tellsE s t = 126) ∨ (isT t = true ∧ t ≤ s.closed ∧ s.mark ≤ t ∧ tellsE s t = 0) := by
  unfold tellsE
  cases h1 : isT t with
  | false => exact .inl ⟨rfl, by simp⟩
  | true =>
    by_cases h2 : s.closed < t
    · exact .inr (.inl ⟨rfl, h2, by simp [h2]⟩)
    · by_cases h3 : t < s.mark
      · exact .inr (.inr (.inl ⟨rfl, by omega, h3, by simp [h2, h3]⟩))
      · exact .inr (.inr (.inr ⟨rfl, by omega, by omega, by simp [h2, h3]⟩))
theorem tells_zero {s : Sto} {t : Int} : tellsE s t = 0 ↔ isT t = true ∧ t ≤ s.closed ∧ s.mark ≤ t := by
  rcases tells_cases s t with ⟨h1, h2⟩ | ⟨h1, h3, h2⟩ | ⟨h1, h3, h4, h2⟩ | ⟨h1, h3, h4, h2⟩ <;> rw [h2, h1]
  · simp
  · simp; omega
  · simp; omega
  · simp [h3, h4]
/-- What a chain tells of a time. -/
def cntC (c : Cs) (t : Int) : Option Ve := if getE c t = 0 then some (getV c t) else none
/-- What counts of a key. -/
def cnt (s : Sto) (k t : Int) : Option Ve := (s.ch k).bind fun c => cntC c t
def getSE (s : Sto) (k t : Int) : Int := if isK k = false then 123 else if tellsE s t = 0 then (if (cnt s k t).isSome then 0 else 127) else tellsE s t
def getSV (s : Sto) (k t : Int) : Ve := if isK k = true ∧ tellsE s t = 0 then (cnt s k t).getD (0, 0) else (0, 0)
theorem getS_cases (s : Sto) (k t : Int) :
    (isK k = false ∧ getSE s k t = 123 ∧ getSV s k t = (0, 0)) ∨ (isK k = true ∧ tellsE s t ≠ 0 ∧ getSE s k t = tellsE s t ∧ getSV s k t = (0, 0)) ∨
    (isK k = true ∧ tellsE s t = 0 ∧ cnt s k t = none ∧ getSE s k t = 127 ∧ getSV s k t = (0, 0)) ∨ (isK k = true ∧ tellsE s t = 0 ∧ (∃ v, cnt s k t = some v ∧ getSV s k t = v) ∧ getSE s k t = 0) := by
  unfold getSE getSV
  cases h1 : isK k with
  | false => exact .inl ⟨rfl, by simp, by simp⟩
  | true =>
    by_cases h2 : tellsE s t = 0
    · cases h3 : cnt s k t with
      | none => exact .inr (.inr (.inl ⟨rfl, h2, rfl, by simp [h2], by simp [h2]⟩))
      | some v => exact .inr (.inr (.inr ⟨rfl, h2, ⟨v, rfl, by simp [h2]⟩, by simp [h2]⟩))
    · exact .inr (.inl ⟨rfl, h2, by simp [h2], by simp [h2]⟩)
def lastS (s : Sto) (k : Int) : Ve := match s.ch k with | some c => lastV c.l | none => (0, 0)
/-- All keys there may be, and those of a store. -/
def allK : List Int := (List.range 8192).map fun (n : Nat) => (n : Int)
def keysL (s : Sto) : List Int := allK.filter fun k => (s.ch k).isSome
theorem allK_mem (k : Int) : k ∈ allK ↔ 0 ≤ k ∧ k < 8192 := by
  unfold allK
  rw [List.mem_map]
  constructor
  · rintro ⟨n, hn, rfl⟩
    have := List.mem_range.1 hn
    omega
  · intro h
    exact ⟨k.toNat, List.mem_range.2 (by omega), by omega⟩
theorem allK_len : allK.length = 8192 := by unfold allK; rw [List.length_map, List.length_range]
theorem allK_rise : allK.Pairwise fun a b => a < b := by
  unfold allK
  rw [List.pairwise_map]
  exact List.pairwise_lt_range.imp fun h => by omega
theorem keysL_mem {s : Sto} (h : Fine s) (k : Int) : k ∈ keysL s ↔ (s.ch k).isSome = true := by
  unfold keysL
  rw [List.mem_filter, allK_mem]
  constructor
  · exact fun h => h.2
  · intro hk
    obtain ⟨c, hc⟩ := Option.isSome_iff_exists.1 hk
    exact ⟨h.key k c hc, hk⟩
theorem keysL_len (s : Sto) : (keysL s).length ≤ 8192 := by
  have := List.length_filter_le (fun k => (s.ch k).isSome) allK
  rw [allK_len] at this
  exact this
theorem keysL_rise (s : Sto) : (keysL s).Pairwise fun a b => a < b := List.Pairwise.filter _ allK_rise
theorem keysL_nodup (s : Sto) : (keysL s).Nodup := (keysL_rise s).imp fun h => by omega
def entOf (s : Sto) (t k : Int) : Option En := (cnt s k t).map fun v => (k, v.2)
def snapL (s : Sto) (t : Int) : List En := allK.filterMap (entOf s t)
def snapS (s : Sto) (t : Int) : List En := if tellsE s t = 0 then snapL s t else []
theorem filterMap_filter' {α β : Type} (p : α → Bool) (f : α → Option β) (l : List α) (h : ∀ x ∈ l, p x = false → f x = none) : (l.filter p).filterMap f = l.filterMap f := by
  induction l with
  | nil => rfl
  | cons a l ih =>
    have ih' := ih fun x hx => h x (List.mem_cons_of_mem _ hx)
    cases hp : p a with
    | true => rw [List.filter_cons_of_pos (by simpa using hp), List.filterMap_cons, List.filterMap_cons, ih']
    | false => rw [List.filter_cons_of_neg (by simp [hp]), List.filterMap_cons, h a (List.mem_cons_self ..) hp, ih']
theorem snap_keys (s : Sto) (t : Int) : (keysL s).filterMap (entOf s t) = snapL s t := by
  unfold keysL snapL
  refine filterMap_filter' _ _ _ fun x _ hx => ?_
  unfold entOf cnt
  cases hc : s.ch x with
  | none => rfl
  | some c => rw [hc] at hx; cases hx
theorem snap_same {s s' : Sto} {t : Int} (h : ∀ k, cnt s' k t = cnt s k t) : snapL s' t = snapL s t := by
  unfold snapL
  have : entOf s' t = entOf s t := by funext k; unfold entOf; rw [h]
  rw [this]
theorem snap_mem {s : Sto} {t : Int} {e : En} : e ∈ snapL s t ↔ (0 ≤ e.1 ∧ e.1 < 8192) ∧ ∃ v, cnt s e.1 t = some v ∧ v.2 = e.2 := by
  unfold snapL
  rw [List.mem_filterMap]
  constructor
  · rintro ⟨k, hk, he⟩
    unfold entOf at he
    obtain ⟨v, hv, rfl⟩ := Option.map_eq_some_iff.1 he
    exact ⟨(allK_mem k).1 hk, v, hv, rfl⟩
  · rintro ⟨hk, v, hv, h2⟩
    refine ⟨e.1, (allK_mem _).2 hk, ?_⟩
    unfold entOf
    rw [hv]
    simp [h2]
theorem snap_rise (s : Sto) (t : Int) : (snapL s t).Pairwise fun a b => a.1 < b.1 := by
  unfold snapL
  refine List.pairwise_filterMap.2 (allK_rise.imp fun {a b} hab x hx y hy => ?_)
  unfold entOf at hx hy
  obtain ⟨v, -, rfl⟩ := Option.map_eq_some_iff.1 hx
  obtain ⟨v', -, rfl⟩ := Option.map_eq_some_iff.1 hy
  exact hab
theorem snap_len (s : Sto) (t : Int) : (snapL s t).length ≤ 8192 := by
  have := List.length_filterMap_le (entOf s t) allK
  rw [allK_len] at this
  exact this
/-- How many versions a key has. -/
def lenS (s : Sto) (k : Int) : Nat := match s.ch k with | some c => c.l.length | none => 0
def sizeS (s : Sto) : Nat := (allK.map (lenS s)).sum
theorem sum_filter' {α : Type} (p : α → Bool) (f : α → Nat) (l : List α) (h : ∀ x ∈ l, p x = false → f x = 0) : ((l.filter p).map f).sum = (l.map f).sum := by
  induction l with
  | nil => rfl
  | cons a l ih =>
    have ih' := ih fun x hx => h x (List.mem_cons_of_mem _ hx)
    cases hp : p a with
    | true => rw [List.filter_cons_of_pos (by simpa using hp)]; simp only [List.map_cons, List.sum_cons, ih']
    | false => rw [List.filter_cons_of_neg (by simp [hp])]; simp only [List.map_cons, List.sum_cons, ih', h a (List.mem_cons_self ..) hp, Nat.zero_add]
theorem size_keys (s : Sto) : ((keysL s).map (lenS s)).sum = sizeS s := by
  unfold keysL sizeS
  refine sum_filter' _ _ _ fun x _ hx => ?_
  unfold lenS
  cases hc : s.ch x with
  | none => rfl
  | some c => rw [hc] at hx; cases hx
theorem sum_point {f g : Int → Nat} (l : List Int) (hl : l.Nodup) (k : Int) (hk : k ∈ l) (n : Nat) (h1 : g k = f k + n) (h2 : ∀ j, j ≠ k → g j = f j) : (l.map g).sum = (l.map f).sum + n := by
  induction l with
  | nil => cases hk
  | cons a l ih =>
    obtain ⟨ha, hl'⟩ := List.nodup_cons.1 hl
    simp only [List.map_cons, List.sum_cons]
    by_cases e : a = k
    · subst e
      have : l.map g = l.map f := List.map_congr_left fun j hj => h2 j fun e => ha (e ▸ hj)
      rw [this, h1]
      omega
    · rw [ih hl' (by rcases List.mem_cons.1 hk with h | h; exact absurd h.symm e; exact h), h2 a e]
      omega
theorem allK_nodup : allK.Nodup := allK_rise.imp fun h => by omega

/-! ### What is put -/
def whyE (s : Sto) (t k : Int) (ahead : List En) : Int :=
  if isK k = false then 123 else if (ahead.any fun e => e.1 == k) = true then 124 else match s.ch k with | none => 0 | some c => if t ≤ (lastV c.l).1 then 121 else if c.l.length = 10000 then 125 else 0
/-- A key can have a version of t. -/
structure Can (s : Sto) (t k : Int) : Prop where
  key : 0 ≤ k ∧ k < 8192
  room : ∀ c, s.ch k = some c → (lastV c.l).1 < t ∧ c.l.length ≠ 10000
theorem why_cases (s : Sto) (t k : Int) (ahead : List En) :
    (isK k = false ∧ whyE s t k ahead = 123) ∨ (isK k = true ∧ (ahead.any fun e => e.1 == k) = true ∧ whyE s t k ahead = 124) ∨
    (isK k = true ∧ (ahead.any fun e => e.1 == k) = false ∧ s.ch k = none ∧ whyE s t k ahead = 0) ∨
    (isK k = true ∧ (ahead.any fun e => e.1 == k) = false ∧ ∃ c, s.ch k = some c ∧ ((t ≤ (lastV c.l).1 ∧ whyE s t k ahead = 121) ∨ ((lastV c.l).1 < t ∧ c.l.length = 10000 ∧ whyE s t k ahead = 125) ∨ ((lastV c.l).1 < t ∧ c.l.length ≠ 10000 ∧ whyE s t k ahead = 0))) := by
  unfold whyE
  cases h1 : isK k with
  | false => exact .inl ⟨rfl, by simp⟩
  | true =>
    cases h2 : ahead.any fun e => e.1 == k with
    | true => exact .inr (.inl ⟨rfl, rfl, by simp⟩)
    | false =>
      cases h3 : s.ch k with
      | none => exact .inr (.inr (.inl ⟨rfl, rfl, rfl, by simp⟩))
      | some c =>
        refine .inr (.inr (.inr ⟨rfl, rfl, c, rfl, ?_⟩))
        by_cases h4 : t ≤ (lastV c.l).1
        · exact .inl ⟨h4, by simp [h4]⟩
        · by_cases h5 : c.l.length = 10000
          · exact .inr (.inl ⟨by omega, h5, by simp [h4, h5]⟩)
          · exact .inr (.inr ⟨by omega, h5, by simp [h4, h5]⟩)
theorem why_can {s : Sto} {t k : Int} {ahead : List En} : whyE s t k ahead = 0 ↔ Can s t k ∧ ∀ e ∈ ahead, e.1 ≠ k := by
  have hany : (ahead.any fun e => e.1 == k) = false ↔ ∀ e ∈ ahead, e.1 ≠ k := by
    rw [List.any_eq_false]
    exact ⟨fun h e he => by simpa using h e he, fun h e he => by simpa using h e he⟩
  rcases why_cases s t k ahead with ⟨h1, h2⟩ | ⟨h1, h3, h2⟩ | ⟨h1, h3, h4, h2⟩ | ⟨h1, h3, c, h4, ⟨h5, h2⟩ | ⟨h5, h6, h2⟩ | ⟨h5, h6, h2⟩⟩ <;> rw [h2]
  · have := (isK_no k).1 h1
    exact ⟨fun h => by simp at h, fun ⟨h, _⟩ => by have := h.key; omega⟩
  · exact ⟨fun h => by simp at h, fun ⟨_, h⟩ => by rw [hany.2 h] at h3; cases h3⟩
  · exact ⟨fun _ => ⟨⟨(isK_iff k).1 h1, fun c hc => by rw [h4] at hc; cases hc⟩, hany.1 h3⟩, fun _ => rfl⟩
  · exact ⟨fun h => by simp at h, fun ⟨h, _⟩ => by have := h.room c h4; omega⟩
  · exact ⟨fun h => by simp at h, fun ⟨h, _⟩ => absurd h6 (h.room c h4).2⟩
  · exact ⟨fun _ => ⟨⟨(isK_iff k).1 h1, fun c' hc => by rw [h4] at hc; injection hc with hc; subst hc; exact ⟨h5, h6⟩⟩, hany.1 h3⟩, fun _ => rfl⟩
/-- Why the first entry that can't be put can't; 0: all can. -/
def scanE (s : Sto) (t : Int) : List En → List En → Int
  | _, [] => 0
  | ahead, e :: r => if whyE s t e.1 ahead = 0 then scanE s t (ahead ++ [e]) r else whyE s t e.1 ahead
theorem scan_at (s : Sto) (t : Int) (l ahead : List En) (k : Nat) (e : En) (hk : l[k]? = some e) (h0 : ∀ j a, j < k → l[j]? = some a → whyE s t a.1 (ahead ++ l.take j) = 0) (hne : whyE s t e.1 (ahead ++ l.take k) ≠ 0) :
    scanE s t ahead l = whyE s t e.1 (ahead ++ l.take k) := by
  induction l generalizing ahead k with
  | nil => simp at hk
  | cons a l ih =>
    unfold scanE
    cases k with
    | zero =>
      have : a = e := by simpa using hk
      subst this
      simp only [List.take_zero, List.append_nil] at hne ⊢
      rw [if_neg hne]
    | succ k =>
      have ha := h0 0 a (by omega) rfl
      simp only [List.take_zero, List.append_nil] at ha
      rw [if_pos ha]
      have e1 : ahead ++ (a :: l).take (k + 1) = (ahead ++ [a]) ++ l.take k := by simp
      rw [e1] at hne ⊢
      refine ih _ k (by simpa using hk) (fun j b hj hb => ?_) hne
      have := h0 (j + 1) b (by omega) (by simpa using hb)
      rwa [show ahead ++ (a :: l).take (j + 1) = (ahead ++ [a]) ++ l.take j by simp] at this
theorem scan_all (s : Sto) (t : Int) (l ahead : List En) : scanE s t ahead l = 0 ↔ ∀ j a, l[j]? = some a → whyE s t a.1 (ahead ++ l.take j) = 0 := by
  induction l generalizing ahead with
  | nil => exact ⟨fun _ j a h => by simp at h, fun _ => rfl⟩
  | cons b l ih =>
    unfold scanE
    constructor
    · intro h j a hj
      by_cases hb : whyE s t b.1 ahead = 0
      · rw [if_pos hb] at h
        cases j with
        | zero =>
          have : b = a := by simpa using hj
          subst this
          simpa using hb
        | succ j =>
          have := (ih _).1 h j a (by simpa using hj)
          rwa [show ahead ++ (b :: l).take (j + 1) = (ahead ++ [b]) ++ l.take j by simp]
      · rw [if_neg hb] at h
        exact absurd h hb
    · intro h
      have hb := h 0 b rfl
      simp only [List.take_zero, List.append_nil] at hb
      rw [if_pos hb]
      refine (ih _).2 fun j a hj => ?_
      have := h (j + 1) a (by simpa using hj)
      rwa [show ahead ++ (b :: l).take (j + 1) = (ahead ++ [b]) ++ l.take j by simp] at this
/-- All of a list's entries can be put. -/
structure Cans (s : Sto) (t : Int) (l : List En) : Prop where
  can : ∀ e ∈ l, Can s t e.1
  once : (l.map fun e => e.1).Nodup
theorem scan_can {s : Sto} {t : Int} {l : List En} : scanE s t [] l = 0 ↔ Cans s t l := by
  rw [scan_all]
  simp only [List.nil_append]
  constructor
  · intro h
    refine ⟨fun e he => ?_, ?_⟩
    · obtain ⟨j, hj⟩ := List.mem_iff_getElem?.1 he
      exact (why_can.1 (h j e hj)).1
    · refine List.pairwise_iff_getElem.2 fun i j hi hj hij => ?_
      rw [List.length_map] at hi hj
      rw [List.getElem_map, List.getElem_map]
      have := (why_can.1 (h j l[j] (List.getElem?_eq_getElem hj))).2 l[i] (by
        rw [List.mem_take_iff_getElem]
        exact ⟨i, by omega, rfl⟩)
      exact this
  · rintro ⟨h1, h2⟩ j a hj
    refine why_can.2 ⟨h1 a (List.mem_of_getElem? hj), fun e he => ?_⟩
    have hjl := (List.getElem?_eq_some_iff.1 hj).1
    obtain ⟨i, hi, rfl⟩ := List.mem_take_iff_getElem.1 he
    have := List.pairwise_iff_getElem.1 h2 i j (by rw [List.length_map]; omega) (by rw [List.length_map]; exact hjl) (by omega)
    rw [List.getElem_map, List.getElem_map] at this
    rw [(List.getElem?_eq_some_iff.1 hj).2] at this
    exact this
def putSE (s : Sto) (t : Int) (l : List En) : Int := if t < 1 ∨ 1125899906842624 < t then 120 else if t ≤ s.closed then 121 else if 100 < l.length then 122 else scanE s t [] l
def addS (s : Sto) (t : Int) (e : En) : Sto := ⟨fun k => if k = e.1 then some (put ((s.ch k).getD ⟨[], 0⟩) t e.2) else s.ch k, s.closed, s.mark⟩
def addsS (s : Sto) (t : Int) (l : List En) : Sto := l.foldl (fun s e => addS s t e) s
def putS (s : Sto) (t : Int) (l : List En) : Sto := if putSE s t l = 0 then addsS s t l else s
theorem putS_cases (s : Sto) (t : Int) (l : List En) :
    ((t < 1 ∨ 1125899906842624 < t) ∧ putSE s t l = 120 ∧ putS s t l = s) ∨ ((1 ≤ t ∧ t ≤ 1125899906842624) ∧ t ≤ s.closed ∧ putSE s t l = 121 ∧ putS s t l = s) ∨
    ((1 ≤ t ∧ t ≤ 1125899906842624) ∧ s.closed < t ∧ 100 < l.length ∧ putSE s t l = 122 ∧ putS s t l = s) ∨
    ((1 ≤ t ∧ t ≤ 1125899906842624) ∧ s.closed < t ∧ l.length ≤ 100 ∧ scanE s t [] l ≠ 0 ∧ putSE s t l = scanE s t [] l ∧ putS s t l = s) ∨
    ((1 ≤ t ∧ t ≤ 1125899906842624) ∧ s.closed < t ∧ l.length ≤ 100 ∧ Cans s t l ∧ putSE s t l = 0 ∧ putS s t l = addsS s t l) := by
  unfold putS putSE
  by_cases h1 : t < 1 ∨ 1125899906842624 < t
  · rw [if_pos h1]; exact .inl ⟨h1, rfl, by simp⟩
  · rw [if_neg h1]
    by_cases h2 : t ≤ s.closed
    · rw [if_pos h2]; exact .inr (.inl ⟨by omega, h2, rfl, by simp⟩)
    · rw [if_neg h2]
      by_cases h3 : 100 < l.length
      · rw [if_pos h3]; exact .inr (.inr (.inl ⟨by omega, by omega, h3, rfl, by simp⟩))
      · rw [if_neg h3]
        by_cases h4 : scanE s t [] l = 0
        · exact .inr (.inr (.inr (.inr ⟨by omega, by omega, by omega, scan_can.1 h4, h4, by rw [if_pos h4]⟩)))
        · exact .inr (.inr (.inr (.inl ⟨by omega, by omega, by omega, h4, rfl, by rw [if_neg h4]⟩)))
theorem addsS_snoc (s : Sto) (t : Int) (l : List En) (e : En) : addsS s t (l ++ [e]) = addS (addsS s t l) t e := by unfold addsS; rw [List.foldl_append]; rfl
theorem addsS_take (s : Sto) (t : Int) (l : List En) (k : Nat) (e : En) (h : l[k]? = some e) : addsS s t (l.take (k + 1)) = addS (addsS s t (l.take k)) t e := by
  rw [List.take_add_one, h]
  exact addsS_snoc s t _ e
theorem adds_keeps (s : Sto) (t : Int) (l : List En) : (addsS s t l).closed = s.closed ∧ (addsS s t l).mark = s.mark := by
  induction l generalizing s with
  | nil => exact ⟨rfl, rfl⟩
  | cons e l ih => exact ih (addS s t e)
theorem adds_other (s : Sto) (t k : Int) (l : List En) (h : ∀ e ∈ l, e.1 ≠ k) : (addsS s t l).ch k = s.ch k := by
  induction l generalizing s with
  | nil => rfl
  | cons e l ih =>
    have := ih (addS s t e) fun e he => h e (List.mem_cons_of_mem _ he)
    have h1 : (addS s t e).ch k = s.ch k := by
      unfold addS
      simp only
      rw [if_neg (fun h2 => h e (List.mem_cons_self ..) h2.symm)]
    exact this.trans h1
theorem adds_at (s : Sto) (t : Int) (l : List En) (h : (l.map fun e => e.1).Nodup) (e : En) (he : e ∈ l) : (addsS s t l).ch e.1 = some (put ((s.ch e.1).getD ⟨[], 0⟩) t e.2) := by
  induction l generalizing s with
  | nil => cases he
  | cons a l ih =>
    rw [List.map_cons, List.nodup_cons] at h
    rcases List.mem_cons.1 he with rfl | he
    · have := adds_other (addS s t e) t e.1 l fun b hb e2 => h.1 (List.mem_map.2 ⟨b, hb, e2⟩)
      refine this.trans ?_
      unfold addS
      simp
    · have hne : e.1 ≠ a.1 := fun e2 => h.1 (List.mem_map.2 ⟨e, he, e2⟩)
      have := ih (addS s t a) h.2 he
      refine this.trans ?_
      unfold addS
      simp [hne]
theorem Can.after {s : Sto} {t k : Int} (h : Can s t k) (l : List En) (hl : ∀ e ∈ l, e.1 ≠ k) : Can (addsS s t l) t k := ⟨h.key, fun c hc => h.room c (by rw [← hc, adds_other s t k l hl])⟩
/-- A new chain's, or an old one's, put goes through. -/
theorem Can.put {s : Sto} (hf : Fine s) {t k : Int} (h : Can s t k) (ht : 1 ≤ t ∧ t ≤ 1125899906842624) (hc : s.closed < t) (v : Int) :
    putE ((s.ch k).getD ⟨[], 0⟩) t = 0 ∧ put ((s.ch k).getD ⟨[], 0⟩) t v = ⟨((s.ch k).getD ⟨[], 0⟩).l ++ [(t, v)], ((s.ch k).getD ⟨[], 0⟩).mark⟩ := by
  have hm := hf.range
  have key : (lastV ((s.ch k).getD ⟨[], 0⟩).l).1 < t ∧ ((s.ch k).getD ⟨[], 0⟩).mark < t ∧ ((s.ch k).getD ⟨[], 0⟩).l.length ≠ 10000 := by
    cases hk : s.ch k with
    | none =>
      simp only [Option.getD_none]
      refine ⟨?_, ?_, ?_⟩
      · show (0 : Int) < t; omega
      · omega
      · simp
    | some c =>
      simp only [Option.getD_some]
      have h1 := h.room c hk
      have h2 := hf.marks k c hk
      exact ⟨h1.1, by omega, h1.2⟩
  rcases put_cases ((s.ch k).getD ⟨[], 0⟩) t v with ⟨h1, _⟩ | ⟨_, h1, _⟩ | ⟨_, _, _, h1, _⟩ | ⟨_, _, _, _, h1, h2⟩
  · omega
  · omega
  · exact absurd h1 key.2.2
  · exact ⟨h1, h2⟩
theorem Fine.add {s : Sto} (hf : Fine s) {t : Int} {e : En} (h : Can s t e.1) (ht : 1 ≤ t ∧ t ≤ 1125899906842624) (hc : s.closed < t) : Fine (addS s t e) := by
  have hp := h.put hf ht hc e.2
  have hcase : ∀ k c, (addS s t e).ch k = some c → (k = e.1 ∧ c = put ((s.ch e.1).getD ⟨[], 0⟩) t e.2) ∨ s.ch k = some c := fun k c hk => by
    unfold addS at hk
    simp only at hk
    split at hk
    · rename_i h1
      subst h1
      injection hk with hk
      exact .inl ⟨rfl, hk.symm⟩
    · exact .inr hk
  have hold : Ok ((s.ch e.1).getD ⟨[], 0⟩) ∧ ((s.ch e.1).getD ⟨[], 0⟩).mark ≤ s.mark := by
    cases hk : s.ch e.1 with
    | none => exact ⟨Ok.new, hf.range.1⟩
    | some c => exact ⟨hf.ok _ c hk, hf.marks _ c hk⟩
  refine ⟨fun k c hk => ?_, fun k c hk => ?_, fun k c hk => ?_, fun k c hk => ?_, hf.range⟩
  · rcases hcase k c hk with ⟨rfl, rfl⟩ | h1
    · exact h.key
    · exact hf.key k c h1
  · rcases hcase k c hk with ⟨rfl, rfl⟩ | h1
    · exact hold.1.put t e.2
    · exact hf.ok k c h1
  · rcases hcase k c hk with ⟨rfl, rfl⟩ | h1
    · rw [hp.2]; simp
    · exact hf.pos k c h1
  · rcases hcase k c hk with ⟨rfl, rfl⟩ | h1
    · rw [hp.2]; exact hold.2
    · exact hf.marks k c h1
theorem Cans.step {s : Sto} {t : Int} {l : List En} (h : Cans s t l) (k : Nat) (e : En) (hk : l[k]? = some e) : Can (addsS s t (l.take k)) t e.1 := by
  refine (h.can e (List.mem_of_getElem? hk)).after _ fun b hb => ?_
  have hkl := (List.getElem?_eq_some_iff.1 hk).1
  obtain ⟨i, hi, rfl⟩ := List.mem_take_iff_getElem.1 hb
  have := List.pairwise_iff_getElem.1 h.once i k (by rw [List.length_map]; omega) (by rw [List.length_map]; exact hkl) (by omega)
  rw [List.getElem_map, List.getElem_map, (List.getElem?_eq_some_iff.1 hk).2] at this
  exact this
theorem Fine.adds {s : Sto} (hf : Fine s) {t : Int} {l : List En} (h : Cans s t l) (ht : 1 ≤ t ∧ t ≤ 1125899906842624) (hc : s.closed < t) (k : Nat) (hk : k ≤ l.length) : Fine (addsS s t (l.take k)) := by
  induction k with
  | zero => simpa [addsS] using hf
  | succ k ih =>
    obtain ⟨e, he⟩ : ∃ e, l[k]? = some e := ⟨_, List.getElem?_eq_getElem (by omega)⟩
    rw [addsS_take s t l k e he]
    exact (ih (by omega)).add (h.step k e he) ht (by rw [(adds_keeps s t _).1]; exact hc)
theorem Fine.put {s : Sto} (hf : Fine s) (t : Int) (l : List En) : Fine (putS s t l) := by
  rcases putS_cases s t l with ⟨_, _, e⟩ | ⟨_, _, _, e⟩ | ⟨_, _, _, _, e⟩ | ⟨_, _, _, _, _, e⟩ | ⟨h1, h2, _, h3, _, e⟩ <;> rw [e]
  · exact hf
  · exact hf
  · exact hf
  · exact hf
  · have := hf.adds h3 h1 h2 l.length (Nat.le_refl _)
    rwa [List.take_length] at this
/-! ### Closed, pruned -/
def closeSE (t : Int) : Int := if isT t = true then 0 else 120
def closeS (s : Sto) (t : Int) : Sto := if isT t = true then ⟨s.ch, max s.closed t, s.mark⟩ else s
theorem Fine.close {s : Sto} (hf : Fine s) (t : Int) : Fine (closeS s t) := by
  unfold closeS
  split
  · rename_i h
    have ht := (isT_iff t).1 h
    have := hf.range
    exact ⟨hf.key, hf.ok, hf.pos, hf.marks, by show 0 ≤ s.mark ∧ s.mark ≤ max s.closed t ∧ max s.closed t ≤ 1125899906842624; omega⟩
  · exact hf
def pruneSE (s : Sto) (t : Int) : Int := if isT t = false then 120 else if s.closed < t then 128 else 0
def prunesS (s : Sto) (t : Int) (l : List Int) : Sto := ⟨fun k => if k ∈ l then (s.ch k).map fun c => prune c t else s.ch k, s.closed, t⟩
def pruneS (s : Sto) (t : Int) : Sto := if pruneSE s t = 0 ∧ s.mark < t then ⟨fun k => (s.ch k).map fun c => prune c t, s.closed, t⟩ else s
theorem pruneS_cases (s : Sto) (t : Int) :
    (isT t = false ∧ pruneSE s t = 120 ∧ pruneS s t = s) ∨ (isT t = true ∧ s.closed < t ∧ pruneSE s t = 128 ∧ pruneS s t = s) ∨ (isT t = true ∧ t ≤ s.closed ∧ t ≤ s.mark ∧ pruneSE s t = 0 ∧ pruneS s t = s) ∨
    (isT t = true ∧ t ≤ s.closed ∧ s.mark < t ∧ pruneSE s t = 0 ∧ pruneS s t = ⟨fun k => (s.ch k).map fun c => prune c t, s.closed, t⟩) := by
  unfold pruneS pruneSE
  cases h1 : isT t with
  | false => exact .inl ⟨rfl, by simp, by simp⟩
  | true =>
    by_cases h2 : s.closed < t
    · exact .inr (.inl ⟨rfl, h2, by simp [h2], by simp [h2]⟩)
    · by_cases h3 : s.mark < t
      · exact .inr (.inr (.inr ⟨rfl, by omega, h3, by simp [h2], by simp [h2, h3]⟩))
      · exact .inr (.inr (.inl ⟨rfl, by omega, by omega, by simp [h2], by simp [h2, h3]⟩))
theorem prune_pos {c : Cs} (h : 0 < c.l.length) (t : Int) : 0 < (prune c t).l.length := by
  rcases prune_cases c t with ⟨_, _, e⟩ | ⟨_, _, _, e⟩ | ⟨_, _, _, e⟩ <;> rw [e]
  · exact h
  · exact h
  · have := upTo_le c.l t
    show 0 < (c.l.drop _).length
    rw [List.length_drop]; omega
theorem prune_mark' {c : Cs} {t m : Int} (h : c.mark ≤ m) (h2 : m ≤ t) : (prune c t).mark ≤ t := by
  rcases prune_cases c t with ⟨_, _, e⟩ | ⟨_, _, _, e⟩ | ⟨_, _, _, e⟩ <;> rw [e]
  · omega
  · omega
  · exact Int.le_refl _
theorem Fine.prune {s : Sto} (hf : Fine s) (t : Int) : Fine (pruneS s t) := by
  have hr := hf.range
  rcases pruneS_cases s t with ⟨_, _, e⟩ | ⟨_, _, _, e⟩ | ⟨_, _, _, _, e⟩ | ⟨h1, h2, h3, _, e⟩ <;> rw [e]
  · exact hf
  · exact hf
  · exact hf
  · refine ⟨fun k c hk => ?_, fun k c hk => ?_, fun k c hk => ?_, fun k c hk => ?_, by show 0 ≤ t ∧ t ≤ s.closed ∧ s.closed ≤ 1125899906842624; omega⟩ <;> obtain ⟨c0, hc0, rfl⟩ := Option.map_eq_some_iff.1 hk
    · exact hf.key k c0 hc0
    · exact (hf.ok k c0 hc0).prune t
    · exact prune_pos (hf.pos k c0 hc0) t
    · exact prune_mark' (hf.marks k c0 hc0) (by omega)
end Go.So
