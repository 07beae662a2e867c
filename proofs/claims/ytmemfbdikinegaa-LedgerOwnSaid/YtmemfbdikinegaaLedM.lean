/- One book: the plain mathematics of layer 14 (no program): who has what and has paid what, what a call makes of it and answers; nothing is lost; calls of unlike accounts change places; the list's keys and their values. -/
import Derived.Test.YtmemfbdikinegaaLokM
import Derived.Test.YtmemfbdikinegaaAmtM
namespace Go.Ld
set_option linter.unusedVariables false
open Go.Lk Go.Am

/-- What an account has, and has paid. -/
structure Pu where
  has : Int
  paid : Int
instance : Inhabited Pu := ⟨⟨0, 0⟩⟩
abbrev Acc := Int → Option Pu
def acc (a : Int) : Bool := decide (0 ≤ a ∧ a < 4096)
theorem acc_iff (a : Int) : acc a = true ↔ 0 ≤ a ∧ a < 4096 := by unfold acc; simp
def openE (f : Acc) (a n : Int) : Int := if acc a = false then 141 else if (f a).isSome then 142 else if isA n = false then 143 else 0
def openF (f : Acc) (a n : Int) : Acc := if openE f a n = 0 then upd f a (some ⟨n, 0⟩) else f
def moveE (x : Nat) (f : Acc) (a b n : Int) : Int :=
  if acc a = false ∨ acc b = false then 141 else if isA n = false ∨ n = 0 then 143 else if a = b then 144 else
  match f a with
  | none => 145
  | some p => if p.has < n + feeV n x then 146 else match f b with
    | none => 147
    | some q => if q.has + n > 1000000000000000 then 148 else 0
def moveV (x : Nat) (f : Acc) (a b n : Int) : Int := if moveE x f a b n = 0 then feeV n x else 0
def moveF (x : Nat) (f : Acc) (a b n : Int) : Acc :=
  if moveE x f a b n = 0 then upd (upd f a (some ⟨((f a).getD ⟨0, 0⟩).has - n - feeV n x, ((f a).getD ⟨0, 0⟩).paid + feeV n x⟩)) b (some ⟨((f b).getD ⟨0, 0⟩).has + n, ((f b).getD ⟨0, 0⟩).paid⟩) else f

/-! ### Sums -/
def sumN (v : Int → Int) : Nat → Int
  | 0 => 0
  | n + 1 => sumN v n + v n
theorem sumN_congr {v u : Int → Int} : ∀ n : Nat, (∀ k : Int, 0 ≤ k → k < n → v k = u k) → sumN v n = sumN u n
  | 0, _ => rfl
  | n + 1, h => by
    unfold sumN
    rw [sumN_congr n fun k h0 h1 => h k h0 (by omega), h n (by omega) (by omega)]
theorem sumN_set (v : Int → Int) (a y : Int) (h0 : 0 ≤ a) : ∀ n : Nat, a < n → sumN (fun k => if k = a then y else v k) n = sumN v n - v a + y
  | 0, h => by omega
  | n + 1, h => by
    unfold sumN
    by_cases e : a = n
    · subst e
      rw [if_pos rfl, sumN_congr (u := v) n fun k _ h1 => if_neg (by omega)]
      omega
    · rw [if_neg (fun e2 => e e2.symm), sumN_set v a y h0 n (by omega)]
      omega
theorem sumN_nonneg {v : Int → Int} : ∀ n : Nat, (∀ k : Int, 0 ≤ k → k < n → 0 ≤ v k) → 0 ≤ sumN v n
  | 0, _ => Int.le_refl _
  | n + 1, h => by
    unfold sumN
    have := sumN_nonneg n fun k h0 h1 => h k h0 (by omega)
    have := h n (by omega) (by omega)
    omega
theorem sumN_le {v : Int → Int} {a : Int} (h0 : 0 ≤ a) : ∀ n : Nat, a < n → (∀ k : Int, 0 ≤ k → k < n → 0 ≤ v k) → v a ≤ sumN v n
  | 0, h, _ => by omega
  | n + 1, h, hv => by
    unfold sumN
    by_cases e : a = n
    · subst e
      have := sumN_nonneg n fun k h0 h1 => hv k h0 (by omega)
      omega
    · have := sumN_le h0 n (by omega) fun k h0 h1 => hv k h0 (by omega)
      have := hv n (by omega) (by omega)
      omega
theorem sumN_add (v : Int → Int) (m : Nat) : ∀ n : Nat, sumN v (m + n) = sumN v m + sumN (fun k => v (m + k)) n
  | 0 => by simp [sumN]
  | n + 1 => by
    show sumN v (m + n) + v ((m + n : Nat) : Int) = sumN v m + (sumN (fun k => v (m + k)) n + v ((m : Int) + n))
    rw [sumN_add v m n, show ((m + n : Nat) : Int) = (m : Int) + n by omega]
    omega
theorem sumN_two (v u : Int → Int) : ∀ n : Nat, sumN (fun k => v k + u k) n = sumN v n + sumN u n
  | 0 => rfl
  | n + 1 => by
    unfold sumN
    rw [sumN_two v u n]
    omega

/-! ### What holds of a book -/
def worth : Option Pu → Int
  | none => 0
  | some p => p.has + p.paid
def tot (f : Acc) : Int := sumN (fun k => worth (f k)) 4096
structure Fine (f : Acc) : Prop where
  inn : ∀ a p, f a = some p → 0 ≤ a ∧ a < 4096
  has : ∀ a p, f a = some p → 0 ≤ p.has ∧ p.has ≤ 1000000000000000
  paid : ∀ a p, f a = some p → 0 ≤ p.paid
theorem Fine.none : Fine fun _ => none := ⟨fun a p h => (by cases h), fun a p h => (by cases h), fun a p h => by cases h⟩
theorem tot_none : tot (fun _ => none) = 0 := by
  have : ∀ n, sumN (fun _ => (0 : Int)) n = 0 := by
    intro n
    induction n with
    | zero => rfl
    | succ n ih => unfold sumN; rw [ih]; rfl
  exact this 4096
theorem Fine.wpos {f : Acc} (h : Fine f) (a : Int) : 0 ≤ worth (f a) := by
  cases e : f a with
  | none => exact Int.le_refl _
  | some p =>
    have := h.has a p e
    have := h.paid a p e
    show 0 ≤ p.has + p.paid
    omega
theorem Fine.le {f : Acc} (h : Fine f) {a : Int} {p : Pu} (e : f a = some p) : p.has + p.paid ≤ tot f := by
  obtain ⟨h0, h1⟩ := h.inn a p e
  have := sumN_le (v := fun k => Ld.worth (f k)) h0 4096 (by omega) fun k _ _ => h.wpos k
  simp only [e] at this
  exact this
theorem Fine.pos {f : Acc} (h : Fine f) : 0 ≤ tot f := sumN_nonneg 4096 fun k _ _ => h.wpos k
theorem Fine.upd {f : Acc} (h : Fine f) {a : Int} {p : Pu} (ha : acc a = true) (h1 : 0 ≤ p.has ∧ p.has ≤ 1000000000000000) (h2 : 0 ≤ p.paid) : Fine (upd f a (some p)) := by
  have ha := (acc_iff a).1 ha
  refine ⟨fun b q hq => ?_, fun b q hq => ?_, fun b q hq => ?_⟩
  · by_cases e : b = a
    · rw [e]; exact ha
    · rw [upd_other _ e] at hq; exact h.inn b q hq
  · by_cases e : b = a
    · rw [e, upd_same] at hq; injection hq with hq; rw [← hq]; exact h1
    · rw [upd_other _ e] at hq; exact h.has b q hq
  · by_cases e : b = a
    · rw [e, upd_same] at hq; injection hq with hq; rw [← hq]; exact h2
    · rw [upd_other _ e] at hq; exact h.paid b q hq
theorem tot_upd {f : Acc} {a : Int} (ha : acc a = true) (p : Pu) : tot (upd f a (some p)) = tot f - worth (f a) + (p.has + p.paid) := by
  obtain ⟨h0, h1⟩ := (acc_iff a).1 ha
  unfold tot
  rw [← sumN_set (fun k => worth (f k)) a (p.has + p.paid) h0 4096 (by omega)]
  refine sumN_congr 4096 fun k _ _ => ?_
  show worth (upd f a (some p) k) = _
  unfold Lk.upd
  split
  · rfl
  · rfl
theorem fee_in {x : Nat} (hx : rated x = true) {n : Int} (hn : isA n = true) : 0 ≤ feeV n x ∧ feeV n x ≤ n ∧ feeE n x = 0 := by
  have h := (isA_iff n).1 hn
  have := fee_range n x h.1 hx
  unfold feeV feeE
  simp only [hn, hx, Bool.and_self, if_true]
  exact ⟨this.1, this.2, trivial⟩
theorem open_zero {f : Acc} {a n : Int} (h : openE f a n = 0) : acc a = true ∧ f a = none ∧ isA n = true := by
  unfold openE at h
  split at h
  · cases h
  · split at h
    · cases h
    · split at h
      · cases h
      · rename_i h1 h2 h3
        exact ⟨by simpa using h1, by simpa using h2, by simpa using h3⟩
theorem move_zero {x : Nat} {f : Acc} {a b n : Int} (h : moveE x f a b n = 0) : acc a = true ∧ acc b = true ∧ isA n = true ∧ n ≠ 0 ∧ a ≠ b ∧ ∃ p q, f a = some p ∧ f b = some q ∧ n + feeV n x ≤ p.has ∧ q.has + n ≤ 1000000000000000 := by
  unfold moveE at h
  split at h
  · cases h
  rename_i h1
  split at h
  · cases h
  rename_i h2
  split at h
  · cases h
  rename_i h3
  split at h
  · cases h
  rename_i p hp
  split at h
  · cases h
  rename_i h4
  split at h
  · cases h
  rename_i q hq
  split at h
  · cases h
  rename_i h5
  simp only [not_or, Bool.not_eq_false] at h1 h2
  exact ⟨h1.1, h1.2, h2.1, h2.2, h3, p, q, hp, hq, by omega, by omega⟩
theorem Fine.opens {f : Acc} (h : Fine f) (a n : Int) : Fine (openF f a n) ∧ tot (openF f a n) = tot f + if openE f a n = 0 then n else 0 := by
  unfold openF
  split
  · rename_i e
    obtain ⟨h1, h2, h3⟩ := open_zero e
    have h3 := (isA_iff n).1 h3
    refine ⟨h.upd h1 h3 (Int.le_refl _), ?_⟩
    rw [tot_upd h1, h2]
    show tot f - 0 + (n + 0) = _
    omega
  · exact ⟨h, by omega⟩
theorem Fine.moves {f : Acc} (h : Fine f) {x : Nat} (hx : rated x = true) (a b n : Int) : Fine (moveF x f a b n) ∧ tot (moveF x f a b n) = tot f := by
  unfold moveF
  split
  · rename_i e
    obtain ⟨h1, h2, h3, h4, h5, p, q, hp, hq, h6, h7⟩ := move_zero e
    have hf := fee_in hx h3
    have h3 := (isA_iff n).1 h3
    have p1 := h.has a p hp
    have p2 := h.paid a p hp
    have q1 := h.has b q hq
    have q2 := h.paid b q hq
    rw [hp, hq]
    simp only [Option.getD_some]
    refine ⟨(h.upd h1 (p := ⟨p.has - n - feeV n x, p.paid + feeV n x⟩) ⟨by simp only; omega, by simp only; omega⟩ (by simp only; omega)).upd h2 ⟨by simp only; omega, by simp only; omega⟩ (by simp only; omega), ?_⟩
    rw [tot_upd h2, tot_upd h1, upd_other _ (fun e => h5 e.symm), hp, hq]
    simp only [worth]
    omega
  · exact ⟨h, rfl⟩

/-! ### Calls -/
structure Op14 where
  k : Int
  a : Int
  b : Int
  n : Int
def doE (x : Nat) (f : Acc) (o : Op14) : Int := if o.k = 0 then openE f o.b o.n else moveE x f o.a o.b o.n
def doV (x : Nat) (f : Acc) (o : Op14) : Int := if o.k = 0 then 0 else moveV x f o.a o.b o.n
def doF (x : Nat) (f : Acc) (o : Op14) : Acc := if o.k = 0 then openF f o.b o.n else moveF x f o.a o.b o.n
def doN (x : Nat) (f : Acc) (o : Op14) : Int := if o.k = 0 ∧ doE x f o = 0 then o.n else 0
theorem Fine.does {f : Acc} (h : Fine f) {x : Nat} (hx : rated x = true) (o : Op14) : Fine (doF x f o) ∧ tot (doF x f o) = tot f + doN x f o := by
  unfold doF doN doE
  split
  · rename_i e
    have := h.opens o.b o.n
    refine ⟨this.1, ?_⟩
    rw [this.2]
    simp [e]
  · rename_i e
    have := h.moves hx o.a o.b o.n
    refine ⟨this.1, ?_⟩
    rw [this.2]
    simp [e]
theorem doN_le (x : Nat) (f : Acc) (o : Op14) : 0 ≤ doN x f o ∧ doN x f o ≤ 1000000000000000 := by
  unfold doN
  split
  · rename_i h
    obtain ⟨h1, h2⟩ := h
    unfold doE at h2
    rw [if_pos h1] at h2
    obtain ⟨-, -, h3⟩ := open_zero h2
    exact (isA_iff _).1 h3
  · omega
/-- A call hangs only on what its accounts have. -/
theorem do_local {x : Nat} {f g : Acc} {o : Op14} (ha : f o.a = g o.a) (hb : f o.b = g o.b) : doE x f o = doE x g o ∧ doV x f o = doV x g o := by
  have h1 : openE f o.b o.n = openE g o.b o.n := by unfold openE; rw [hb]
  have h2 : moveE x f o.a o.b o.n = moveE x g o.a o.b o.n := by unfold moveE; rw [ha, hb]
  unfold doE doV moveV
  rw [h1, h2]
  exact ⟨rfl, rfl⟩
theorem do_other {x : Nat} {f : Acc} {o : Op14} {c : Int} (ha : c ≠ o.a) (hb : c ≠ o.b) : doF x f o c = f c := by
  unfold doF
  split
  · unfold openF
    split
    · exact upd_other _ hb _
    · rfl
  · unfold moveF
    split
    · rw [upd_other _ hb, upd_other _ ha]
    · rfl
theorem do_at {x : Nat} {f g : Acc} {o : Op14} (ha : f o.a = g o.a) (hb : f o.b = g o.b) {c : Int} (hc : c = o.a ∨ c = o.b) : doF x f o c = doF x g o c := by
  have h1 : openE f o.b o.n = openE g o.b o.n := by unfold openE; rw [hb]
  have h2 : moveE x f o.a o.b o.n = moveE x g o.a o.b o.n := by unfold moveE; rw [ha, hb]
  have hfg : f c = g c := by rcases hc with rfl | rfl <;> assumption
  unfold doF
  by_cases hk : o.k = 0
  · rw [if_pos hk, if_pos hk]
    unfold openF
    rw [h1]
    by_cases hE : openE g o.b o.n = 0
    · rw [if_pos hE, if_pos hE]
      unfold Lk.upd
      split
      · rfl
      · exact hfg
    · rw [if_neg hE, if_neg hE]
      exact hfg
  · rw [if_neg hk, if_neg hk]
    unfold moveF
    rw [h2]
    by_cases hE : moveE x g o.a o.b o.n = 0
    · rw [if_pos hE, if_pos hE, ha, hb]
      unfold Lk.upd
      split
      · rfl
      · split
        · rfl
        · exact hfg
    · rw [if_neg hE, if_neg hE]
      exact hfg
/-- Calls of unlike accounts may change places. -/
theorem do_turns {x : Nat} {f : Acc} {p q : Op14} (h1 : p.a ≠ q.a) (h2 : p.a ≠ q.b) (h3 : p.b ≠ q.a) (h4 : p.b ≠ q.b) :
    (doE x (doF x f q) p = doE x f p ∧ doV x (doF x f q) p = doV x f p) ∧ (doE x (doF x f p) q = doE x f q ∧ doV x (doF x f p) q = doV x f q) ∧ doF x (doF x f p) q = doF x (doF x f q) p := by
  have pa : doF x f q p.a = f p.a := do_other h1 h2
  have pb : doF x f q p.b = f p.b := do_other h3 h4
  have qa : doF x f p q.a = f q.a := do_other (fun e => h1 e.symm) (fun e => h3 e.symm)
  have qb : doF x f p q.b = f q.b := do_other (fun e => h2 e.symm) (fun e => h4 e.symm)
  refine ⟨do_local pa pb, do_local qa qb, funext fun c => ?_⟩
  by_cases hq : c = q.a ∨ c = q.b
  · rw [do_at qa qb hq]
    have : c ≠ p.a ∧ c ≠ p.b := by
      rcases hq with rfl | rfl
      · exact ⟨fun e => h1 e.symm, fun e => h3 e.symm⟩
      · exact ⟨fun e => h2 e.symm, fun e => h4 e.symm⟩
    rw [do_other this.1 this.2]
  · have hq' : c ≠ q.a ∧ c ≠ q.b := ⟨fun e => hq (.inl e), fun e => hq (.inr e)⟩
    rw [do_other hq'.1 hq'.2]
    by_cases hp : c = p.a ∨ c = p.b
    · rw [do_at pa pb hp]
    · have hp' : c ≠ p.a ∧ c ≠ p.b := ⟨fun e => hp (.inl e), fun e => hp (.inr e)⟩
      rw [do_other hp'.1 hp'.2, do_other hp'.1 hp'.2, do_other hq'.1 hq'.2]
/-- A book behind calls. -/
def runs (x : Nat) (f : Acc) (l : List Op14) : Acc := l.foldl (doF x) f
def given (x : Nat) (f : Acc) : List Op14 → Int
  | [] => 0
  | o :: l => doN x f o + given x (doF x f o) l
theorem runs_snoc (x : Nat) (f : Acc) (l : List Op14) (o : Op14) : runs x f (l ++ [o]) = doF x (runs x f l) o := by simp [runs]
theorem given_snoc (x : Nat) (f : Acc) (l : List Op14) (o : Op14) : given x f (l ++ [o]) = given x f l + doN x (runs x f l) o := by
  induction l generalizing f with
  | nil => simp [given, runs]
  | cons p l ih =>
    show doN x f p + given x (doF x f p) (l ++ [o]) = _
    rw [ih]
    show _ = doN x f p + given x (doF x f p) l + _
    rw [show runs x f (p :: l) = runs x (doF x f p) l from rfl]
    omega

/-! ### The list -/
/-- What stands at a key of the list. -/
def ent (f : Acc) (k : Int) : Option Int := if k < 4096 then (f k).map (·.has) else match f (k - 4096) with
  | none => none
  | some p => if p.paid = 0 then none else some p.paid
def val (f : Acc) (k : Int) : Int := (ent f k).getD 0
theorem ent_low {f : Acc} {k : Int} {p : Pu} (h : Fine f) (hk : f k = some p) : ent f k = some p.has := by
  have := h.inn k p hk
  unfold ent
  rw [if_pos this.2, hk]
  rfl
theorem ent_high {f : Acc} {k : Int} {p : Pu} (h : Fine f) (hk : f k = some p) : ent f (4096 + k) = if p.paid = 0 then none else some p.paid := by
  have := h.inn k p hk
  unfold ent
  rw [if_neg (by omega), show (4096 + k - 4096 : Int) = k by omega, hk]
theorem ent_range {f : Acc} (h : Fine f) {k : Int} (hk : (ent f k).isSome = true) : 0 ≤ k ∧ k < 8192 := by
  unfold ent at hk
  split at hk
  · cases e : f k with
    | none => rw [e] at hk; cases hk
    | some p => have := h.inn k p e; omega
  · cases e : f (k - 4096) with
    | none => rw [e] at hk; cases hk
    | some p => have := h.inn _ p e; omega
theorem ent_fin {f : Acc} (h : Fine f) : Fin1 (ent f) := by
  refine .of_list ((List.range 8192).map fun n : Nat => (n : Int)) fun k hk => ?_
  have := ent_range h hk
  exact List.mem_map.2 ⟨k.toNat, List.mem_range.2 (by omega), by omega⟩
theorem acc_len {f : Acc} (h : Fine f) : (supp f).length ≤ 4096 := by
  have hf : Fin1 f := .of_list ((List.range 4096).map fun n : Nat => (n : Int)) fun k hk => by
    obtain ⟨p, hp⟩ := Option.isSome_iff_exists.1 hk
    have := h.inn k p hp
    exact List.mem_map.2 ⟨k.toNat, List.mem_range.2 (by omega), by omega⟩
  have := len_sub (l := supp f) (m := (List.range 4096).map fun n : Nat => (n : Int)) (supp_rises hf).nodup fun k hk => by
    obtain ⟨p, hp⟩ := Option.isSome_iff_exists.1 ((supp_mem hf k).1 hk)
    have := h.inn k p hp
    exact List.mem_map.2 ⟨k.toNat, List.mem_range.2 (by omega), by omega⟩
  simpa using this
theorem move_bad {x : Nat} {f : Acc} {a b n e : Int} (h : moveE x f a b n = e) (h0 : e ≠ 0) : moveE x f a b n = e ∧ moveV x f a b n = 0 ∧ moveF x f a b n = f := by
  refine ⟨h, ?_, ?_⟩
  · unfold moveV; rw [h, if_neg h0]
  · unfold moveF; rw [h, if_neg h0]
def sumL : List Int → Int
  | [] => 0
  | a :: l => a + sumL l
theorem sumL_append (l m : List Int) : sumL (l ++ m) = sumL l + sumL m := by
  induction l with
  | nil => simp [sumL]
  | cons a l ih => simp only [List.cons_append, sumL, ih]; omega
/-- The keys below n at which something stands. -/
def low (g : Int → Option Int) (n : Nat) : List Int := ((List.range n).map fun k : Nat => (k : Int)).filter fun k => (g k).isSome
theorem low_succ (g : Int → Option Int) (n : Nat) : low g (n + 1) = low g n ++ if (g n).isSome then [(n : Int)] else [] := by
  unfold low
  rw [List.range_succ, List.map_append, List.filter_append]
  congr 1
  simp only [List.map_cons, List.map_nil, List.filter_cons, List.filter_nil]
theorem low_sum (g : Int → Option Int) : ∀ n : Nat, sumL ((low g n).map fun k => (g k).getD 0) = sumN (fun k => (g k).getD 0) n
  | 0 => rfl
  | n + 1 => by
    have h1 : sumL ((if (g n).isSome then [(n : Int)] else []).map fun k => (g k).getD 0) = (g n).getD 0 := by
      cases e : g n with
      | none => rfl
      | some v => simp [sumL, e]
    rw [low_succ, List.map_append, sumL_append, low_sum g n, h1]
    rfl
theorem low_rises (g : Int → Option Int) (n : Nat) : Rises (low g n) := by
  refine List.Pairwise.filter _ (List.pairwise_map.2 ?_)
  exact List.pairwise_lt_range.imp fun h => by omega
theorem supp_low {f : Acc} (h : Fine f) : supp (ent f) = low (ent f) 8192 := by
  refine supp_eq (low_rises _ _) fun k => ?_
  unfold low
  rw [List.mem_filter, List.mem_map]
  constructor
  · exact fun h => h.2
  · intro hk
    have := ent_range h hk
    exact ⟨⟨k.toNat, List.mem_range.2 (by omega), by omega⟩, hk⟩
theorem supp_len {f : Acc} (h : Fine f) : (supp (ent f)).length ≤ 8192 := by
  rw [supp_low h]
  unfold low
  refine Nat.le_trans (List.length_filter_le _ _) ?_
  simp
/-- The list's values come to what was given. -/
theorem list_sum {f : Acc} (h : Fine f) : sumL ((supp (ent f)).map (val f)) = tot f := by
  rw [supp_low h]
  have e := low_sum (ent f) 8192
  have : (fun k => (ent f k).getD 0) = val f := rfl
  rw [this] at e
  rw [e]
  rw [show (8192 : Nat) = 4096 + 4096 from rfl, sumN_add]
  unfold tot
  rw [← sumN_two]
  refine sumN_congr 4096 fun k h0 h1 => ?_
  unfold val
  have e1 : ((4096 : Nat) : Int) + k = 4096 + k := by omega
  rw [e1]
  have h1' : k < 4096 := by omega
  cases hk : f k with
  | none =>
    have a1 : ent f k = none := by unfold ent; rw [if_pos h1', hk]; rfl
    have a2 : ent f (4096 + k) = none := by unfold ent; rw [if_neg (by omega), show (4096 + k - 4096 : Int) = k by omega, hk]
    rw [a1, a2]
    rfl
  | some p =>
    rw [ent_low h hk, ent_high h hk]
    show p.has + _ = p.has + p.paid
    split
    · rename_i e2; rw [e2]; rfl
    · rfl
theorem val_pos {f : Acc} (h : Fine f) (k : Int) : 0 ≤ val f k := by
  unfold val ent
  split
  · cases e : f k with
    | none => exact Int.le_refl _
    | some p => exact (h.has k p e).1
  · cases e : f (k - 4096) with
    | none => exact Int.le_refl _
    | some p =>
      show 0 ≤ Option.getD (if p.paid = 0 then none else some p.paid) 0
      split
      · exact Int.le_refl _
      · exact h.paid _ p e
theorem val_top {f : Acc} (h : Fine f) {k : Int} (hk : k < 4096) : val f k ≤ 1000000000000000 := by
  unfold val ent
  rw [if_pos hk]
  cases e : f k with
  | none => decide
  | some p => exact (h.has k p e).2
/-- No value is more than what was given. -/
theorem val_le {f : Acc} (h : Fine f) (k : Int) : val f k ≤ tot f := by
  have hp := h.pos
  unfold val ent
  split
  · cases e : f k with
    | none => exact hp
    | some p => have h1 := h.le e; have h2 := h.paid k p e; show p.has ≤ tot f; omega
  · cases e : f (k - 4096) with
    | none => exact hp
    | some p =>
      have h1 := h.le e
      have h2 := h.has _ p e
      show Option.getD (if p.paid = 0 then none else some p.paid) 0 ≤ tot f
      split
      · exact hp
      · show p.paid ≤ tot f
        omega

/-! ### Without a charge -/
theorem fee_zero (n : Int) : feeV n 0 = 0 := by
  unfold feeV
  split
  · unfold Go.Fl.prodF
    rw [show Go.Fl.sz 0 = 0 by decide +kernel]
    simp
  · rfl
/-- Two accounts alone: one has n, and the other one m. -/
def pair (a b n m : Int) : Acc := fun k => if k = b then some ⟨m, 0⟩ else if k = a then some ⟨n, 0⟩ else none
end Go.Ld
