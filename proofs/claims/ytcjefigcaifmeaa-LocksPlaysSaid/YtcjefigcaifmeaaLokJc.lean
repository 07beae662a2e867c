/- Locks: the document's Ask and End, plain, go with the program's. -/
import Derived.Test.YtcjefigcaifmeaaLokJb
namespace Go.Lk
set_option linter.unusedVariables false
def ownsR (H : List Rw) (x k : Int) (b : Bool) : Bool := H.any fun y => y.key == k && y.tx == x && (y.b || !b)
def woundsR (H : List Rw) (x k : Int) (b : Bool) : List Int := (H.filter fun y => y.key == k && decide (x < y.tx) && !(togR ⟨x, k, b⟩ y)).map (·.tx)
def killR (l : List Int) (L : List Rw) : List Rw := l.foldl withoutR L
section
variable {s : Tb} {H W : List Rw}
theorem owns_has (rH : Rel H s.h) (x k : Int) (b : Bool) : ownsR H x k b = hasS s x b k := by
  rw [Bool.eq_iff_iff]
  unfold ownsR hasS
  rw [List.any_eq_true]
  constructor
  · rintro ⟨y, hy, h⟩
    rw [Bool.and_eq_true, Bool.and_eq_true] at h
    have e1 : y.key = k := by simpa using h.1.1
    have e2 : y.tx = x := by simpa using h.1.2
    have := (rH.mem' y).1 hy
    rw [e1, e2] at this
    rw [this]
    exact h.2
  · intro h
    cases e : s.h k x with
    | none => rw [e] at h; cases h
    | some c =>
      rw [e] at h
      refine ⟨⟨x, k, c⟩, (rH.mem x k c).2 e, ?_⟩
      simpa using h
theorem wounds_eq (m : Fine s) (rH : Rel H s.h) (x k : Int) (b : Bool) : woundsR H x k b = wdS s x b k := by
  refine rises_unique ?_ (wdS_rises m x b k) fun y => ?_
  · unfold woundsR Rises
    rw [List.pairwise_map]
    refine (rH.sort.filter _).imp_of_mem fun {p q} hp hq hpq => ?_
    have h1 := (List.mem_filter.1 hp).2
    have h2 := (List.mem_filter.1 hq).2
    rw [Bool.and_eq_true, Bool.and_eq_true] at h1 h2
    have e1 : p.key = k := by simpa using h1.1.1
    have e2 : q.key = k := by simpa using h2.1.1
    unfold lt2 at hpq
    omega
  · rw [wdS_mem m]
    unfold woundsR
    rw [List.mem_map]
    constructor
    · rintro ⟨p, hp, rfl⟩
      obtain ⟨h0, h1⟩ := List.mem_filter.1 hp
      rw [Bool.and_eq_true, Bool.and_eq_true] at h1
      have e1 : p.key = k := by simpa using h1.1.1
      have e2 : x < p.tx := by simpa using h1.1.2
      have h3 := (rH.mem' p).1 h0
      rw [e1] at h3
      refine ⟨e2, p.b, h3, ?_⟩
      have h4 := h1.2
      unfold togR at h4
      have hne : (x == p.tx) = false := by simpa using (by omega : ¬ x = p.tx)
      simp only [hne, Bool.false_or] at h4
      cases e : p.b <;> cases e' : b <;> simp_all
    · rintro ⟨h1, c, hc, h2⟩
      refine ⟨⟨y, k, c⟩, List.mem_filter.2 ⟨(rH.mem y k c).2 hc, ?_⟩, rfl⟩
      have hne : (x == y) = false := by simpa using (by omega : ¬ x = y)
      unfold togR
      simp only [hne, Bool.false_or, beq_self_eq_true, Bool.true_and]
      rw [Bool.and_eq_true]
      refine ⟨by simpa using h1, ?_⟩
      cases c <;> cases b <;> simp_all
theorem kill_rel : ∀ (l : List Int) {L : List Rw} {h : Int → Fn}, Rel L h → Rel (killR l L) fun j => cutF (h j) l
  | [], L, h, r => by
    have e : (fun j => cutF (h j) []) = h := by funext j y; unfold cutF; rw [if_neg (by simp)]
    rw [e]; exact r
  | x :: l, L, h, r => by
    have := kill_rel l (r.without x)
    have e : (fun j => cutF (cutAll h x j) l) = fun j => cutF (h j) (x :: l) := by
      funext j y
      unfold cutF cutAll
      by_cases e1 : y ∈ l
      · rw [if_pos e1, if_pos (List.mem_cons_of_mem _ e1)]
      · rw [if_neg e1]
        by_cases e2 : y = x
        · rw [if_pos e2, if_pos (by rw [e2]; exact List.mem_cons_self ..)]
        · rw [if_neg e2, if_neg (by simp [e1, e2])]
    rw [← e]; exact this
theorem waits_iff (m : Fine s) (rW : Rel W s.w) (x : Int) : (W.any fun y => y.tx == x) = s.waits x := by
  rw [Bool.eq_iff_iff, List.any_eq_true, m.wts]
  constructor
  · rintro ⟨y, hy, e⟩
    have e : y.tx = x := by simpa using e
    exact ⟨y.key, by rw [← e, (rW.mem' y).1 hy]; rfl⟩
  · rintro ⟨k, hk⟩
    obtain ⟨c, hc⟩ := some_of hk
    exact ⟨⟨x, k, c⟩, (rW.mem x k c).2 hc, by simp⟩
theorem none_waits (m : Fine s) {x : Int} (h : s.waits x = false) (k : Int) : s.w k x = none := none_of fun h2 => by
  have := (m.wts x).2 ⟨k, h2⟩
  rw [h] at this; cases this
theorem ask_zero {x k : Int} (he : askE s x k = 0) : 1 ≤ x ∧ isK k = true ∧ s.dead x = false ∧ s.waits x = false := by
  rcases ask_cases s x k with ⟨_, e⟩ | ⟨_, _, e⟩ | ⟨_, _, _, e⟩ | ⟨_, _, _, _, e⟩ | ⟨h1, h2, h3, h4, _⟩
  · rw [he] at e; cases e
  · rw [he] at e; cases e
  · rw [he] at e; cases e
  · rw [he] at e; cases e
  · exact ⟨h1, h2, h3, h4⟩
/-- The document's Ask, where it goes on to give. -/
theorem ask_rel (m : Fine s) (rH : Rel H s.h) (rW : Rel W s.w) {x k : Int} {b : Bool} (hx : x ≤ 9223372036854775807) (he : askE s x k = 0) (hn : hasS s x b k = false) :
    ∃ H' W' out, giveR (killR (wdS s x b k) H) (putR ⟨x, k, b⟩ (killR (wdS s x b k) W)) = (H', W', out) ∧ Rel H' (askT s x b k).h ∧ Rel W' (askT s x b k).w ∧
      (out.filter fun p => p.1 != x) = wokeL (midS s x b k) (askK s (wdS s x b k) k) x ∧ (out.any fun p => p.1 == x) = hasS (askT s x b k) x b k := by
  obtain ⟨h1, hk, hd, hw⟩ := ask_zero he
  have hmid := mid_ok m ⟨h1, hx⟩ he hn
  have hout : x ∉ wdS s x b k := fun h => by have := ((wdS_mem m x b k x).1 h).1; omega
  have rH1 : Rel (killR (wdS s x b k) H) (midS s x b k).h := by
    have e : (fun j => cutF (s.h j) (wdS s x b k)) = (midS s x b k).h := funext fun j => (mid_h s x b k j).symm
    rw [← e]; exact kill_rel _ rH
  have rW1 := (kill_rel (wdS s x b k) rW).put ⟨x, k, b⟩ (by
    show cutF (s.w k) (wdS s x b k) x = none
    unfold cutF
    rw [if_neg hout]
    exact none_waits m hw k)
  have rW2 : Rel (putR ⟨x, k, b⟩ (killR (wdS s x b k) W)) (midS s x b k).w := by
    have e : upd (fun j => cutF (s.w j) (wdS s x b k)) k (upd (cutF (s.w k) (wdS s x b k)) x (some b)) = (midS s x b k).w := by
      funext j
      by_cases ej : j = k
      · subst ej
        rw [upd_same, mid_w]
      · rw [upd_other _ ej, mid_w' s x b ej]
    rw [← e]; exact rW1
  obtain ⟨H', W', g1, g2, g3⟩ := give_all hmid (askK_rises m _ hk) rH1 rW2
  refine ⟨H', W', _, g1, g2, g3, (woke_all _ _ _).symm, ?_⟩
  obtain ⟨a1, -, -⟩ := ask_row m x b hk
  have hkK := (askK_mem m (wdS s x b k) hk k).2 (.inl rfl)
  have hmw : (midS s x b k).w k x = some b := by rw [mid_w, upd_same]
  have hg := hmid.g1 k
  rw [Bool.eq_iff_iff, List.any_eq_true]
  constructor
  · rintro ⟨p, hp, e⟩
    have e : p.1 = x := by simpa using e
    unfold outAll at hp
    obtain ⟨j, -, hp⟩ := List.mem_flatMap.1 hp
    obtain ⟨q, hq, rfl⟩ := List.mem_map.1 hp
    have hq2 := (hmid.g1 j).2 q.1 q.2 hq
    dsimp only at e
    rw [e] at hq2
    have hjk : j = k := hmid.one j k x (by rw [hq2]; rfl) (by rw [hmw]; rfl)
    subst hjk
    rw [hmw] at hq2
    injection hq2 with hq2
    unfold hasS
    have hqe : q = (x, b) := Prod.ext e hq2.symm
    rw [hqe] at hq
    rw [a1, setL_in _ _ hg.1 hq]
    cases b <;> rfl
  · intro h
    by_cases hin : (x, b) ∈ G1 (midS s x b k) k
    · exact ⟨(x, k), List.mem_flatMap.2 ⟨k, hkK, List.mem_map.2 ⟨(x, b), hin, rfl⟩⟩, by simp⟩
    · exfalso
      have hno : ∀ p ∈ G1 (midS s x b k) k, p.1 ≠ x := fun p hp e => by
        have h2 := hg.2 p.1 p.2 hp
        rw [e, hmw] at h2
        injection h2 with h2
        have hpe : p = (x, b) := Prod.ext e h2.symm
        rw [hpe] at hp
        exact hin hp
      unfold hasS at h hn
      rw [a1, setL_out _ _ hno] at h
      unfold cutF at h
      rw [if_neg hout] at h
      rw [hn] at h
      cases h
/-- The document's End. -/
theorem end_rel (m : Fine s) (rH : Rel H s.h) (rW : Rel W s.w) {x : Int} (hx : 1 ≤ x) :
    ∃ H' W' out, giveR (withoutR H x) (withoutR W x) = (H', W', out) ∧ Rel H' (endS s x).h ∧ Rel W' (endS s x).w ∧ out = endA s x := by
  have hgo : Mid (goS s x) fun k => k ∈ endK s x := (m.go x).congr fun k => by
    rw [endK_mem m]
    exact ⟨fun h => .inr h, fun h => h.resolve_left id⟩
  have r1 : Rel (withoutR H x) (goS s x).h := rH.without x
  have r2 : Rel (withoutR W x) (goS s x).w := rW.without x
  obtain ⟨H', W', g1, g2, g3⟩ := give_all hgo (endK_rises m x) r1 r2
  refine ⟨H', W', _, g1, ?_, ?_, ?_⟩
  all_goals by_cases hi : x < 1 ∨ s.inn x = false
  · have hin := hi.resolve_left (by omega)
    have hK : endK s x = [] := List.eq_nil_iff_forall_not_mem.2 fun k hk => by
      have := (m.ksx x k ((endK_mem m x k).1 hk)).1
      rw [hin] at this; cases this
    rw [hK] at g2
    have e : (goS s x).h = s.h := by
      funext j y
      show (if y = x then none else s.h j y) = s.h j y
      split
      · rename_i e
        rw [e]
        exact (none_of fun h => by have := m.hinn h; rw [hin] at this; cases this).symm
      · rfl
    unfold endS
    rw [if_pos hi, ← e]
    exact g2
  · unfold endS
    rw [if_neg hi]
    exact g2
  · have hin := hi.resolve_left (by omega)
    have hK : endK s x = [] := List.eq_nil_iff_forall_not_mem.2 fun k hk => by
      have := (m.ksx x k ((endK_mem m x k).1 hk)).1
      rw [hin] at this; cases this
    rw [hK] at g3
    have e : (goS s x).w = s.w := by
      funext j y
      show (if y = x then none else s.w j y) = s.w j y
      split
      · rename_i e
        rw [e]
        exact (none_of fun h => by have := m.winn h; rw [hin] at this; cases this).symm
      · rfl
    unfold endS
    rw [if_pos hi, ← e]
    exact g3
  · unfold endS
    rw [if_neg hi]
    exact g3
  · have hin := hi.resolve_left (by omega)
    have hK : endK s x = [] := List.eq_nil_iff_forall_not_mem.2 fun k hk => by
      have := (m.ksx x k ((endK_mem m x k).1 hk)).1
      rw [hin] at this; cases this
    unfold endA
    rw [if_pos hi, hK]
    rfl
  · unfold endA
    rw [if_neg hi, woke_all]
    refine (List.filter_eq_self.2 fun p hp => ?_).symm
    unfold outAll at hp
    obtain ⟨j, -, hp⟩ := List.mem_flatMap.1 hp
    obtain ⟨q, hq, rfl⟩ := List.mem_map.1 hp
    have hq2 := (hgo.g1 j).2 q.1 q.2 hq
    have hne : q.1 ≠ x := fun e => by
      have : (goS s x).w j q.1 = none := by
        show (if q.1 = x then none else s.w j q.1) = none
        rw [if_pos e]
      rw [this] at hq2
      cases hq2
    simpa using hne
/-- What is told of a key. -/
theorem of_rel {L : List Rw} {h : Int → Fn} (r : Rel L h) (k : Int) : ((L.filter fun y => y.key == k).map fun y => (y.tx, y.b)) = rowOf (h k) := by
  symm
  refine rowOf_eq ?_ fun x b => ?_
  · rw [List.pairwise_map]
    refine (r.sort.filter _).imp_of_mem fun {p q} hp hq hpq => ?_
    have e1 : p.key = k := by simpa using (List.mem_filter.1 hp).2
    have e2 : q.key = k := by simpa using (List.mem_filter.1 hq).2
    unfold lt2 at hpq
    show p.tx < q.tx
    omega
  · rw [List.mem_map]
    constructor
    · rintro ⟨y, hy, e⟩
      injection e with e1 e2
      obtain ⟨h1, h2⟩ := List.mem_filter.1 hy
      have e3 : y.key = k := by simpa using h2
      have := (r.mem' y).1 h1
      rw [e1, e2, e3] at this
      exact this
    · intro hx
      exact ⟨⟨x, k, b⟩, List.mem_filter.2 ⟨(r.mem x k b).2 hx, by simp⟩, rfl⟩
/-! ### Who is dead -/
def RelD (D : List Int) (d : Int → Bool) : Prop := ∀ y, y ∈ D ↔ d y = true
theorem RelD.nil : RelD [] fun _ => false := fun y => by simp
theorem RelD.ask {D : List Int} (r : RelD D s.dead) (x : Int) (b : Bool) (k : Int) : RelD (D ++ wdS s x b k) (askT s x b k).dead := fun y => by
  rw [List.mem_append, askT_dead, r y]
  split
  · rename_i h; simp [h]
  · rename_i h; simp [h]
theorem RelD.end (m : Fine s) {D : List Int} (r : RelD D s.dead) {x : Int} (hx : 1 ≤ x) : RelD (D.filter fun y => y != x) (endS s x).dead := fun y => by
  rw [List.mem_filter, r y]
  by_cases hi : x < 1 ∨ s.inn x = false
  · have hin := hi.resolve_left (by omega)
    unfold endS
    rw [if_pos hi]
    refine ⟨fun h => h.1, fun h => ⟨h, ?_⟩⟩
    have : y ≠ x := fun e => by
      subst e
      have := (m.dd y h).1
      rw [hin] at this; cases this
    simpa using this
  · rw [endS_dead s x y hi]
    by_cases e : y = x
    · simp [e]
    · simp [e]
end
end Go.Lk
