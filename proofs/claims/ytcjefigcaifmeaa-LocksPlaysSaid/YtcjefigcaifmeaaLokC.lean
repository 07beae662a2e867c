/- Locks: the chapter's example, plainly. -/
import Derived.Test.YtcjefigcaifmeaaLokQ
namespace Go.Lk
set_option linter.unusedVariables false

theorem rowOf_eq {f : Fn} {l : List (Int × Bool)} (hl : l.Pairwise fun p q => p.1 < q.1) (h : ∀ x b, (x, b) ∈ l ↔ f x = some b) : rowOf f = l := by
  have hs : supp f = l.map fun p => p.1 := supp_eq (List.pairwise_map.2 hl) fun x => by
    rw [List.mem_map]
    constructor
    · rintro ⟨⟨y, b⟩, hp, rfl⟩
      rw [(h y b).1 hp]; rfl
    · intro hx
      obtain ⟨b, hb⟩ := some_of hx
      exact ⟨(x, b), (h x b).2 hb, rfl⟩
  unfold rowOf
  rw [hs, List.map_map]
  conv => rhs; rw [← List.map_id l]
  refine List.map_congr_left fun p hp => ?_
  obtain ⟨y, b⟩ := p
  simp only [Function.comp, id]
  rw [(h y b).1 hp]; rfl
theorem kills_dead : ∀ (l : List Int) (s : Tb) (y : Int), (killsS s l).dead y = if y ∈ l then true else s.dead y
  | [], s, y => rfl
  | x :: l, s, y => by
    rw [killsS_cons, kills_dead l]
    by_cases e : y ∈ l
    · rw [if_pos e, if_pos (List.mem_cons_of_mem _ e)]
    · rw [if_neg e]
      show upd s.dead x true y = _
      by_cases e2 : y = x
      · rw [e2, upd_same, if_pos (List.mem_cons_self ..)]
      · rw [upd_other _ e2, if_neg (fun h => (List.mem_cons.1 h).elim e2 e)]
theorem askT_dead (s : Tb) (x : Int) (b : Bool) (k y : Int) : (askT s x b k).dead y = if y ∈ wdS s x b k then true else s.dead y := by
  unfold askT
  rw [(gives_same _ _).2.1]
  exact kills_dead _ s y
theorem askT_inn (s : Tb) (x : Int) (b : Bool) (k y : Int) : (askT s x b k).inn y = if y = x then true else s.inn y := by
  unfold askT
  rw [(gives_same _ _).1]
  show upd (killsS s _).inn x true y = _
  rw [(kills_inn _ s).1]
  rfl
theorem endS_dead (s : Tb) (x y : Int) (h : ¬ (x < 1 ∨ s.inn x = false)) : (endS s x).dead y = if y = x then false else s.dead y := by
  unfold endS
  rw [if_neg h, (gives_same _ _).2.1]
  rfl
theorem endS_inn (s : Tb) (x y : Int) (h : ¬ (x < 1 ∨ s.inn x = false)) : (endS s x).inn y = if y = x then false else s.inn y := by
  unfold endS
  rw [if_neg h, (gives_same _ _).1]
  rfl
noncomputable def S1 := askS newT 2 true 7
noncomputable def S2 := askS S1 3 false 7
noncomputable def S3 := askS S2 1 false 7
noncomputable def S4 := endS S3 2
noncomputable def S5 := askS S4 2 true 7
noncomputable def S6 := endS S5 1
def o2 : Fn := upd nof 2 (some true)
def o3 : Fn := upd nof 3 (some false)
def o1 : Fn := upd nof 1 (some false)
def o13 : Fn := upd o1 3 (some false)
theorem four (P : Int → Prop) (h1 : P 1) (h2 : P 2) (h3 : P 3) (h : ∀ y, y ≠ 1 → y ≠ 2 → y ≠ 3 → P y) (y : Int) : P y := by
  by_cases e1 : y = 1
  · exact e1 ▸ h1
  · by_cases e2 : y = 2
    · exact e2 ▸ h2
    · by_cases e3 : y = 3
      · exact e3 ▸ h3
      · exact h y e1 e2 e3
theorem fn4 (f g : Fn) (h1 : f 1 = g 1) (h2 : f 2 = g 2) (h3 : f 3 = g 3) (h : ∀ y, y ≠ 1 → y ≠ 2 → y ≠ 3 → f y = g y) : f = g := funext fun y => four (fun y => f y = g y) h1 h2 h3 h y
theorem supp_nof : supp nof = [] := supp_eq List.Pairwise.nil fun x => by simp [nof]
theorem supp_o2 : supp o2 = [2] := supp_eq (List.pairwise_singleton _ _) fun x => by unfold o2 nof upd; by_cases e : x = 2 <;> simp [e]
theorem supp_o13 : supp o13 = [1, 3] := supp_eq (by simp [Rises]) fun x => by
  refine four (fun x => x ∈ [1, 3] ↔ (o13 x).isSome = true) (by decide) (by decide) (by decide) (fun y h1 h2 h3 => ?_) x
  unfold o13 o1 nof upd
  simp [h1, h3]
theorem row_o2 : rowOf o2 = [(2, true)] := rowOf_eq (List.pairwise_singleton _ _) fun x b => by unfold o2 nof upd; by_cases e : x = 2 <;> simp [e, eq_comm]
theorem row_o3 : rowOf o3 = [(3, false)] := rowOf_eq (List.pairwise_singleton _ _) fun x b => by unfold o3 nof upd; by_cases e : x = 3 <;> simp [e, eq_comm]
theorem row_o13 : rowOf o13 = [(1, false), (3, false)] := rowOf_eq (by simp) fun x b => by
  refine four (fun x => (x, b) ∈ [((1 : Int), false), (3, false)] ↔ o13 x = some b) (by cases b <;> decide) (by cases b <;> decide) (by cases b <;> decide) (fun y h1 h2 h3 => ?_) x
  unfold o13 o1 nof upd
  simp [h1, h3]
theorem no_blk {h : Fn} {x : Int} {b : Bool} (hh : ∀ y c, y ≠ x → h y = some c → c = false ∧ b = false) : ¬ Blk h x b := by
  rintro ⟨y, c, h1, h2, h3⟩
  obtain ⟨e1, e2⟩ := hh y c h1 h2
  rcases h3 with h3 | h3
  · rw [e1] at h3; cases h3
  · rw [e2] at h3; cases h3
theorem gl_one {h : Fn} {x : Int} {b : Bool} (hh : ¬ Blk h x b) : gl h [(x, b)] = [(x, b)] := by unfold gl; rw [if_neg hh]; simp [gl]
theorem gl_stop {h : Fn} {x : Int} {b : Bool} {l : List (Int × Bool)} (hh : Blk h x b) : gl h ((x, b) :: l) = [] := by unfold gl; rw [if_pos hh]
theorem aw1 : askE newT 2 7 = 0 ∧ askA newT 2 true 7 = ⟨true, [], []⟩ ∧ At7 S1 o2 nof ∧ ∀ y, S1.dead y = false ∧ S1.inn y = decide (y = 2) := by
  have hG : gl (cutF nof []) (rowOf (upd (cutF nof []) 2 (some true))) = [(2, true)] := by
    rw [show upd (cutF nof []) 2 (some true) = o2 from rfl, row_o2]
    exact gl_one (no_blk fun y c _ h => by cases h)
  obtain ⟨a1, a2, a3, a4⟩ := At7.new.ask 2 true [] _ ⟨by omega, by omega⟩ rfl rfl rfl (by rw [supp_nof]; rfl) hG
  have e4 : At7 S1 o2 nof := by
    have : At7 (askT newT 2 true 7) o2 nof := by
      have e1 : setL (cutF nof []) [(2, true)] = o2 := rfl
      have e2 : delL (upd (cutF nof []) 2 (some true)) [(2, true)] = nof := by funext y; unfold delL upd nof cutF; simp
      rw [e1, e2] at a4
      exact a4
    unfold S1; rw [a3]; exact this
  refine ⟨a1, ?_, e4, fun y => ?_⟩
  · rw [a2]
    have : hasS (askT newT 2 true 7) 2 true 7 = true := by
      unfold hasS
      have h7 := e4.h7
      unfold S1 at h7
      rw [a3] at h7
      rw [h7]; rfl
    rw [this]; rfl
  · unfold S1
    rw [a3, askT_dead, askT_inn]
    have : wdS newT 2 true 7 = [] := by unfold wdS; rw [show newT.h 7 = nof from rfl, supp_nof]; rfl
    rw [this]
    refine ⟨rfl, ?_⟩
    by_cases e : y = 2 <;> simp [e, newT]
theorem aw2 : askE S1 3 7 = 0 ∧ askA S1 3 false 7 = ⟨false, [], []⟩ ∧ At7 S2 o2 o3 ∧ ∀ y, S2.dead y = false ∧ S2.inn y = decide (y = 2 ∨ y = 3) := by
  obtain ⟨-, -, a, hd⟩ := aw1
  have hc : cutF o2 [] = o2 := by funext y; rfl
  have hw : upd (cutF nof []) 3 (some false) = o3 := rfl
  have hG : gl (cutF o2 []) (rowOf (upd (cutF nof []) 3 (some false))) = [] := by
    rw [hc, hw, row_o3]
    exact gl_stop ⟨2, true, by decide, rfl, .inl rfl⟩
  have hh : hasS S1 3 false 7 = false := by unfold hasS; rw [a.h7]; rfl
  obtain ⟨a1, a2, a3, a4⟩ := a.ask 3 false [] [] ⟨by omega, by omega⟩ (hd 3).1 rfl hh (by rw [supp_o2]; rfl) hG
  have e4 : At7 (askT S1 3 false 7) o2 o3 := a4
  refine ⟨a1, ?_, by unfold S2; rw [a3]; exact e4, fun y => ?_⟩
  · rw [a2]
    have : hasS (askT S1 3 false 7) 3 false 7 = false := by unfold hasS; rw [e4.h7]; rfl
    rw [this]; rfl
  · unfold S2
    rw [a3, askT_dead, askT_inn]
    have : wdS S1 3 false 7 = [] := by unfold wdS; rw [a.h7, supp_o2]; rfl
    rw [this]
    refine ⟨(hd y).1, ?_⟩
    rw [(hd y).2]
    by_cases e : y = 3 <;> simp [e]
theorem aw3 : askE S2 1 7 = 0 ∧ askA S2 1 false 7 = ⟨true, [2], [(3, 7)]⟩ ∧ At7 S3 o13 nof ∧ (∀ y, S3.dead y = decide (y = 2)) ∧ ∀ y, S3.inn y = decide (y = 1 ∨ y = 2 ∨ y = 3) := by
  obtain ⟨-, -, a, hd⟩ := aw2
  have hc : cutF o2 [2] = nof := by
    funext y
    unfold cutF o2 nof upd
    by_cases e : y = 2 <;> simp [e]
  have hw : upd (cutF o3 [2]) 1 (some false) = o13 := fn4 _ _ rfl rfl rfl fun y h1 h2 h3 => by
    unfold o13 o1 o3 cutF nof upd
    simp [h1, h2, h3]
  have hG : gl (cutF o2 [2]) (rowOf (upd (cutF o3 [2]) 1 (some false))) = [(1, false), (3, false)] := by
    rw [hc, hw, row_o13]
    unfold gl
    rw [if_neg (no_blk fun y c _ h => by cases h), gl_one]
    refine no_blk fun y c _ h => ?_
    unfold nof upd at h
    split at h
    · injection h with h; exact ⟨h.symm, rfl⟩
    · cases h
  have hh : hasS S2 1 false 7 = false := by unfold hasS; rw [a.h7]; rfl
  obtain ⟨a1, a2, a3, a4⟩ := a.ask 1 false [2] _ ⟨by omega, by omega⟩ (hd 1).1 rfl hh (by rw [supp_o2]; rfl) hG
  have e4 : At7 (askT S2 1 false 7) o13 nof := by
    rw [hc, hw] at a4
    have e2 : delL o13 [(1, false), (3, false)] = nof := fn4 _ _ rfl rfl rfl fun y h1 h2 h3 => by
      unfold delL o13 o1 nof
      simp [upd, h1, h3]
    rw [e2] at a4
    exact a4
  refine ⟨a1, ?_, by unfold S3; rw [a3]; exact e4, fun y => ?_, fun y => ?_⟩
  · rw [a2]
    have : hasS (askT S2 1 false 7) 1 false 7 = true := by unfold hasS; rw [e4.h7]; rfl
    rw [this]; rfl
  · unfold S3
    rw [a3, askT_dead]
    have : wdS S2 1 false 7 = [2] := by unfold wdS; rw [a.h7, supp_o2]; rfl
    rw [this, (hd y).1]
    by_cases e : y = 2 <;> simp [e]
  · unfold S3
    rw [a3, askT_inn, (hd y).2]
    by_cases e : y = 1 <;> simp [e]
theorem aw4 : endA S3 2 = [] ∧ At7 S4 o13 nof ∧ (∀ y, S4.dead y = false) ∧ ∀ y, S4.inn y = decide (y = 1 ∨ y = 3) := by
  obtain ⟨-, -, a, hd, hi⟩ := aw3
  have hin : S3.inn 2 = true := by rw [hi]; rfl
  have hk : S3.ks 2 7 = false := by
    cases e : S3.ks 2 7 with
    | false => rfl
    | true =>
      have := (a.fine.ksx 2 7 e).2.2
      rw [a.h7, a.w7] at this
      rcases this with h | h <;> cases h
  obtain ⟨b1, h', w', b2, -, b4⟩ := a.end 2 _ (by omega) hin [] (.inr ⟨rfl, hk⟩) rfl
  obtain ⟨e1, e2⟩ := b4 rfl
  have hnot : ¬ ((2 : Int) < 1 ∨ S3.inn 2 = false) := by rw [hin]; simp
  refine ⟨b1, ?_, fun y => ?_, fun y => ?_⟩
  · have c1 : cutF o13 [2] = o13 := fn4 _ _ rfl rfl rfl fun y h1 h2 h3 => by unfold cutF; simp [h2]
    have c2 : cutF nof [2] = nof := by funext y; unfold cutF nof; simp
    rw [e1, e2, c1, c2] at b2
    exact b2
  · unfold S4
    rw [endS_dead _ _ _ hnot, hd]
    by_cases e : y = 2 <;> simp [e]
  · unfold S4
    rw [endS_inn _ _ _ hnot, hi]
    by_cases e : y = 2
    · subst e; rfl
    · simp [e]
theorem aw5 : askE S4 2 7 = 0 ∧ askA S4 2 true 7 = ⟨false, [3], []⟩ ∧ At7 S5 o1 o2 ∧ S5.inn 1 = true := by
  obtain ⟨-, a, hd, hi⟩ := aw4
  have hc : cutF o13 [3] = o1 := fn4 _ _ rfl rfl rfl fun y h1 h2 h3 => by
    unfold o13 o1 cutF nof upd
    simp [h1, h3]
  have hw : upd (cutF nof [3]) 2 (some true) = o2 := by
    funext y
    unfold cutF o2 nof upd
    simp
  have hG : gl (cutF o13 [3]) (rowOf (upd (cutF nof [3]) 2 (some true))) = [] := by
    rw [hc, hw, row_o2]
    exact gl_stop ⟨1, false, by decide, rfl, .inr rfl⟩
  have hh : hasS S4 2 true 7 = false := by unfold hasS; rw [a.h7]; rfl
  obtain ⟨a1, a2, a3, a4⟩ := a.ask 2 true [3] [] ⟨by omega, by omega⟩ (hd 2) rfl hh (by rw [supp_o13]; rfl) hG
  rw [hc, hw] at a4
  have e4 : At7 (askT S4 2 true 7) o1 o2 := a4
  refine ⟨a1, ?_, by unfold S5; rw [a3]; exact e4, ?_⟩
  · rw [a2]
    have : hasS (askT S4 2 true 7) 2 true 7 = false := by unfold hasS; rw [e4.h7]; rfl
    rw [this]; rfl
  · unfold S5
    rw [a3, askT_inn, hi]
    rfl
theorem aw6 : endA S5 1 = [(2, 7)] ∧ Fine S6 ∧ supp (S6.w 7) = [] := by
  obtain ⟨-, -, a, hi⟩ := aw5
  have hk : S5.ks 1 7 = true := (a.fine.hin 7 1 false (by rw [a.h7]; rfl)).1
  have hc : cutF o1 [1] = nof := by
    funext y
    unfold cutF o1 nof upd
    by_cases e : y = 1 <;> simp [e]
  have hw : cutF o2 [1] = o2 := fn4 _ _ rfl rfl rfl fun y h1 h2 h3 => by unfold cutF; simp [h1]
  have hG : gl (cutF o1 [1]) (rowOf (cutF o2 [1])) = [(2, true)] := by
    rw [hc, hw, row_o2]
    exact gl_one (no_blk fun y c _ h => by cases h)
  obtain ⟨b1, h', w', b2, b3, -⟩ := a.end 1 _ (by omega) hi [7] (.inl ⟨rfl, hk⟩) hG
  obtain ⟨e1, e2⟩ := b3 rfl
  refine ⟨b1, b2.fine, ?_⟩
  rw [show S6.w 7 = w' from b2.w7, e2, hw]
  rw [show delL o2 [(2, true)] = nof from by funext y; unfold delL o2 nof; simp [upd]]
  exact supp_nof
end Go.Lk
