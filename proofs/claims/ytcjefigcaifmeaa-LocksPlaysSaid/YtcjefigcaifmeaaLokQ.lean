/- Locks: the plain mathematics of layer 13 (no program): what an ask and an end make of a key's row; the chapter's example. -/
import Derived.Test.YtcjefigcaifmeaaLokP
namespace Go.Lk
set_option linter.unusedVariables false

section
variable {s : Tb}
/-- Without those that are wounded. -/
def cutF (f : Fn) (l : List Int) : Fn := fun y => if y ∈ l then none else f y
theorem kills_h (s : Tb) (l : List Int) (k : Int) : (killsS s l).h k = cutF (s.h k) l ∧ (killsS s l).w k = cutF (s.w k) l := by
  constructor
  · funext y
    unfold cutF
    by_cases e : y ∈ l
    · rw [if_pos e]; exact (kills_in l s e k).1
    · rw [if_neg e]; exact (kills_out l s e).1 k
  · funext y
    unfold cutF
    by_cases e : y ∈ l
    · rw [if_pos e]; exact (kills_in l s e k).2
    · rw [if_neg e]; exact (kills_out l s e).2.1 k
theorem mid_h (s : Tb) (x : Int) (b : Bool) (k j : Int) : (midS s x b k).h j = cutF (s.h j) (wdS s x b k) := (kills_h s _ j).1
theorem mid_w (s : Tb) (x : Int) (b : Bool) (k : Int) : (midS s x b k).w k = upd (cutF (s.w k) (wdS s x b k)) x (some b) := by
  show upd (killsS s (wdS s x b k)).w k _ k = _
  rw [upd_same, (kills_h s _ k).2]
theorem mid_w' (s : Tb) (x : Int) (b : Bool) {k j : Int} (h : j ≠ k) : (midS s x b k).w j = cutF (s.w j) (wdS s x b k) := by
  show upd (killsS s (wdS s x b k)).w k _ j = _
  rw [upd_other _ h, (kills_h s _ j).2]
/-- What an ask makes of the key's row. -/
theorem ask_row (m : Fine s) (x : Int) (b : Bool) {k : Int} (hk : isK k = true) : (askT s x b k).h k = setL (cutF (s.h k) (wdS s x b k)) (G1 (midS s x b k) k) ∧ (askT s x b k).w k = delL (upd (cutF (s.w k) (wdS s x b k)) x (some b)) (G1 (midS s x b k) k) ∧
    G1 (midS s x b k) k = gl (cutF (s.h k) (wdS s x b k)) (rowOf (upd (cutF (s.w k) (wdS s x b k)) x (some b))) := by
  have h1 := gives_in (askK s (wdS s x b k) k) (midS s x b k) (askK_rises m _ hk).nodup ((askK_mem m _ hk k).2 (.inl rfl))
  refine ⟨?_, ?_, ?_⟩
  · unfold askT; rw [h1.1, mid_h]
  · unfold askT; rw [h1.2, mid_w]
  · unfold G1; rw [mid_h, mid_w]
end

/-! ### The chapter's example -/
/-- All is at one key. -/
structure At7 (s : Tb) (h w : Fn) : Prop where
  fine : Fine s
  h7 : s.h 7 = h
  w7 : s.w 7 = w
  no : ∀ k, k ≠ 7 → ∀ x, s.h k x = none ∧ s.w k x = none
theorem At7.ks {s : Tb} {h w : Fn} (a : At7 s h w) {x j : Int} (hx : s.ks x j = true) : j = 7 := by
  by_cases e : j = 7
  · exact e
  · have := (a.fine.ksx x j hx).2.2
    rw [(a.no j e x).1, (a.no j e x).2] at this
    rcases this with h | h <;> cases h
theorem At7.waits {s : Tb} {h w : Fn} (a : At7 s h w) (x : Int) : s.waits x = (w x).isSome := by
  cases e : (w x).isSome with
  | true => exact (a.fine.wts x).2 ⟨7, by rw [a.w7]; exact e⟩
  | false =>
    cases e2 : s.waits x with
    | false => rfl
    | true =>
      obtain ⟨k, hk⟩ := (a.fine.wts x).1 e2
      by_cases e3 : k = 7
      · rw [e3, a.w7, e] at hk; cases hk
      · rw [(a.no k e3 x).2] at hk; cases hk
theorem At7.ask {s : Tb} {h w : Fn} (a : At7 s h w) (x : Int) (b : Bool) (wd : List Int) (G : List (Int × Bool)) (hx : 1 ≤ x ∧ x ≤ 9223372036854775807) (hd : s.dead x = false) (hw : (w x).isSome = false) (hh : hasS s x b 7 = false)
    (hwd : ((supp h).filter fun y => decide (x < y) && ((h y).getD false || b)) = wd) (hG : gl (cutF h wd) (rowOf (upd (cutF w wd) x (some b))) = G) :
    askE s x 7 = 0 ∧ askA s x b 7 = ⟨hasS (askT s x b 7) x b 7, wd, (G.filter fun p => p.1 != x).map fun p => (p.1, 7)⟩ ∧ askS s x b 7 = askT s x b 7 ∧ At7 (askT s x b 7) (setL (cutF h wd) G) (delL (upd (cutF w wd) x (some b)) G) := by
  have hk : isK 7 = true := rfl
  have he : askE s x 7 = 0 := by
    unfold askE
    rw [if_neg (by omega), if_neg (by rw [hk]; simp), if_neg (by rw [hd]; simp), if_neg (by rw [a.waits, hw]; simp)]
  have ewd : wdS s x b 7 = wd := by unfold wdS; rw [a.h7]; exact hwd
  have hK : askK s wd 7 = [7] := rises_unique (askK_rises a.fine wd hk) (List.pairwise_singleton _ _) fun j => by
    rw [askK_mem a.fine wd hk, List.mem_singleton]
    exact ⟨fun h => h.elim id fun ⟨y, _, h⟩ => a.ks h, .inl⟩
  obtain ⟨r1, r2, r3⟩ := ask_row a.fine x b hk
  rw [ewd, a.h7] at r1
  rw [ewd, a.w7] at r2
  rw [ewd, a.h7, a.w7] at r3
  rw [hG] at r3
  rw [r3] at r1 r2
  have e2 : askS s x b 7 = askT s x b 7 := by unfold askS; rw [if_pos ⟨he, hh⟩]
  refine ⟨he, ?_, e2, ⟨?_, r1, r2, fun k hk7 y => ?_⟩⟩
  · unfold askA
    rw [if_neg (by rw [he]; simp), if_neg (by rw [hh]; simp), ewd, hK]
    unfold wokeL
    rw [List.flatMap_cons, List.flatMap_nil, List.append_nil, r3]
  · rw [← e2]; exact a.fine.ask hx.2
  · unfold askT
    have hn : k ∉ askK s (wdS s x b 7) 7 := by rw [ewd, hK]; simpa using hk7
    obtain ⟨g1, g2, -⟩ := gives_out _ (midS s x b 7) hn
    rw [g1, g2, mid_h, mid_w' _ _ _ hk7]
    unfold cutF
    split
    · exact ⟨rfl, rfl⟩
    · exact a.no k hk7 y
theorem At7.end {s : Tb} {h w : Fn} (a : At7 s h w) (x : Int) (G : List (Int × Bool)) (hx : 1 ≤ x) (hi : s.inn x = true) (K : List Int) (hK : (K = [7] ∧ s.ks x 7 = true) ∨ (K = [] ∧ s.ks x 7 = false))
    (hG : gl (cutF h [x]) (rowOf (cutF w [x])) = G) : endA s x = K.flatMap (fun k => (G.filter fun p => p.1 != x).map fun p => (p.1, k)) ∧ ∃ h' w', At7 (endS s x) h' w' ∧ (K = [7] → h' = setL (cutF h [x]) G ∧ w' = delL (cutF w [x]) G) ∧ (K = [] → h' = cutF h [x] ∧ w' = cutF w [x]) := by
  have hnot : ¬ (x < 1 ∨ s.inn x = false) := by rw [hi]; simp; omega
  have hKE : endK s x = K := rises_unique (endK_rises a.fine x) (by rcases hK with ⟨rfl, _⟩ | ⟨rfl, _⟩ <;> simp [Rises]) fun j => by
    rw [endK_mem a.fine]
    rcases hK with ⟨rfl, h1⟩ | ⟨rfl, h1⟩
    · rw [List.mem_singleton]
      exact ⟨fun h => a.ks h, fun h => by rw [h]; exact h1⟩
    · refine ⟨fun h => ?_, fun h => by cases h⟩
      have := a.ks h
      rw [this, h1] at h; cases h
  have eg : ∀ k, (goS s x).h k = cutF (s.h k) [x] ∧ (goS s x).w k = cutF (s.w k) [x] := fun k => by
    constructor <;> funext y <;> (unfold cutF; simp only [List.mem_singleton]; rfl)
  have eG : G1 (goS s x) 7 = G := by unfold G1; rw [(eg 7).1, (eg 7).2, a.h7, a.w7, hG]
  have e1 : endA s x = wokeL (goS s x) K x := by unfold endA; rw [if_neg hnot, hKE]
  have e2 : endS s x = giveS (goS s x) K := by unfold endS; rw [if_neg hnot, hKE]
  have hf := a.fine.end x
  refine ⟨?_, (giveS (goS s x) K).h 7, (giveS (goS s x) K).w 7, ⟨hf, by rw [e2], by rw [e2], fun k hk y => ?_⟩, fun h => ?_, fun h => ?_⟩
  · rw [e1]
    rcases hK with ⟨rfl, h1⟩ | ⟨rfl, h1⟩
    · unfold wokeL
      simp only [List.flatMap_cons, List.flatMap_nil, List.append_nil, eG]
    · rfl
  · have hn : k ∉ K := by
      rcases hK with ⟨rfl, _⟩ | ⟨rfl, _⟩
      · simpa using hk
      · simp
    obtain ⟨g1, g2, -⟩ := gives_out K (goS s x) hn
    rw [e2, g1, g2, (eg k).1, (eg k).2]
    unfold cutF
    split
    · exact ⟨rfl, rfl⟩
    · exact a.no k hk y
  · have := gives_in K (goS s x) (j := 7) (by rw [h]; simp) (by rw [h]; simp)
    rw [this.1, this.2, eG, (eg 7).1, (eg 7).2, a.h7, a.w7]
    exact ⟨rfl, rfl⟩
  · rw [h]
    show (goS s x).h 7 = _ ∧ (goS s x).w 7 = _
    rw [(eg 7).1, (eg 7).2, a.h7, a.w7]
    exact ⟨rfl, rfl⟩
def nof : Fn := fun _ => none
theorem At7.new : At7 newT nof nof := ⟨Fine.new, rfl, rfl, fun _ _ _ => ⟨rfl, rfl⟩⟩
end Go.Lk
