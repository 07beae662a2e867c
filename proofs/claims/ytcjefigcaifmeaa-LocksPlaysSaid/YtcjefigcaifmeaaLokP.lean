/- Locks: the plain mathematics of layer 13 (no program): Ask and End. -/
import Derived.Test.YtcjefigcaifmeaaLokN
namespace Go.Lk
set_option linter.unusedVariables false

def hasS (s : Tb) (x : Int) (b : Bool) (k : Int) : Bool := match s.h k x with
  | some c => c || !b
  | none => false
/-- The wounded ones. -/
noncomputable def wdS (s : Tb) (x : Int) (b : Bool) (k : Int) : List Int := (supp (s.h k)).filter fun y => decide (x < y) && ((s.h k y).getD false || b)
open Classical in
/-- The keys that are given behind an ask. -/
noncomputable def askK (s : Tb) (l : List Int) (k : Int) : List Int := supp fun j => if j = k ∨ ∃ y ∈ l, s.ks y j = true then some () else none
noncomputable def endK (s : Tb) (x : Int) : List Int := supp fun j => if s.ks x j = true then some () else none
def askE (s : Tb) (x k : Int) : Int := if x < 1 then 130 else if isK k = false then 131 else if s.dead x = true then 132 else if s.waits x = true then 133 else 0
noncomputable def midS (s : Tb) (x : Int) (b : Bool) (k : Int) : Tb := waitS (killsS s (wdS s x b k)) x b k
noncomputable def askT (s : Tb) (x : Int) (b : Bool) (k : Int) : Tb := giveS (midS s x b k) (askK s (wdS s x b k) k)
noncomputable def askS (s : Tb) (x : Int) (b : Bool) (k : Int) : Tb := if askE s x k = 0 ∧ hasS s x b k = false then askT s x b k else s
noncomputable def endS (s : Tb) (x : Int) : Tb := if x < 1 ∨ s.inn x = false then s else giveS (goS s x) (endK s x)
/-- What an ask tells: granted, wounded, woken. -/
structure Told where
  granted : Bool
  wounded : List Int
  woken : List (Int × Int)
noncomputable def askA (s : Tb) (x : Int) (b : Bool) (k : Int) : Told :=
  if askE s x k ≠ 0 then ⟨false, [], []⟩ else if hasS s x b k = true then ⟨true, [], []⟩ else ⟨hasS (askT s x b k) x b k, wdS s x b k, wokeL (midS s x b k) (askK s (wdS s x b k) k) x⟩
noncomputable def endA (s : Tb) (x : Int) : List (Int × Int) := if x < 1 ∨ s.inn x = false then [] else wokeL (goS s x) (endK s x) x
theorem ask_cases (s : Tb) (x k : Int) :
    (x < 1 ∧ askE s x k = 130) ∨ (1 ≤ x ∧ isK k = false ∧ askE s x k = 131) ∨ (1 ≤ x ∧ isK k = true ∧ s.dead x = true ∧ askE s x k = 132) ∨
    (1 ≤ x ∧ isK k = true ∧ s.dead x = false ∧ s.waits x = true ∧ askE s x k = 133) ∨ (1 ≤ x ∧ isK k = true ∧ s.dead x = false ∧ s.waits x = false ∧ askE s x k = 0) := by
  unfold askE
  by_cases h1 : x < 1
  · exact .inl ⟨h1, by simp [h1]⟩
  · cases h2 : isK k with
    | false => exact .inr (.inl ⟨by omega, rfl, by simp [h1]⟩)
    | true =>
      cases h3 : s.dead x with
      | true => exact .inr (.inr (.inl ⟨by omega, rfl, rfl, by simp [h1]⟩))
      | false =>
        cases h4 : s.waits x with
        | true => exact .inr (.inr (.inr (.inl ⟨by omega, rfl, rfl, rfl, by simp [h1]⟩)))
        | false => exact .inr (.inr (.inr (.inr ⟨by omega, rfl, rfl, rfl, by simp [h1]⟩)))
section
variable {s : Tb}
theorem ks_fin (m : Fine s) (p : Int → Prop) [DecidablePred p] (h : ∀ j, p j → isK j = true) : Fin1 fun j => if p j then some () else none := by
  refine .of_list ((List.range 8192).map fun (n : Nat) => (n : Int)) fun j hj => ?_
  have hp : p j := by
    by_cases e : p j
    · exact e
    · simp only [if_neg e] at hj; cases hj
  have := (isK_iff j).1 (h j hp)
  exact List.mem_map.2 ⟨j.toNat, List.mem_range.2 (by omega), by omega⟩
theorem wdS_mem (m : Fine s) (x : Int) (b : Bool) (k y : Int) : y ∈ wdS s x b k ↔ x < y ∧ ∃ c, s.h k y = some c ∧ (c = true ∨ b = true) := by
  unfold wdS
  rw [List.mem_filter, supp_mem (m.finh k), Bool.and_eq_true, decide_eq_true_eq, Bool.or_eq_true]
  constructor
  · rintro ⟨h1, h2, h3⟩
    obtain ⟨c, hc⟩ := some_of h1
    rw [hc] at h3
    exact ⟨h2, c, hc, h3⟩
  · rintro ⟨h2, c, hc, h3⟩
    exact ⟨by rw [hc]; rfl, h2, by rw [hc]; exact h3⟩
theorem wdS_rises (m : Fine s) (x : Int) (b : Bool) (k : Int) : Rises (wdS s x b k) := (supp_rises (m.finh k)).filter _
theorem wdS_inn (m : Fine s) (x : Int) (b : Bool) (k y : Int) (h : y ∈ wdS s x b k) : s.inn y = true := by
  obtain ⟨-, c, hc, -⟩ := (wdS_mem m x b k y).1 h
  exact m.hinn (by rw [hc]; rfl)
theorem askK_mem (m : Fine s) (l : List Int) {k : Int} (hk : isK k = true) (j : Int) : j ∈ askK s l k ↔ (j = k ∨ ∃ y ∈ l, s.ks y j = true) := by
  unfold askK
  rw [supp_mem (ks_fin m _ (by
    rintro j (rfl | ⟨y, -, h⟩)
    · exact hk
    · exact (m.ksx y j h).2.1))]
  split <;> simp_all
theorem askK_rises (m : Fine s) (l : List Int) {k : Int} (hk : isK k = true) : Rises (askK s l k) := by
  unfold askK
  exact supp_rises (ks_fin m _ (by
    rintro j (rfl | ⟨y, -, h⟩)
    · exact hk
    · exact (m.ksx y j h).2.1))
theorem endK_mem (m : Fine s) (x j : Int) : j ∈ endK s x ↔ s.ks x j = true := by
  unfold endK
  rw [supp_mem (ks_fin m _ fun j h => (m.ksx x j h).2.1)]
  split <;> simp_all
theorem endK_rises (m : Fine s) (x : Int) : Rises (endK s x) := by
  unfold endK
  exact supp_rises (ks_fin m _ fun j h => (m.ksx x j h).2.1)
/-- Those that hold the key and aren't wounded stand as they did. -/
theorem mid_ok (m : Fine s) {x k : Int} {b : Bool} (hx : 1 ≤ x ∧ x ≤ 9223372036854775807) (he : askE s x k = 0) (hn : hasS s x b k = false) :
    Mid (midS s x b k) fun j => j ∈ askK s (wdS s x b k) k := by
  have hc := ask_cases s x k
  rw [he] at hc
  obtain ⟨hk, hd, hw⟩ : isK k = true ∧ s.dead x = false ∧ s.waits x = false := by
    rcases hc with ⟨_, h⟩ | ⟨_, _, h⟩ | ⟨_, _, _, h⟩ | ⟨_, _, _, _, h⟩ | ⟨_, h1, h2, h3, _⟩
    · cases h
    · cases h
    · cases h
    · cases h
    · exact ⟨h1, h2, h3⟩
  have hout : x ∉ wdS s x b k := fun h => by have := ((wdS_mem m x b k x).1 h).1; omega
  obtain ⟨o1, o2, o3, o4⟩ := kills_out (wdS s x b k) s hout
  have m1 := Mid.kills (wdS s x b k) m (wdS_rises m x b k).nodup (wdS_inn m x b k)
  refine (m1.wait hk hx (o4.trans hd) (o3.trans hw) (fun c h => ?_) fun y c h hlt => ?_).congr fun j => ?_
  · rw [o1] at h
    unfold hasS at hn
    rw [h] at hn
    cases c <;> cases b <;> simp_all
  · by_cases hy : y ∈ wdS s x b k
    · rw [(kills_in _ s hy k).1] at h; cases h
    · rw [(kills_out _ s hy).1] at h
      have : ¬ (c = true ∨ b = true) := fun hcb => hy ((wdS_mem m x b k y).2 ⟨hlt, c, h, hcb⟩)
      cases c <;> cases b <;> simp_all
  · rw [askK_mem m _ hk]
    constructor
    · rintro (h | h)
      · exact .inr h
      · exact .inl (.inr h)
    · rintro ((h | h) | h)
      · exact h.elim
      · exact .inr h
      · exact .inl h
theorem Fine.ask (m : Fine s) {x k : Int} {b : Bool} (hx : x ≤ 9223372036854775807) : Fine (askS s x b k) := by
  unfold askS
  split
  · rename_i h
    have h1 : 1 ≤ x := by
      have := h.1
      unfold askE at this
      split at this
      · cases this
      · omega
    have hk : isK k = true := by
      rcases ask_cases s x k with ⟨_, e⟩ | ⟨_, _, e⟩ | ⟨_, _, _, e⟩ | ⟨_, _, _, _, e⟩ | ⟨_, h2, _⟩
      · rw [h.1] at e; cases e
      · rw [h.1] at e; cases e
      · rw [h.1] at e; cases e
      · rw [h.1] at e; cases e
      · exact h2
    exact ((mid_ok m ⟨h1, hx⟩ h.1 h.2).gives _ (askK_rises m _ hk).nodup fun k hk => hk).congr fun j => ⟨fun h => h.elim, fun ⟨h1, h2⟩ => h2 h1⟩
  · exact m
theorem Fine.end (m : Fine s) (x : Int) : Fine (endS s x) := by
  unfold endS
  split
  · exact m
  · exact ((m.go x).gives (endK s x) (endK_rises m x).nodup fun k hk => .inr ((endK_mem m x k).1 hk)).congr fun j => ⟨fun h => h.elim, fun ⟨h1, h2⟩ => h2 ((endK_mem m x j).2 (h1.resolve_left id))⟩
end
end Go.Lk
