/- Vaults, plain: what the laws need: what was told of a time that is closed stays; a part has one fate. -/
import Derived.Test.YtckhddndeojobaaGreatVltN
import Derived.Test.YtckhddndeojobaaGreatStoLp
namespace Go.Vt
open Go.Cn Go.So Go.Lk
set_option linter.unusedVariables false
section
variable {v : Vt} {S : List En} {u : Int}
theorem stays_open (h : Stay S v.s u) (t a n : Int) : Stay S (openV v t a n).s u := by
  unfold openV
  split
  · exact stay_put h t _
  · exact h
theorem stays_hold (h : Stay S v.s u) (t : Int) (p : Pt) : Stay S (holdV v t p).s u := by
  unfold holdV
  split
  · exact h
  · exact h
theorem stays_commit (h : Stay S v.s u) (t id : Int) : Stay S (commitV v t id).s u := by
  unfold commitV
  split
  · exact stay_put h t _
  · exact h
theorem stays_drop (h : Stay S v.s u) (id : Int) : Stay S (dropV v id).s u := by
  unfold dropV
  split
  · exact h
  · exact h
theorem stays_close (h : Stay S v.s u) (t : Int) : Stay S (closeV v t).s u := by
  unfold closeV
  split
  · exact stay_close h t
  · exact h
theorem stays_prune (h : Stay S v.s u) (t : Int) : Stay S (pruneV v t).s u := stay_prune h t
end
/-- What may become of a fate. -/
def Goes (f f' : Ft) : Prop := (f.is = 2 → f'.is = 2 ∧ f'.t = f.t) ∧ (f.is = 3 → f'.is = 3) ∧ (f.is = 1 → f'.is ≠ 0)
theorem Goes.refl (f : Ft) : Goes f f := ⟨fun h => ⟨h, rfl⟩, fun h => h, fun h e => by rw [h] at e; cases e⟩
theorem Goes.trans {a b c : Ft} (h : Goes a b) (k : Goes b c) (hb : b.is = 0 ∨ b.is = 1 ∨ b.is = 2 ∨ b.is = 3) : Goes a c := by
  refine ⟨fun e => ?_, fun e => k.2.1 (h.2.1 e), fun e => ?_⟩
  · obtain ⟨h1, h2⟩ := h.1 e
    obtain ⟨k1, k2⟩ := k.1 h1
    exact ⟨k1, k2.trans h2⟩
  · have h1 := h.2.2 e
    rcases hb with hb | hb | hb | hb
    · exact absurd hb h1
    · exact k.2.2 hb
    · rw [(k.1 hb).1]; decide
    · rw [k.2.1 hb]; decide
theorem fateOf_upd (v : Vt) (id j : Int) (f : Ft) (s : Sto) (h : Int → Option Hv) (t : Int) : fateOf ⟨s, v.rate, h, upd v.fates id (some f), t⟩ j = if j = id then f else fateOf v j := by
  unfold fateOf upd
  simp only
  split <;> rfl
section
variable {v : Vt} {m : Nat}
theorem Good.kinds (h : Good v m) (j : Int) : (fateOf v j).is = 0 ∨ (fateOf v j).is = 1 ∨ (fateOf v j).is = 2 ∨ (fateOf v j).is = 3 := by
  unfold fateOf
  cases e : v.fates j with
  | none => exact .inl rfl
  | some f =>
    rcases (h.fate j f e).2 with ⟨h1, -⟩ | ⟨h1, -⟩ | ⟨h1, -⟩
    · exact .inr (.inl h1)
    · exact .inr (.inr (.inl h1))
    · exact .inr (.inr (.inr h1))
theorem goes_open (t a n j : Int) : Goes (fateOf v j) (fateOf (openV v t a n) j) := by
  unfold openV
  split
  · exact Goes.refl _
  · exact Goes.refl _
theorem goes_hold (t : Int) (p : Pt) (j : Int) : Goes (fateOf v j) (fateOf (holdV v t p) j) := by
  unfold holdV
  split
  · rename_i h0
    obtain ⟨-, ⟨-, i2, -⟩, -⟩ := hold_ok h0
    rw [fateOf_upd]
    split
    · rename_i e
      have : (fateOf v j).is = 0 := by unfold fateOf; rw [e, i2]; rfl
      refine ⟨fun h => ?_, fun h => ?_, fun h => ?_⟩ <;> rw [this] at h <;> cases h
    · exact Goes.refl _
  · exact Goes.refl _
theorem goes_commit (t id j : Int) : Goes (fateOf v j) (fateOf (commitV v t id) j) := by
  unfold commitV
  split
  · rename_i h0
    obtain ⟨-, h2, -⟩ := h0
    show Goes _ (fateOf ⟨_, v.rate, _, upd v.fates id (some ⟨2, t, 0⟩), _⟩ j)
    rw [fateOf_upd]
    split
    · rename_i e
      rw [← e] at h2
      refine ⟨fun h => ?_, fun h => ?_, fun _ h => by cases h⟩ <;> rw [h2] at h <;> cases h
    · exact Goes.refl _
  · exact Goes.refl _
theorem goes_drop (id j : Int) : Goes (fateOf v j) (fateOf (dropV v id) j) := by
  unfold dropV
  split
  · rename_i h0
    have h2 := (drop_ok h0).2
    rw [fateOf_upd]
    split
    · rename_i e
      rw [← e] at h2
      exact ⟨fun h => absurd h h2, fun _ => rfl, fun _ h => by cases h⟩
    · exact Goes.refl _
  · exact Goes.refl _
theorem goes_close (t j : Int) : Goes (fateOf v j) (fateOf (closeV v t) j) := by
  unfold closeV
  split
  · exact Goes.refl _
  · exact Goes.refl _
theorem goes_prune (t j : Int) : Goes (fateOf v j) (fateOf (pruneV v t) j) := Goes.refl _
end
end Go.Vt
