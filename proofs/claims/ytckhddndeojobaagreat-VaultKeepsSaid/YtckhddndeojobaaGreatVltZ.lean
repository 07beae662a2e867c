/- Layer 15: what holds of each part that is told as held. (Written by gvholds.py.) -/
import Derived.Test.YtckhddndeojobaaGreatVltB
namespace Go.Vt
open Go.Cn Go.So Go.Lk
set_option linter.unusedVariables false
/-- A part that is held, by its ID. -/
structure Item (v : Vt) (id : Int) (q : Hv) : Prop where
  byq : hvBy v id = q
  lies : v.held q.p.acc = some q
  idq : q.p.id = id
  is_ : (fateOf v id).is = 1 ∧ (fateOf v id).t = q.t
  time : v.s.closed < q.t ∧ 1 ≤ q.t ∧ q.t ≤ v.top ∧ q.t ≤ 1125899906842624
  one : 1 ≤ id
  amt : 1 ≤ q.p.n ∧ q.p.n ≤ 1000000000000000
  acc : 0 ≤ q.p.acc ∧ q.p.acc < 4096
theorem item_of {v : Vt} {m : Nat} (g : Good v m) {id : Int} (h : id ∈ supp (byId v)) : ∃ q, Item v id q := by
  obtain ⟨q, hq⟩ := Option.isSome_iff_exists.1 ((supp_mem (byId_fin g) id).1 h)
  obtain ⟨h1, h2, h3⟩ := byId_inv g hq
  have g0 := g.held _ _ h1
  refine ⟨q, by unfold hvBy; rw [hq]; rfl, h1, h2, by rw [h3]; exact ⟨rfl, rfl⟩, ⟨g0.t.1, g0.t.2.1, g0.t.2.2, Int.le_trans g0.t.2.2 g.top.2⟩, (g.fate id _ (fate_some (v := v) (id := id) (by rw [h3]; simp))).1, g0.n, g0.ac⟩
section
variable {v : Vt} {id : Int} {q : Hv}
theorem Item.close (i : Item v id q) : closeE v q.t = 160 ∧ closeV v q.t = v := by
  have h : closeE v q.t = 160 := by
    unfold closeE
    rw [(isT_iff _).2 (by have := i.time; omega), if_neg (by simp), if_pos ⟨_, q, i.lies, Int.le_refl _⟩]
  exact ⟨h, by unfold closeV; rw [h]; rfl⟩
theorem Item.hold (i : Item v id q) (t : Int) (p : Pt) (hp : p.acc = q.p.acc) : holdE v t p ≠ 0 ∧ holdV v t p = v := by
  have h : holdE v t p ≠ 0 := fun h => by
    have := (hold_ok h).2.2.free
    rw [hp, i.lies] at this
    cases this
  exact ⟨h, by unfold holdV; rw [if_neg h]⟩
theorem Item.apart {id' : Int} {q' : Hv} (i : Item v id q) (j : Item v id' q') (h : id' < id) : q'.p.acc ≠ q.p.acc := fun e => by
  have h1 := i.lies
  rw [← e, j.lies] at h1
  injection h1 with h1
  have h2 := i.idq
  have h3 := j.idq
  rw [h1] at h3
  omega
end
end Go.Vt
namespace Go.Proofs.YtckhddndeojobaaGreat
open Go.RowKit Go.Cn Go.So Go.Vt
open Go.Lk (upd supp Fin1 upd_same upd_other)
set_option linter.unusedVariables false
set_option linter.unusedSimpArgs false
set_option maxRecDepth 100000
section
variable {W w : World} {g : Nat} {v : Vt} {m m' : Nat} {Y : Nat → Prop}
theorem Vp.re (h : Vp W w g v m Y) (hg : Vt.Good v m') : Vp W w g v m' Y := ⟨h.bel, h.vlt, h.low, hg, h.few⟩
theorem Vp.key (h : Vp W w g v m Y) {id : Int} (hi : (v.fates id).isSome = true) : W64 id := by
  obtain ⟨F, ⟨sg, hb, fb, Fs, x⟩, k2, k3⟩ := h.vlt
  exact x.fates.key64 hi
theorem Vp.item64 (h : Vp W w g v m Y) {id : Int} {q : Hv} (i : Vt.Item v id q) : W64 id := h.key (by rw [fate_some (v := v) (id := id) (by rw [i.is_.1]; decide)]; rfl)
end
end Go.Proofs.YtckhddndeojobaaGreat
