/- Layer 15, plain, for VaultKeeps: what a call makes of what all have; parts dropped one behind the other; sums of a list. -/
import Derived.Test.YtckhddndeojobaaGreatVltZ
namespace Go.Vt
open Go.Cn Go.So Go.Lk
set_option linter.unusedVariables false
set_option linter.unusedSimpArgs false
theorem tot_new (x : Nat) : totV (newV x) = 0 := by
  unfold totV
  have : ∀ l : List Int, (l.map (nowV (newV x))).sum = 0 := fun l => by
    induction l with
    | nil => rfl
    | cons a l ih =>
      rw [List.map_cons, List.sum_cons, ih, now_none (k := a) (by rfl)]
      rfl
  exact this _
def dOf (q : Hv) : Int := if q.p.pays = true then -q.p.n else q.p.n
section
variable {v : Vt} {m : Nat}
theorem tot_nn (g : Good v m) : 0 ≤ totV v := by
  unfold totV
  have : ∀ l : List Int, 0 ≤ (l.map (nowV v)).sum := fun l => by
    induction l with
    | nil => exact Int.le_refl _
    | cons a l ih =>
      rw [List.map_cons, List.sum_cons]
      have := (g.now a).1
      omega
  exact this _
theorem commit_zero (t id : Int) (h : commitE v t id = 0) : happens v t id ∨ (fateOf v id).is = 2 := by
  unfold commitE at h
  cases hs : isSt t with
  | false => rw [hs] at h; simp at h
  | true =>
    rw [hs, if_neg (by simp)] at h
    by_cases h1 : (fateOf v id).is = 2
    · exact .inr h1
    · rw [if_neg (fun e => h1 e.1), if_neg h1] at h
      by_cases h2 : (fateOf v id).is = 1
      · rw [if_neg (fun e => e h2)] at h
        by_cases h3 : t < (fateOf v id).t
        · rw [if_pos h3] at h; cases h
        · exact .inl ⟨hs, h2, by omega⟩
      · rw [if_pos h2] at h; cases h
theorem happens_ok (t id : Int) (h : happens v t id) : commitE v t id = 0 := by
  obtain ⟨h1, h2, h3⟩ := h
  unfold commitE
  rw [h1, if_neg (by simp), if_neg (fun e => by rw [h2] at e; cases e.1), if_neg (by rw [h2]; decide), if_neg (fun e => e h2), if_neg (by omega)]
theorem tot_commit2 (g : Good v m) (hm : m < 4000) (t id : Int) (h : commitE v t id = 0) : totV (commitV v t id) = totV v + (if id ∈ supp (byId v) then dOf (hvBy v id) else 0) := by
  by_cases hh : happens v t id
  · have hb : byId v id = some (heldAt v (fateOf v id).acc) := by
      unfold byId
      rw [if_pos hh.2.1]
      exact (g.heldBy hh.2.1).1
    have hin : id ∈ supp (byId v) := (supp_mem (byId_fin g) id).2 (by rw [hb]; rfl)
    rw [if_pos hin, tot_commit g hm hh]
    unfold dOf hvBy
    rw [hb]
    rfl
  · have h2 : (fateOf v id).is = 2 := (commit_zero t id h).resolve_left hh
    have hn : byId v id = none := by unfold byId; rw [if_neg (by rw [h2]; decide)]
    have hin : id ∉ supp (byId v) := fun e => by
      have := (supp_mem (byId_fin g) id).1 e
      rw [hn] at this
      cases this
    rw [if_neg hin]
    unfold commitV
    rw [if_neg hh]
    omega
/-- What a call makes of what all have. -/
structure TotOne (v : Vt) (o : Op15) : Prop where
  bad : oneE v o ≠ 0 → totV (oneV v o) = totV v
  opn : oneE v o = 0 → o.k = 0 → totV (oneV v o) = totV v + o.n ∧ 0 ≤ o.n ∧ o.n ≤ 1000000000000000
  other : o.k ≠ 0 → o.k ≠ 2 → totV (oneV v o) = totV v
  com : oneE v o = 0 → o.k = 2 → totV (oneV v o) = totV v + (if o.id ∈ supp (byId v) then dOf (hvBy v o.id) else 0)
theorem tot_one (g : Good v m) (hm : m < 4000) (o : Op15) : TotOne v o := by
  by_cases k0 : o.k = 0
  · have e1 : oneE v o = openE v o.t o.acc o.n := by unfold oneE; rw [if_pos k0]
    have e2 : oneV v o = openV v o.t o.acc o.n := by unfold oneV; rw [if_pos k0]
    refine ⟨fun h => ?_, fun h _ => ?_, fun h => absurd k0 h, fun _ h => by omega⟩
    · rw [e1] at h
      rw [e2]
      unfold openV
      rw [if_neg h]
    · rw [e1] at h
      rw [e2]
      have := (open_ok h).2.2.2
      exact ⟨tot_open g hm h, this⟩
  by_cases k1 : o.k = 1
  · have e2 : oneV v o = holdV v o.t (partOf o) := by unfold oneV; rw [if_neg k0, if_pos k1]
    have : totV (oneV v o) = totV v := by rw [e2]; exact tot_hold _ _
    exact ⟨fun _ => this, fun _ h => absurd h k0, fun _ _ => this, fun _ h => by omega⟩
  by_cases k2 : o.k = 2
  · have e1 : oneE v o = commitE v o.t o.id := by unfold oneE; rw [if_neg k0, if_neg k1, if_pos k2]
    have e2 : oneV v o = commitV v o.t o.id := by unfold oneV; rw [if_neg k0, if_neg k1, if_pos k2]
    refine ⟨fun h => ?_, fun _ h => absurd h k0, fun _ h => absurd k2 h, fun h _ => ?_⟩
    · rw [e1] at h
      rw [e2]
      unfold commitV
      rw [if_neg fun hh => h (happens_ok _ _ hh)]
    · rw [e1] at h
      rw [e2]
      exact tot_commit2 g hm _ _ h
  have : totV (oneV v o) = totV v := by
    unfold oneV
    rw [if_neg k0, if_neg k1, if_neg k2]
    split
    · exact tot_drop _
    split
    · exact tot_close _
    split
    · exact tot_prune g _
    · rfl
  exact ⟨fun _ => this, fun _ h => absurd h k0, fun _ _ => this, fun _ h => absurd h k2⟩
/-- Of the parts S, that were held, those from the y-th on still are. -/
structure Drops (S : List Int) (s : Int) (y : Nat) (d : Vt) : Prop where
  is_ : ∀ id ∈ S.drop y, (fateOf d id).is = 1
  left : ∀ a q, d.held a = some q → q.p.id ∈ S.drop y
  tot : totV d = s
theorem Drops.start (g : Good v m) : Drops (supp (byId v)) (totV v) 0 v := by
  refine ⟨fun id hid => ?_, fun a q hq => ?_, rfl⟩
  · obtain ⟨q, i⟩ := item_of g (by simpa using hid)
    exact i.is_.1
  · rw [List.drop_zero, supp_mem (byId_fin g), byId_of g hq]
    rfl
theorem Drops.step {S : List Int} {s : Int} {y : Nat} {id : Int} (g : Good v m) (h : Drops S s y v) (hS : Rises S) (hy : S[y]? = some id) : dropE v id = 0 ∧ Drops S s (y + 1) (dropV v id) := by
  have hl := List.getElem?_eq_some_iff.1 hy
  have hd : S.drop y = id :: S.drop (y + 1) := by
    rw [List.drop_eq_getElem_cons hl.1, hl.2]
  have hi := h.is_ id (by rw [hd]; exact List.mem_cons_self ..)
  have hf := fate_some (v := v) (id := id) (by rw [hi]; decide)
  have h1 := (g.fate id _ hf).1
  have h0 : dropE v id = 0 := by
    unfold dropE
    rw [if_neg (by omega), if_neg (by rw [hi]; decide), if_neg (by rw [hf]; simp)]
  have hne : ∀ j ∈ S.drop (y + 1), j ≠ id := fun j hj e => by
    have := (List.pairwise_cons.1 (hd ▸ (List.Pairwise.drop hS : (S.drop y).Pairwise fun a b => a < b))).1 j hj
    omega
  have hv : dropV v id = { v with held := upd v.held (fateOf v id).acc none, fates := upd v.fates id (some ⟨3, 0, 0⟩) } := by
    unfold dropV
    rw [if_pos h0, if_pos hi]
  refine ⟨h0, ⟨fun j hj => ?_, fun a q hq => ?_, by rw [tot_drop]; exact h.tot⟩⟩
  · rw [hv]
    show (fateOf ⟨v.s, v.rate, _, upd v.fates id (some ⟨3, 0, 0⟩), v.top⟩ j).is = 1
    rw [fateOf_upd, if_neg (hne j hj)]
    exact h.is_ j (by rw [hd]; exact List.mem_cons_of_mem _ hj)
  · rw [hv] at hq
    have hq' : upd v.held (fateOf v id).acc none a = some q := hq
    have ha : a ≠ (fateOf v id).acc := fun e => by rw [e, upd_same] at hq'; cases hq'
    rw [upd_other _ ha] at hq'
    have := h.left a q hq'
    rw [hd] at this
    rcases List.mem_cons.1 this with e | e
    · have h5 := (g.held a q hq').id
      rw [e, hf] at h5
      injection h5 with h5
      rw [h5] at ha
      exact absurd rfl ha
    · exact e
theorem Drops.close {S : List Int} {s : Int} (h : Drops S s S.length v) : closeE v 1125899906842624 = 0 := by
  unfold closeE
  rw [show isT 1125899906842624 = true from rfl, if_neg (by simp), if_neg]
  rintro ⟨a, q, hq, -⟩
  have := h.left a q hq
  rw [List.drop_length] at this
  cases this
/-- What is told behind it. -/
theorem closed_snap (g : Good v m) (h : closeE v 1125899906842624 = 0) : tellsE (closeV v 1125899906842624).s 1125899906842624 = 0 ∧ (closeV v 1125899906842624).top ≤ 1125899906842624 := by
  have g2 := g.close 1125899906842624
  have h1 := g2.sto.range
  have h2 := g2.top
  have hc : (closeV v 1125899906842624).s.closed = max v.s.closed 1125899906842624 := by
    unfold closeV
    rw [if_pos h]
    show (closeS v.s 1125899906842624).closed = _
    unfold closeS
    rw [if_pos (show isT 1125899906842624 = true from rfl)]
  refine ⟨tells_zero.2 ⟨rfl, by omega, by omega⟩, by omega⟩
end
/-- The first ones' sum. -/
def sumTo (l : List En) (n : Nat) : Int := ((l.take n).map fun e => e.2).sum
theorem sumTo_succ {l : List En} {n : Nat} {e : En} (h : l[n]? = some e) : sumTo l (n + 1) = sumTo l n + e.2 := by
  have hl := List.getElem?_eq_some_iff.1 h
  unfold sumTo
  rw [List.take_succ_eq_append_getElem hl.1, hl.2, List.map_append, List.sum_append]
  simp
theorem sumTo_le {l : List En} (h : ∀ e ∈ l, 0 ≤ e.2) (n : Nat) : 0 ≤ sumTo l n ∧ sumTo l n ≤ (l.map fun e => e.2).sum := by
  have nn : ∀ r : List En, (∀ e ∈ r, 0 ≤ e.2) → 0 ≤ (r.map fun e => e.2).sum := fun r => by
    induction r with
    | nil => intro _; exact Int.le_refl _
    | cons a r ih =>
      intro h
      rw [List.map_cons, List.sum_cons]
      have := h a (List.mem_cons_self ..)
      have := ih fun e he => h e (List.mem_cons_of_mem _ he)
      omega
  refine ⟨nn _ fun e he => h e (List.mem_of_mem_take he), ?_⟩
  have e : (l.map fun e => e.2).sum = sumTo l n + ((l.drop n).map fun e => e.2).sum := by
    unfold sumTo
    rw [← List.sum_append, ← List.map_append, List.take_append_drop]
  have := nn (l.drop n) fun e he => h e (List.mem_of_mem_drop he)
  omega
/-- What the first y of the parts S that are held come to, of which at most one is id. -/
noncomputable def gone (v : Vt) (S : List Int) (id : Int) (y : Nat) : Int := if id ∈ S.take y then dOf (hvBy v id) else 0
theorem gone_zero (v : Vt) (S : List Int) (id : Int) : gone v S id 0 = 0 := by unfold gone; rw [List.take_zero, if_neg (by simp)]
theorem gone_succ {v : Vt} {S : List Int} {y : Nat} {j : Int} (id : Int) (hS : Rises S) (h : S[y]? = some j) : gone v S id (y + 1) = gone v S id y + (if j = id then dOf (hvBy v id) else 0) := by
  have hl := List.getElem?_eq_some_iff.1 h
  unfold gone
  rw [List.take_succ_eq_append_getElem hl.1, hl.2]
  by_cases e : j = id
  · subst e
    have hn : j ∉ S.take y := fun hm => by
      obtain ⟨i, hi⟩ := List.mem_iff_getElem?.1 hm
      have hi2 := List.getElem?_eq_some_iff.1 hi
      have hil : i < y := by have := hi2.1; rw [List.length_take] at this; omega
      rw [List.getElem?_take_of_lt hil] at hi
      have hi3 := List.getElem?_eq_some_iff.1 hi
      have := List.pairwise_iff_getElem.1 hS i y hi3.1 hl.1 hil
      rw [hi3.2, hl.2] at this
      omega
    rw [if_pos (by simp), if_neg hn, if_pos rfl]
    omega
  · rw [if_neg e]
    by_cases hm : id ∈ S.take y
    · rw [if_pos hm, if_pos (by simp [hm])]
      omega
    · rw [if_neg hm, if_neg (by simp only [List.mem_append, List.mem_singleton, hm, false_or]; exact fun e2 => e e2.symm)]
      omega
theorem gone_all (v : Vt) (S : List Int) (id : Int) : gone v S id S.length = if id ∈ S then dOf (hvBy v id) else 0 := by unfold gone; rw [List.take_length]
theorem gone_range {v : Vt} {m : Nat} (g : Good v m) (id : Int) (y : Nat) : -1000000000000000 ≤ gone v (supp (byId v)) id y ∧ gone v (supp (byId v)) id y ≤ 1000000000000000 := by
  unfold gone
  split
  · rename_i h
    obtain ⟨q, i⟩ := item_of g (List.mem_of_mem_take h)
    rw [i.byq]
    have := i.amt
    unfold dOf
    split <;> omega
  · omega
end Go.Vt
