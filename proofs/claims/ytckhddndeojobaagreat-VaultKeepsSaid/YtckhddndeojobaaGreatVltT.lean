/- Vaults, plain: what all keys have in all, and what each call makes of it (VaultKeeps). -/
import Derived.Test.YtckhddndeojobaaGreatVltL
namespace Go.Vt
open Go.Cn Go.So Go.Lk
set_option linter.unusedVariables false
set_option linter.unusedSimpArgs false
theorem isum_point {f g : Int → Int} (l : List Int) (hl : l.Nodup) (k : Int) (hk : k ∈ l) (n : Int) (h1 : g k = f k + n) (h2 : ∀ j ∈ l, j ≠ k → g j = f j) : (l.map g).sum = (l.map f).sum + n := by
  induction l with
  | nil => cases hk
  | cons a l ih =>
    obtain ⟨ha, hl'⟩ := List.nodup_cons.1 hl
    simp only [List.map_cons, List.sum_cons]
    by_cases e : a = k
    · subst e
      have : l.map g = l.map f := List.map_congr_left fun j hj => h2 j (List.mem_cons_of_mem _ hj) fun e => ha (e ▸ hj)
      rw [this, h1]
      omega
    · rw [ih hl' (by rcases List.mem_cons.1 hk with h | h; exact absurd h.symm e; exact h) fun j hj => h2 j (List.mem_cons_of_mem _ hj), h2 a (List.mem_cons_self ..) e]
      omega
theorem isum_two {f g : Int → Int} (l : List Int) (hl : l.Nodup) (a b : Int) (ha : a ∈ l) (hb : b ∈ l) (hab : a ≠ b) (n m : Int) (h1 : g a = f a + n) (h2 : g b = f b + m) (h3 : ∀ j ∈ l, j ≠ a → j ≠ b → g j = f j) : (l.map g).sum = (l.map f).sum + (n + m) := by
  have e1 := isum_point (f := f) (g := fun j => if j = b then f j else g j) l hl a ha n (by simp only [if_neg hab]; exact h1) fun j hj e => by
    by_cases e2 : j = b
    · simp only [if_pos e2]
    · simp only [if_neg e2]; exact h3 j hj e e2
  have e2 := isum_point (f := fun j => if j = b then f j else g j) (g := g) l hl b hb m (by simp only [if_pos rfl]; exact h2) fun j hj e => by simp only [if_neg e]
  omega
/-- What all keys have. -/
def totV (v : Vt) : Int := (allK.map (nowV v)).sum
theorem tot_same {v v' : Vt} (h : ∀ k, nowV v' k = nowV v k) : totV v' = totV v := by
  unfold totV
  have : nowV v' = nowV v := funext h
  rw [this]
section
variable {v : Vt} {m : Nat}
theorem tot_open (h : Good v m) (hm : m < 4000) {t a n : Int} (h0 : openE v t a n = 0) : totV (openV v t a n) = totV v + n := by
  obtain ⟨⟨t1, t2, t3⟩, ha, hn, n1, n2⟩ := open_ok h0
  have htop := h.top
  obtain ⟨s', ps⟩ := put_ok h.sto (l := [(a, n)]) ⟨t1, t2⟩ (by omega) (by simp) ⟨fun e he => by
    rw [List.mem_singleton.1 he]
    exact h.can hm (by simp; omega) fun c hc => (by rw [hn] at hc; cases hc), nodup1 a n⟩
  have hs : (openV v t a n).s = s' := by
    unfold openV
    rw [if_pos h0]
    exact ps.eqn.1
  unfold totV
  refine isum_point allK allK_nodup a ((allK_mem a).2 (by omega)) n ?_ fun j _ hj => ?_
  · obtain ⟨c', h1, h2, -⟩ := ps.new (a, n) (List.mem_singleton.2 rfl)
    rw [now_of (c := c') (by rw [hs]; exact h1), h2, now_none hn]
    simp
  · refine now_congr ?_
    rw [hs]
    exact ps.old j fun e he => by rw [List.mem_singleton.1 he]; exact fun e => hj e.symm
theorem tot_hold (t : Int) (p : Pt) : totV (holdV v t p) = totV v := tot_same fun k => now_congr (by unfold holdV; split <;> rfl)
theorem tot_drop (id : Int) : totV (dropV v id) = totV v := tot_same fun k => now_congr (by unfold dropV; split <;> rfl)
theorem tot_close (t : Int) : totV (closeV v t) = totV v := tot_same fun k => now_congr (by
  unfold closeV
  split
  · show (closeS v.s t).ch k = _
    rw [(closeS_closed v.s t).2.2]
  · rfl)
theorem tot_prune (h : Good v m) (t : Int) : totV (pruneV v t) = totV v := tot_same fun k => prune_now h t k
theorem tot_commit (h : Good v m) (hm : m < 4000) {t id : Int} (hh : happens v t id) : totV (commitV v t id) = totV v + (if (heldAt v (fateOf v id).acc).p.pays = true then -(heldAt v (fateOf v id).acc).p.n else (heldAt v (fateOf v id).acc).p.n) := by
  have d := h.did hm hh
  obtain ⟨k1, k2, k3⟩ := h.heldBy hh.2.1
  have g0 := h.held _ _ k1
  generalize heldAt v (fateOf v id).acc = g at *
  generalize (fateOf v id).acc = a at *
  have hac := g0.ac
  obtain ⟨n1, n2⟩ := did_now d g0.acc
  unfold totV
  cases hp : g.p.pays with
  | true =>
    obtain ⟨e1, e2⟩ := n2 hp
    rw [if_pos rfl]
    have := isum_two (f := nowV v) (g := nowV (commitV v t id)) allK allK_nodup a (4096 + a) ((allK_mem _).2 (by omega)) ((allK_mem _).2 (by omega)) (by omega) (-g.p.n - g.fee) g.fee (by rw [e1]; omega) e2 fun j _ h1 h2 => now_congr (did_key d g0.acc ⟨h1, h2⟩)
    omega
  | false =>
    obtain ⟨e1, e2⟩ := n1 hp
    rw [if_neg (by simp)]
    have := isum_two (f := nowV v) (g := nowV (commitV v t id)) allK allK_nodup a (4096 + a) ((allK_mem _).2 (by omega)) ((allK_mem _).2 (by omega)) (by omega) g.p.n 0 e1 (by rw [e2]; omega) fun j _ h1 h2 => now_congr (did_key d g0.acc ⟨h1, h2⟩)
    omega
/-- At a time that is told of, from the top on, each key's last version counts. -/
theorem cnt_last (h : Good v m) {u : Int} (hu : tellsE v.s u = 0) (ht : v.top ≤ u) {k : Int} {c : Cs} (hk : v.s.ch k = some c) : cnt v.s k u = some (lastV c.l) := by
  obtain ⟨u1, u2, u3⟩ := tells_zero.1 hu
  have hl := (h.ver k c hk).1
  have hp := h.sto.pos k c hk
  have hm := h.sto.marks k c hk
  have hall := upTo_all c.l u fun a ha => by
    have := last_top (h.sto.ok k c hk).rise a ha
    omega
  have hE : getE c u = 0 := by
    unfold getE
    rw [if_neg (by simp [u1]), if_neg (by omega), if_neg (by omega)]
  unfold cnt
  rw [hk]
  show cntC c u = _
  unfold cntC
  rw [if_pos hE]
  unfold getV
  rw [if_pos hE, hall]
  rfl
theorem filterMap_sum (f : Int → Option En) (g : Int → Int) (l : List Int) (h : ∀ k ∈ l, g k = match f k with | some e => e.2 | none => 0) : ((l.filterMap f).map fun e => e.2).sum = (l.map g).sum := by
  induction l with
  | nil => rfl
  | cons a l ih =>
    have ih' := ih fun k hk => h k (List.mem_cons_of_mem _ hk)
    have ha := h a (List.mem_cons_self ..)
    rw [List.filterMap_cons, List.map_cons, List.sum_cons]
    cases hf : f a with
    | none => rw [hf] at ha; simp only at ha ⊢; omega
    | some e => rw [hf] at ha; simp only [List.map_cons, List.sum_cons] at ha ⊢; omega
theorem snap_tot (h : Good v m) {u : Int} (hu : tellsE v.s u = 0) (ht : v.top ≤ u) : ((snapL v.s u).map fun e => e.2).sum = totV v := by
  refine filterMap_sum _ _ _ fun k _ => ?_
  unfold entOf
  cases hk : v.s.ch k with
  | none =>
    have : cnt v.s k u = none := by unfold cnt; rw [hk]; rfl
    rw [this, now_none hk]
    rfl
  | some c =>
    rw [cnt_last h hu ht hk, now_of hk]
    rfl
/-- Nobody has less than nothing. -/
theorem snap_pos (h : Good v m) {u : Int} (hu : tellsE v.s u = 0) (ht : v.top ≤ u) : ∀ e ∈ snapL v.s u, 0 ≤ e.2 ∧ e.2 ≤ 1000000000000000 * m := fun e he => by
  obtain ⟨hk, w, hw, h2⟩ := snap_mem.1 he
  cases hc : v.s.ch e.1 with
  | none =>
    have : cnt v.s e.1 u = none := by unfold cnt; rw [hc]; rfl
    rw [this] at hw; cases hw
  | some c =>
    rw [cnt_last h hu ht hc] at hw
    injection hw with hw
    have := (h.ver e.1 c hc).2.2
    rw [← h2, ← hw]
    exact ⟨this.1, this.2.1⟩
end
end Go.Vt
