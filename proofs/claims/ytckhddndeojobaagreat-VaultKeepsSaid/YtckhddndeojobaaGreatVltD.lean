/- Vaults, plain: a law's calls, one behind the other; how many parts are known, and held. -/
import Derived.Test.YtckhddndeojobaaGreatVltT
import Derived.Test.YtckhddndeojobaaGreatVltS
namespace Go.Vt
open Go.Cn Go.So Go.Lk
set_option linter.unusedVariables false
set_option linter.unusedSimpArgs false
/-- A call of a law. -/
structure Op15 where
  k : Int
  id : Int
  acc : Int
  t : Int
  n : Int
  pays : Bool
instance : Inhabited Op15 := ⟨⟨0, 0, 0, 0, 0, false⟩⟩
def partOf (o : Op15) : Pt := ⟨o.id, o.acc, o.n, o.pays⟩
noncomputable def oneV (v : Vt) (o : Op15) : Vt :=
  if o.k = 0 then openV v o.t o.acc o.n else if o.k = 1 then holdV v o.t (partOf o) else if o.k = 2 then commitV v o.t o.id else if o.k = 3 then dropV v o.id else if o.k = 4 then closeV v o.t else if o.k = 5 then pruneV v o.t else v
noncomputable def oneE (v : Vt) (o : Op15) : Int :=
  if o.k = 0 then openE v o.t o.acc o.n else if o.k = 1 then holdE v o.t (partOf o) else if o.k = 2 then commitE v o.t o.id else if o.k = 3 then dropE v o.id else if o.k = 4 then closeE v o.t else if o.k = 5 then oursE (pruneSE v.s o.t) else 0
noncomputable def mk (x : Nat) (l : List Op15) : Vt := l.foldl oneV (newV x)
theorem mk_snoc {l : List Op15} {n : Nat} {o : Op15} (x : Nat) (h : l[n]? = some o) : mk x (l.take (n + 1)) = oneV (mk x (l.take n)) o := by
  have hl := List.getElem?_eq_some_iff.1 h
  unfold mk
  rw [List.take_succ_eq_append_getElem hl.1, hl.2, List.foldl_append]
  rfl
/-- No more parts are known than may be. -/
def Few (v : Vt) : Prop := (supp v.fates).length ≤ 5000
theorem supp_one {α : Type} {f : Int → Option α} (hf : Fin1 f) (a : Int) (x : Option α) : (supp (upd f a x)).length ≤ (supp f).length + 1 := by
  have := len_sub (l := supp (upd f a x)) (m := a :: supp f) (supp_rises (hf.upd a x)).nodup fun y hy => by
    have h1 := (supp_mem (hf.upd a x) y).1 hy
    by_cases e : y = a
    · rw [e]; exact List.mem_cons_self ..
    · rw [upd_other _ e] at h1
      exact List.mem_cons_of_mem _ ((supp_mem hf y).2 h1)
  simpa using this
theorem supp_known {α : Type} {f : Int → Option α} (hf : Fin1 f) (a : Int) (x : Option α) (ha : (f a).isSome = true) : (supp (upd f a x)).length ≤ (supp f).length :=
  len_sub (supp_rises (hf.upd a x)).nodup fun y hy => by
    have h1 := (supp_mem (hf.upd a x) y).1 hy
    by_cases e : y = a
    · rw [e]; exact (supp_mem hf a).2 ha
    · rw [upd_other _ e] at h1
      exact (supp_mem hf y).2 h1
theorem Few.new (x : Nat) : Few (newV x) := by
  unfold Few newV
  have : supp (fun _ => none : Int → Option Ft) = [] := supp_eq List.Pairwise.nil fun x => by simp
  rw [this]
  simp
section
variable {v : Vt} {m : Nat}
theorem Few.open (h : Few v) (t a n : Int) : Few (openV v t a n) := by unfold openV; split <;> exact h
theorem Few.hold (h : Few v) (g : Good v m) (t : Int) (p : Pt) : Few (holdV v t p) := by
  unfold holdV
  split
  · rename_i h0
    have := (hold_ok h0).2.1.2.2
    have h2 := supp_one g.ffin p.id (some ⟨1, t, p.acc⟩)
    show (supp (upd v.fates p.id _)).length ≤ 5000
    omega
  · exact h
theorem Few.commit (h : Few v) (g : Good v m) (t id : Int) : Few (commitV v t id) := by
  unfold commitV
  split
  · rename_i h0
    refine Nat.le_trans (supp_known g.ffin id _ ?_) h
    rw [fate_some (v := v) (id := id) (by rw [h0.2.1]; decide)]
    rfl
  · exact h
theorem Few.drop (h : Few v) (g : Good v m) (id : Int) : Few (dropV v id) := by
  unfold dropV
  split
  · rename_i h0
    show (supp (upd v.fates id _)).length ≤ 5000
    cases hs : (v.fates id).isSome with
    | true => exact Nat.le_trans (supp_known g.ffin id _ hs) h
    | false =>
      have h2 := supp_one g.ffin id (some ⟨3, 0, 0⟩)
      have h3 : isFullV v = false := by
        unfold dropE at h0
        split at h0
        · cases h0
        split at h0
        · cases h0
        split at h0
        · cases h0
        · rename_i h4
          cases e : isFullV v with
          | false => rfl
          | true => exact absurd ⟨hs, e⟩ h4
      unfold isFullV at h3
      have := of_decide_eq_false h3
      omega
  · exact h
theorem Few.close (h : Few v) (t : Int) : Few (closeV v t) := by unfold closeV; split <;> exact h
theorem Few.prune (h : Few v) (t : Int) : Few (pruneV v t) := h
theorem Few.one (h : Few v) (g : Good v m) (o : Op15) : Few (oneV v o) := by
  unfold oneV
  split
  · exact h.open _ _ _
  split
  · exact h.hold g _ _
  split
  · exact h.commit g _ _
  split
  · exact h.drop g _
  split
  · exact h.close _
  split
  · exact h.prune _
  · exact h
theorem Good.one (g : Good v m) (hm : m < 4000) (o : Op15) : Good (oneV v o) (m + 1) := by
  unfold oneV
  split
  · exact g.open hm _ _ _
  split
  · exact g.hold _ _
  split
  · exact g.commit hm _ _
  split
  · exact (g.drop _).le (Nat.le_succ m)
  split
  · exact (g.close _).le (Nat.le_succ m)
  split
  · exact (g.prune _).le (Nat.le_succ m)
  · exact g.le (Nat.le_succ m)
/-- No more parts are held than are known. -/
theorem held_len (g : Good v m) : (supp v.held).length ≤ (supp v.fates).length := by
  have h1 : ((supp v.held).map (idAt v)).length ≤ (supp (byId v)).length := len_sub (ids_nodup g (supp_rises g.hfin).nodup fun a ha => (supp_mem g.hfin a).1 ha) fun id hid => by
    rw [supp_mem (byId_fin g)]
    exact (ids_mem g (supp_mem g.hfin) id).1 hid
  rw [List.length_map] at h1
  exact Nat.le_trans h1 (ids_len g)
theorem mk_ok {x : Nat} (hx : Am.rated x = true) (l : List Op15) : ∀ (v : Vt) (m : Nat), Good v m → Few v → m + l.length < 4000 → Good (l.foldl oneV v) (m + l.length) ∧ Few (l.foldl oneV v) := by
  induction l with
  | nil => intro v m g f _; exact ⟨g, f⟩
  | cons o l ih =>
    intro v m g f hm
    simp only [List.length_cons] at hm ⊢
    have := ih (oneV v o) (m + 1) (g.one (by omega) o) (f.one g o) (by omega)
    rw [show m + (l.length + 1) = m + 1 + l.length by omega]
    exact this
theorem rate_one (v : Vt) (o : Op15) : (oneV v o).rate = v.rate := by
  unfold oneV openV holdV commitV dropV closeV pruneV putV
  repeat (first | rfl | split)
end
end Go.Vt
