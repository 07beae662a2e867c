/- Vaults, plain: what a part that is held comes to: it happens, or is dropped; closed, pruned. -/
import Derived.Test.YtckhddndeojobaaGreatVltM
namespace Go.Vt
open Go.Cn Go.So Go.Lk
set_option linter.unusedVariables false
section
variable {v : Vt} {m : Nat}
theorem fate_some {id : Int} (h : (fateOf v id).is ≠ 0) : v.fates id = some (fateOf v id) := by
  unfold fateOf at *
  cases e : v.fates id with
  | none => rw [e] at h; exact absurd rfl h
  | some f => rfl
/-- A part that is held, out of its fate. -/
theorem Good.heldBy (h : Good v m) {id : Int} (hi : (fateOf v id).is = 1) : v.held (fateOf v id).acc = some (heldAt v (fateOf v id).acc) ∧ (heldAt v (fateOf v id).acc).p.id = id ∧ (heldAt v (fateOf v id).acc).t = (fateOf v id).t := by
  obtain ⟨-, f2⟩ := h.fate id _ (fate_some (by rw [hi]; decide))
  rcases f2 with ⟨-, g, hg, g1, g2⟩ | ⟨f2, -⟩ | ⟨f2, -⟩
  · unfold heldAt
    rw [hg]
    exact ⟨rfl, g1, g2⟩
  · rw [hi] at f2; cases f2
  · rw [hi] at f2; cases f2
/-- What is put when a part happens can be put. -/
theorem Good.puts (h : Good v m) (hm : m < 4000) {a : Int} {g : Hv} (hg : v.held a = some g) {t : Int} (ht : isSt t = true) (hgt : g.t ≤ t) : ∃ s', Putted v.s s' t (changedV v g) := by
  have g0 := h.held a g hg
  have t0 := (isSt_iff t).1 ht
  have hac := g0.ac
  have hacc := g0.acc
  refine put_ok h.sto t0 (by have := g0.t; omega) (by unfold changedV; split; simp; split <;> simp) ⟨fun e he => ?_, ?_⟩
  · unfold changedV at he
    split at he
    · rw [List.mem_singleton.1 he, hacc]
      exact h.can hm (by simp; omega) fun c hc => by have := g0.last a c (.inl rfl) hc; omega
    split at he
    · rw [List.mem_singleton.1 he, hacc]
      exact h.can hm (by simp; omega) fun c hc => by have := g0.last a c (.inl rfl) hc; omega
    · rcases List.mem_cons.1 he with rfl | he
      · rw [hacc]
        exact h.can hm (by simp; omega) fun c hc => by have := g0.last a c (.inl rfl) hc; omega
      · rw [List.mem_singleton.1 he, hacc]
        exact h.can hm (by simp; omega) fun c hc => by have := g0.last (4096 + a) c (.inr rfl) hc; omega
  · unfold changedV
    split
    · simp
    split
    · simp
    · simp; omega
/-- What stands behind it. -/
structure Did (v v' : Vt) (t id a : Int) (g : Hv) : Prop where
  put : Putted v.s v'.s t (changedV v g)
  rate : v'.rate = v.rate
  held : v'.held = upd v.held a none
  fates : v'.fates = upd v.fates id (some ⟨2, t, 0⟩)
  top : v'.top = max v.top t
theorem Good.did (h : Good v m) (hm : m < 4000) {t id : Int} (hh : happens v t id) : Did v (commitV v t id) t id (fateOf v id).acc (heldAt v (fateOf v id).acc) := by
  obtain ⟨h1, h2, h3⟩ := hh
  obtain ⟨k1, k2, k3⟩ := h.heldBy h2
  obtain ⟨s', ps⟩ := h.puts hm k1 h1 (by rw [k3]; exact h3)
  have e : commitV v t id = { putV v t (changedV v (heldAt v (fateOf v id).acc)) with held := upd v.held (fateOf v id).acc none, fates := upd v.fates id (some ⟨2, t, 0⟩) } := by
    unfold commitV
    rw [if_pos ⟨h1, h2, h3⟩]
  rw [e]
  exact ⟨by show Putted v.s (putS v.s t _) t _; rw [ps.eqn.1]; exact ps, rfl, rfl, rfl, rfl⟩
theorem did_key {v v' : Vt} {t id a : Int} {g : Hv} (d : Did v v' t id a g) (hacc : g.p.acc = a) {k : Int} (hk : k ≠ a ∧ k ≠ 4096 + a) : v'.s.ch k = v.s.ch k := by
  refine d.put.old k fun e he => ?_
  unfold changedV at he
  split at he
  · rw [List.mem_singleton.1 he]
    show g.p.acc ≠ k
    omega
  split at he
  · rw [List.mem_singleton.1 he]
    show g.p.acc ≠ k
    omega
  · rcases List.mem_cons.1 he with rfl | he
    · show g.p.acc ≠ k; omega
    · rw [List.mem_singleton.1 he]
      show 4096 + g.p.acc ≠ k; omega
/-- What the account has, and has paid, then. -/
theorem did_now {v v' : Vt} {t id a : Int} {g : Hv} (d : Did v v' t id a g) (hacc : g.p.acc = a) :
    (g.p.pays = false → nowV v' a = nowV v a + g.p.n ∧ nowV v' (4096 + a) = nowV v (4096 + a)) ∧ (g.p.pays = true → nowV v' a = nowV v a - g.p.n - g.fee ∧ nowV v' (4096 + a) = nowV v (4096 + a) + g.fee) := by
  subst hacc
  have hat : ∀ e ∈ changedV v g, nowV v' e.1 = e.2 := fun e he => by
    obtain ⟨c', h1, h2, -⟩ := d.put.new e he
    rw [now_of h1, h2]
  constructor
  · intro hp
    have hc : changedV v g = [(g.p.acc, nowV v g.p.acc + g.p.n)] := by unfold changedV; rw [if_pos hp]
    refine ⟨hat (g.p.acc, nowV v g.p.acc + g.p.n) (by rw [hc]; simp), now_congr (d.put.old _ fun e he => ?_)⟩
    rw [hc] at he
    rw [List.mem_singleton.1 he]
    show g.p.acc ≠ 4096 + g.p.acc
    omega
  · intro hp
    by_cases hf : g.fee = 0
    · have hc : changedV v g = [(g.p.acc, nowV v g.p.acc - g.p.n)] := by unfold changedV; rw [if_neg (by rw [hp]; simp), if_pos hf]
      have h1 := hat (g.p.acc, nowV v g.p.acc - g.p.n) (by rw [hc]; simp)
      have h2 : nowV v' (4096 + g.p.acc) = nowV v (4096 + g.p.acc) := now_congr (d.put.old _ fun e he => by
        rw [hc] at he
        rw [List.mem_singleton.1 he]
        show g.p.acc ≠ 4096 + g.p.acc
        omega)
      simp only at h1
      exact ⟨by omega, by omega⟩
    have hc : changedV v g = [(g.p.acc, nowV v g.p.acc - g.p.n - g.fee), (4096 + g.p.acc, nowV v (4096 + g.p.acc) + g.fee)] := by unfold changedV; rw [if_neg (by rw [hp]; simp), if_neg hf]
    exact ⟨hat (g.p.acc, nowV v g.p.acc - g.p.n - g.fee) (by rw [hc]; simp), hat (4096 + g.p.acc, nowV v (4096 + g.p.acc) + g.fee) (by rw [hc]; simp)⟩
theorem Good.commit (h : Good v m) (hm : m < 4000) (t id : Int) : Good (commitV v t id) (m + 1) := by
  by_cases hh : happens v t id
  · have d := h.did hm hh
    obtain ⟨h1, h2, h3⟩ := hh
    obtain ⟨k1, k2, k3⟩ := h.heldBy h2
    have t0 := (isSt_iff t).1 h1
    generalize heldAt v (fateOf v id).acc = g at *
    generalize hv' : commitV v t id = v' at *
    have hfs := fate_some (v := v) (id := id) (by rw [h2]; decide)
    generalize (fateOf v id).acc = a at *
    have g0 := h.held a g k1
    have hac := g0.ac
    have hacc := g0.acc
    have hgt : g.t ≤ t := by rw [k3]; exact h3
    have htop := h.top
    have htt : v.top ≤ v'.top ∧ t ≤ v'.top ∧ v'.top ≤ 1125899906842624 := by rw [d.top]; omega
    have ho : ∀ k, (k ≠ a ∧ k ≠ 4096 + a) → v'.s.ch k = v.s.ch k := fun k hk => did_key d hacc hk
    obtain ⟨n1, n2⟩ := did_now d hacc
    refine ⟨d.put.fine, by rw [d.rate]; exact h.rate, ⟨by rw [d.put.same.1]; omega, htt.2.2⟩, fun k c hk => ?_, fun b q hq => ?_, fun j f hf => ?_, by rw [d.held]; exact h.hfin.upd _ _, by rw [d.fates]; exact h.ffin.upd _ _⟩
    · by_cases hin : ∃ e ∈ changedV v g, e.1 = k
      · obtain ⟨e, he, rfl⟩ := hin
        obtain ⟨c', c1, c2, c3⟩ := d.put.new e he
        rw [c1] at hk
        injection hk with hk
        subst hk
        rw [c2]
        have hlen := h.len e.1
        have hv1 := h.now a
        have hv2 := h.now (4096 + a)
        have hn := g0.n
        have hfee := g0.fee
        have key : 0 ≤ e.2 ∧ e.2 ≤ 1000000000000000 * ((m + 1 : Nat) : Int) ∧ (e.1 < 4096 → e.2 ≤ 1000000000000000) := by
          unfold changedV at he
          split at he
          · rename_i hp
            have hg := g0.gets hp
            rw [List.mem_singleton.1 he]
            simp only [hacc]
            omega
          rename_i hp
          have hp : g.p.pays = true := by simpa using hp
          have hg := g0.pays hp
          split at he
          · rw [List.mem_singleton.1 he]
            simp only [hacc]
            omega
          · rcases List.mem_cons.1 he with rfl | he
            · simp only [hacc]
              omega
            · rw [List.mem_singleton.1 he]
              simp only [hacc]
              omega
        exact ⟨htt.2.1, by omega, key.1, key.2.1, key.2.2⟩
      · have hk' : v.s.ch k = some c := by rw [← d.put.old k fun e he e2 => hin ⟨e, he, e2⟩]; exact hk
        obtain ⟨a1, a2, a3, a4, a5⟩ := h.ver k c hk'
        exact ⟨by omega, by omega, a3, by omega, a5⟩
    · rw [d.held] at hq
      have hba : b ≠ a := fun e => by rw [e, upd_same] at hq; cases hq
      rw [upd_other _ hba] at hq
      have q0 := h.held b q hq
      have hb := q0.ac
      have hk1 := ho b (by omega)
      have hk2 := ho (4096 + b) (by omega)
      have hnow : nowV v' b = nowV v b := now_congr hk1
      refine ⟨q0.acc, q0.ac, ?_, ⟨by rw [d.put.same.1]; exact q0.t.1, q0.t.2.1, by have := q0.t.2.2; omega⟩, fun k c hk hc => ?_, q0.n, q0.fee, fun hp => by rw [hnow]; exact q0.pays hp, fun hp => by rw [hnow]; exact q0.gets hp, by rw [hk1]; exact q0.there⟩
      · rw [d.fates, upd_other _ (fun e => by
          have := q0.id
          rw [e, hfs] at this
          injection this with this
          have h4 := (h.fate id _ hfs).2
          rcases h4 with ⟨-, g', hg', g1, -⟩ | ⟨h4, -⟩ | ⟨h4, -⟩
          · rw [this] at hg'
            simp only at hg'
            rw [hq] at hg'
            injection hg' with hg'
            subst hg'
            have h5 := g0.id
            rw [k2, hfs, this] at h5
            injection h5 with h5
            injection h5 with _ _ h5
            exact hba h5
          · rw [h2] at h4; cases h4
          · rw [h2] at h4; cases h4)]
        exact q0.id
      · rcases hk with rfl | rfl
        · exact q0.last k c (.inl rfl) (by rw [← hk1]; exact hc)
        · exact q0.last _ c (.inr rfl) (by rw [← hk2]; exact hc)
    · rw [d.fates] at hf
      by_cases e : j = id
      · subst e
        rw [upd_same] at hf
        injection hf with hf
        subst hf
        exact ⟨(h.fate j _ hfs).1, .inr (.inl ⟨rfl, t0.1, htt.2.1⟩)⟩
      · rw [upd_other _ e] at hf
        obtain ⟨f1, f2⟩ := h.fate j f hf
        refine ⟨f1, ?_⟩
        rcases f2 with ⟨f2, q, hq, q1, q2⟩ | ⟨f2, f3, f4⟩ | f2
        · refine .inl ⟨f2, q, ?_, q1, q2⟩
          rw [d.held, upd_other _ (fun e2 => e (by rw [e2, k1] at hq; injection hq with hq; rw [← q1, ← hq]; exact k2))]
          exact hq
        · exact .inr (.inl ⟨f2, f3, by omega⟩)
        · exact .inr (.inr f2)
  · unfold commitV
    rw [if_neg hh]
    exact h.le (Nat.le_succ m)
theorem drop_ok {id : Int} (h : dropE v id = 0) : 1 ≤ id ∧ (fateOf v id).is ≠ 2 := by
  unfold dropE at h
  by_cases h1 : id < 1
  · rw [if_pos h1] at h; cases h
  · rw [if_neg h1] at h
    by_cases h2 : (fateOf v id).is = 2
    · rw [if_pos h2] at h; cases h
    · exact ⟨by omega, h2⟩
theorem Good.drop (h : Good v m) (id : Int) : Good (dropV v id) m := by
  unfold dropV
  by_cases h0 : dropE v id = 0
  · rw [if_pos h0]
    obtain ⟨i1, i2⟩ := drop_ok h0
    have hsub : ∀ b q, (if (fateOf v id).is = 1 then upd v.held (fateOf v id).acc none else v.held) b = some q → v.held b = some q ∧ q.p.id ≠ id := fun b q hq => by
      split at hq
      · rename_i hi
        have hba : b ≠ (fateOf v id).acc := fun e => by rw [e, upd_same] at hq; cases hq
        rw [upd_other _ hba] at hq
        refine ⟨hq, fun e => ?_⟩
        have := (h.held b q hq).id
        rw [e, fate_some (by rw [hi]; decide)] at this
        injection this with this
        rw [this] at hba
        exact hba rfl
      · rename_i hi
        refine ⟨hq, fun e => ?_⟩
        have := (h.held b q hq).id
        rw [e] at this
        exact hi (by unfold fateOf; rw [this]; rfl)
    refine ⟨h.sto, h.rate, h.top, h.ver, fun b q hq => ?_, fun j f hf => ?_, ?_, h.ffin.upd _ _⟩
    · obtain ⟨hq1, hq2⟩ := hsub b q hq
      have q0 := h.held b q hq1
      refine ⟨q0.acc, q0.ac, ?_, q0.t, q0.last, q0.n, q0.fee, q0.pays, q0.gets, q0.there⟩
      show upd v.fates id _ q.p.id = _
      rw [upd_other _ hq2]
      exact q0.id
    · have hf' : upd v.fates id (some ⟨3, 0, 0⟩) j = some f := hf
      by_cases e : j = id
      · subst e
        rw [upd_same] at hf'
        injection hf' with hf'
        subst hf'
        exact ⟨i1, .inr (.inr ⟨rfl, rfl⟩)⟩
      · rw [upd_other _ e] at hf'
        obtain ⟨f1, f2⟩ := h.fate j f hf'
        refine ⟨f1, ?_⟩
        rcases f2 with ⟨f2, q, hq, q1, q2⟩ | f2
        · refine .inl ⟨f2, q, ?_, q1, q2⟩
          show (if (fateOf v id).is = 1 then upd v.held (fateOf v id).acc none else v.held) f.acc = some q
          split
          · rename_i hi
            rw [upd_other _ (fun e2 => e (by
              have k := (h.heldBy hi)
              rw [← e2, hq] at k
              obtain ⟨k1, k2, -⟩ := k
              injection k1 with k1
              rw [← q1, k1]
              exact k2))]
            exact hq
          · exact hq
        · exact .inr f2
    · show Fin1 (if (fateOf v id).is = 1 then upd v.held (fateOf v id).acc none else v.held)
      split
      · exact h.hfin.upd _ _
      · exact h.hfin
  · rw [if_neg h0]; exact h
theorem close_ok {t : Int} (h : closeE v t = 0) : (0 ≤ t ∧ t ≤ 1125899906842624) ∧ ¬ Busy v t := by
  unfold closeE at h
  cases h1 : isT t with
  | false => rw [h1] at h; simp at h
  | true =>
    rw [h1, if_neg (by simp)] at h
    by_cases h2 : Busy v t
    · rw [if_pos h2] at h; cases h
    · exact ⟨(isT_iff t).1 h1, h2⟩
theorem Good.close (h : Good v m) (t : Int) : Good (closeV v t) m := by
  unfold closeV
  by_cases h0 : closeE v t = 0
  · rw [if_pos h0]
    obtain ⟨t0, hb⟩ := close_ok h0
    have hs : closeS v.s t = ⟨v.s.ch, max v.s.closed t, v.s.mark⟩ := by unfold closeS; rw [if_pos ((isT_iff t).2 t0)]
    have htop := h.top
    have hf := h.sto.close t
    rw [hs] at hf ⊢
    refine ⟨hf, h.rate, ⟨by show max v.s.closed t ≤ max v.top t; omega, by show max v.top t ≤ _; omega⟩, fun k c hk => ?_, fun b q hq => ?_, fun j f hj => ?_, h.hfin, h.ffin⟩
    · obtain ⟨a1, a2⟩ := h.ver k c hk
      exact ⟨by show _ ≤ max v.top t; omega, a2⟩
    · have q0 := h.held b q hq
      have hqt : t < q.t := by
        rcases Int.lt_or_le t q.t with h1 | h1
        · exact h1
        · exact absurd ⟨b, q, hq, h1⟩ hb
      exact ⟨q0.acc, q0.ac, q0.id, ⟨by show max v.s.closed t < q.t; have := q0.t.1; omega, q0.t.2.1, by show q.t ≤ max v.top t; have := q0.t.2.2; omega⟩, q0.last, q0.n, q0.fee, q0.pays, q0.gets, q0.there⟩
    · obtain ⟨f1, f2⟩ := h.fate j f hj
      refine ⟨f1, ?_⟩
      rcases f2 with f2 | ⟨f2, f3, f4⟩ | f2
      · exact .inl f2
      · exact .inr (.inl ⟨f2, f3, by show f.t ≤ max v.top t; omega⟩)
      · exact .inr (.inr f2)
  · rw [if_neg h0]; exact h
/-- Pruned, a chain's last version stays. -/
theorem last_prune {c : Cs} (h : 0 < c.l.length) (t : Int) : lastV (prune c t).l = lastV c.l ∧ (prune c t).l.length ≤ c.l.length := by
  rcases prune_cases c t with ⟨_, _, e⟩ | ⟨_, _, _, e⟩ | ⟨_, _, _, e⟩ <;> rw [e]
  · exact ⟨rfl, Nat.le_refl _⟩
  · exact ⟨rfl, Nat.le_refl _⟩
  · have hu := upTo_le c.l t
    refine ⟨?_, by simp⟩
    unfold lastV
    rw [List.length_drop, List.getElem?_drop]
    congr 2
    omega
theorem prune_ch {s : Sto} (t k : Int) : (pruneS s t).ch k = s.ch k ∨ (pruneS s t).ch k = (s.ch k).map fun c => prune c t := by
  rcases pruneS_cases s t with ⟨_, _, e⟩ | ⟨_, _, _, e⟩ | ⟨_, _, _, _, e⟩ | ⟨_, _, _, _, e⟩ <;> rw [e]
  · exact .inl rfl
  · exact .inl rfl
  · exact .inl rfl
  · exact .inr rfl
theorem prune_closed (s : Sto) (t : Int) : (pruneS s t).closed = s.closed := by
  rcases pruneS_cases s t with ⟨_, _, e⟩ | ⟨_, _, _, e⟩ | ⟨_, _, _, _, e⟩ | ⟨_, _, _, _, e⟩ <;> rw [e]
/-- What a pruned store's key shows. -/
theorem prune_at {s : Sto} (hf : Go.So.Fine s) (t k : Int) (c : Cs) (h : (pruneS s t).ch k = some c) : ∃ c0, s.ch k = some c0 ∧ lastV c.l = lastV c0.l ∧ c.l.length ≤ c0.l.length := by
  rcases prune_ch (s := s) t k with e | e
  · rw [e] at h; exact ⟨c, h, rfl, Nat.le_refl _⟩
  · rw [e] at h
    obtain ⟨c0, h1, rfl⟩ := Option.map_eq_some_iff.1 h
    have := last_prune (hf.pos k c0 h1) t
    exact ⟨c0, h1, this⟩
theorem prune_now (h : Good v m) (t k : Int) : nowV (pruneV v t) k = nowV v k := by
  cases hk : (pruneV v t).s.ch k with
  | none =>
    rw [now_none hk]
    have hk' : (pruneS v.s t).ch k = none := hk
    rcases prune_ch (s := v.s) t k with e | e
    · rw [e] at hk'; rw [now_none hk']
    · rw [e] at hk'
      have : v.s.ch k = none := by simpa using hk'
      rw [now_none this]
  | some c =>
    obtain ⟨c0, h1, h2, -⟩ := prune_at h.sto t k c hk
    rw [now_of hk, now_of h1, h2]
theorem Good.prune (h : Good v m) (t : Int) : Good (pruneV v t) m := by
  refine ⟨h.sto.prune t, h.rate, ⟨by show (pruneS v.s t).closed ≤ _; rw [prune_closed]; exact h.top.1, h.top.2⟩, fun k c hk => ?_, fun b q hq => ?_, h.fate, h.hfin, h.ffin⟩
  · obtain ⟨c0, h1, h2, h3⟩ := prune_at h.sto t k c hk
    obtain ⟨a1, a2, a3⟩ := h.ver k c0 h1
    rw [h2]
    exact ⟨a1, by omega, a3⟩
  · have q0 := h.held b q hq
    refine ⟨q0.acc, q0.ac, q0.id, ⟨by show (pruneS v.s t).closed < _; rw [prune_closed]; exact q0.t.1, q0.t.2⟩, fun k c hk hc => ?_, q0.n, q0.fee, fun hp => by rw [prune_now h]; exact q0.pays hp, fun hp => by rw [prune_now h]; exact q0.gets hp, ?_⟩
    · obtain ⟨c0, h1, h2, -⟩ := prune_at h.sto t k c hc
      rw [h2]
      exact q0.last k c0 hk h1
    · show ((pruneS v.s t).ch b).isSome = true
      rcases prune_ch (s := v.s) t b with e | e
      · rw [e]; exact q0.there
      · rw [e]; simpa using q0.there
end
end Go.Vt
