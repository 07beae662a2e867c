/- Vaults: the plain mathematics of layer 15 (no program): a store, parts that are held, fates, the top. -/
import Derived.Test.YtckhddndeojobaaGreatStoM
import Derived.Test.YtckhddndeojobaaGreatLokM
import Derived.Test.YtckhddndeojobaaGreatAmtM
namespace Go.Vt
open Go.Cn Go.So Go.Lk
set_option linter.unusedVariables false

/-- A part; one that is held; what became of one. -/
structure Pt where
  id : Int
  acc : Int
  n : Int
  pays : Bool
structure Hv where
  p : Pt
  t : Int
  fee : Int
structure Ft where
  is : Int
  t : Int
  acc : Int
instance : Inhabited Hv := ⟨⟨⟨0, 0, 0, false⟩, 0, 0⟩⟩
structure Vt where
  s : Sto
  rate : Nat
  held : Int → Option Hv
  fates : Int → Option Ft
  top : Int
def newV (x : Nat) : Vt := ⟨newS, x, fun _ => none, fun _ => none, 0⟩
def isAc (a : Int) : Bool := decide (0 ≤ a ∧ a < 4096)
def isSt (t : Int) : Bool := decide (1 ≤ t ∧ t ≤ 1125899906842624)
theorem isAc_iff (a : Int) : isAc a = true ↔ 0 ≤ a ∧ a < 4096 := by unfold isAc; rw [decide_eq_true_eq]
theorem isAc_no (a : Int) : isAc a = false ↔ a < 0 ∨ 4096 ≤ a := by unfold isAc; rw [decide_eq_false_iff_not]; omega
theorem isSt_iff (t : Int) : isSt t = true ↔ 1 ≤ t ∧ t ≤ 1125899906842624 := by unfold isSt; rw [decide_eq_true_eq]
theorem isSt_no (t : Int) : isSt t = false ↔ t < 1 ∨ 1125899906842624 < t := by unfold isSt; rw [decide_eq_false_iff_not]; omega
/-- What a key has now. -/
def nowV (v : Vt) (k : Int) : Int := (lastS v.s k).2
def noFt : Ft := ⟨0, 0, 0⟩
def fateOf (v : Vt) (id : Int) : Ft := (v.fates id).getD noFt
def putV (v : Vt) (t : Int) (l : List En) : Vt := { v with s := putS v.s t l, top := max v.top t }

/-! ### What is done -/
def orderE (v : Vt) (t : Int) : Int := if isSt t = false then 151 else if t ≤ v.top then 152 else 0
def openE (v : Vt) (t a n : Int) : Int := if orderE v t = 0 then (if isAc a = false then 153 else if (v.s.ch a).isSome = true then 154 else if Am.isA n = false then 155 else 0) else orderE v t
def openV (v : Vt) (t a n : Int) : Vt := if openE v t a n = 0 then putV v t [(a, n)] else v
noncomputable def isFullV (v : Vt) : Bool := decide (5000 ≤ (supp v.fates).length)
noncomputable def unknownE (v : Vt) (id : Int) : Int := if id < 1 then 156 else if (v.fates id).isSome = true then 157 else if isFullV v = true then 158 else 0
def chg (v : Vt) (p : Pt) : Int := if p.pays = true then Am.feeV p.n v.rate else 0
def chargeE (v : Vt) (p : Pt) : Int :=
  if isAc p.acc = false then 153 else if Am.isA p.n = false ∨ p.n = 0 then 155 else if (v.s.ch p.acc).isSome = false then 159 else if (v.held p.acc).isSome = true then 160 else
  if p.pays = true ∧ nowV v p.acc < p.n + chg v p then 161 else if p.pays = false ∧ 1000000000000000 < nowV v p.acc + p.n then 162 else 0
noncomputable def holdE (v : Vt) (t : Int) (p : Pt) : Int := if orderE v t = 0 then (if unknownE v p.id = 0 then chargeE v p else unknownE v p.id) else orderE v t
noncomputable def holdV (v : Vt) (t : Int) (p : Pt) : Vt := if holdE v t p = 0 then { v with held := upd v.held p.acc (some ⟨p, t, chg v p⟩), fates := upd v.fates p.id (some ⟨1, t, p.acc⟩), top := t } else v
def commitE (v : Vt) (t id : Int) : Int :=
  if isSt t = false then 151 else if (fateOf v id).is = 2 ∧ (fateOf v id).t = t then 0 else if (fateOf v id).is = 2 then 157 else if (fateOf v id).is ≠ 1 then 163 else if t < (fateOf v id).t then 152 else 0
def changedV (v : Vt) (h : Hv) : List En :=
  if h.p.pays = false then [(h.p.acc, nowV v h.p.acc + h.p.n)] else if h.fee = 0 then [(h.p.acc, nowV v h.p.acc - h.p.n)] else [(h.p.acc, nowV v h.p.acc - h.p.n - h.fee), (4096 + h.p.acc, nowV v (4096 + h.p.acc) + h.fee)]
def heldAt (v : Vt) (a : Int) : Hv := (v.held a).getD default
def happens (v : Vt) (t id : Int) : Prop := isSt t = true ∧ (fateOf v id).is = 1 ∧ (fateOf v id).t ≤ t
instance (v : Vt) (t id : Int) : Decidable (happens v t id) := by unfold happens; exact inferInstance
def commitV (v : Vt) (t id : Int) : Vt :=
  if happens v t id then { putV v t (changedV v (heldAt v (fateOf v id).acc)) with held := upd v.held (fateOf v id).acc none, fates := upd v.fates id (some ⟨2, t, 0⟩) } else v
noncomputable def dropE (v : Vt) (id : Int) : Int := if id < 1 then 156 else if (fateOf v id).is = 2 then 157 else if (v.fates id).isSome = false ∧ isFullV v = true then 158 else 0
noncomputable def dropV (v : Vt) (id : Int) : Vt := if dropE v id = 0 then { v with held := if (fateOf v id).is = 1 then upd v.held (fateOf v id).acc none else v.held, fates := upd v.fates id (some ⟨3, 0, 0⟩) } else v
def Busy (v : Vt) (t : Int) : Prop := ∃ a h, v.held a = some h ∧ h.t ≤ t
open Classical in
noncomputable def closeE (v : Vt) (t : Int) : Int := if isT t = false then 151 else if Busy v t then 160 else 0
noncomputable def closeV (v : Vt) (t : Int) : Vt := if closeE v t = 0 then { v with s := closeS v.s t, top := max v.top t } else v
def oursE (e : Int) : Int := if e = 120 then 151 else if e = 128 then 164 else if e = 126 then 165 else if e = 127 then 159 else e
def pruneV (v : Vt) (t : Int) : Vt := { v with s := pruneS v.s t }
def hasE (v : Vt) (a t : Int) : Int := if isAc a = false then 153 else oursE (getSE v.s a t)
def hasN (v : Vt) (a t : Int) : Int := if isAc a = false then 0 else (getSV v.s a t).2

/-! ### What holds of each vault -/
structure Hg (v : Vt) (a : Int) (h : Hv) : Prop where
  acc : h.p.acc = a
  ac : 0 ≤ a ∧ a < 4096
  id : v.fates h.p.id = some ⟨1, h.t, a⟩
  t : v.s.closed < h.t ∧ 1 ≤ h.t ∧ h.t ≤ v.top
  last : ∀ k c, (k = a ∨ k = 4096 + a) → v.s.ch k = some c → (lastV c.l).1 < h.t
  n : 1 ≤ h.p.n ∧ h.p.n ≤ 1000000000000000
  fee : 0 ≤ h.fee ∧ h.fee ≤ h.p.n
  pays : h.p.pays = true → h.p.n + h.fee ≤ nowV v a
  gets : h.p.pays = false → nowV v a + h.p.n ≤ 1000000000000000
  there : (v.s.ch a).isSome = true
structure Good (v : Vt) (m : Nat) : Prop where
  sto : Go.So.Fine v.s
  rate : Am.rated v.rate = true
  top : v.s.closed ≤ v.top ∧ v.top ≤ 1125899906842624
  ver : ∀ k c, v.s.ch k = some c → (lastV c.l).1 ≤ v.top ∧ c.l.length ≤ m ∧ 0 ≤ (lastV c.l).2 ∧ (lastV c.l).2 ≤ 1000000000000000 * m ∧ (k < 4096 → (lastV c.l).2 ≤ 1000000000000000)
  held : ∀ a h, v.held a = some h → Hg v a h
  fate : ∀ id f, v.fates id = some f → 1 ≤ id ∧ ((f.is = 1 ∧ ∃ h, v.held f.acc = some h ∧ h.p.id = id ∧ h.t = f.t) ∨ (f.is = 2 ∧ 1 ≤ f.t ∧ f.t ≤ v.top) ∨ (f.is = 3 ∧ f.t = 0))
  hfin : Fin1 v.held
  ffin : Fin1 v.fates
theorem Good.new {x : Nat} (h : Am.rated x = true) (m : Nat) : Good (newV x) m :=
  ⟨Go.So.Fine.new, h, by simp [newV, newS], fun k c hk => (by cases hk), fun a h hh => (by cases hh), fun id f hf => (by cases hf), Fin1.none, Fin1.none⟩
theorem Good.le {v : Vt} {m m' : Nat} (h : Good v m) (hm : m ≤ m') : Good v m' :=
  ⟨h.sto, h.rate, h.top, fun k c hk => by obtain ⟨a, b, c, d, e⟩ := h.ver k c hk; exact ⟨a, by omega, c, by omega, e⟩, h.held, h.fate, h.hfin, h.ffin⟩
theorem Good.topNN {v : Vt} {m : Nat} (h : Good v m) : 0 ≤ v.top := by have := h.sto.range; have := h.top; omega
theorem now_of {v : Vt} {k : Int} {c : Cs} (h : v.s.ch k = some c) : nowV v k = (lastV c.l).2 := by unfold nowV lastS; rw [h]
theorem now_congr {v v' : Vt} {k : Int} (h : v.s.ch k = v'.s.ch k) : nowV v k = nowV v' k := by unfold nowV lastS; rw [h]
theorem now_none {v : Vt} {k : Int} (h : v.s.ch k = none) : nowV v k = 0 := by unfold nowV lastS; rw [h]
theorem Good.now {v : Vt} {m : Nat} (h : Good v m) (k : Int) : 0 ≤ nowV v k ∧ nowV v k ≤ 1000000000000000 * m ∧ (k < 4096 → nowV v k ≤ 1000000000000000) := by
  cases hk : v.s.ch k with
  | none => rw [now_none hk]; omega
  | some c => rw [now_of hk]; exact (h.ver k c hk).2.2
theorem lastV_snoc (l : List Ve) (v : Ve) : lastV (l ++ [v]) = v := by
  unfold lastV
  simp
/-- What was put, where it could be. -/
structure Putted (s s' : Sto) (t : Int) (l : List En) : Prop where
  eqn : putS s t l = s' ∧ putSE s t l = 0
  same : s'.closed = s.closed ∧ s'.mark = s.mark
  new : ∀ e ∈ l, ∃ c', s'.ch e.1 = some c' ∧ lastV c'.l = (t, e.2) ∧ c'.l.length ≤ lenS s e.1 + 1
  old : ∀ k, (∀ e ∈ l, e.1 ≠ k) → s'.ch k = s.ch k
  fine : Go.So.Fine s'
theorem put_ok {s : Sto} (hf : Go.So.Fine s) {t : Int} {l : List En} (ht : 1 ≤ t ∧ t ≤ 1125899906842624) (hc : s.closed < t) (hl : l.length ≤ 100) (hcan : Cans s t l) : ∃ s', Putted s s' t l := by
  have h0 : putSE s t l = 0 := by
    unfold putSE
    rw [if_neg (by omega), if_neg (by omega), if_neg (by omega)]
    exact scan_can.2 hcan
  have hs : putS s t l = addsS s t l := by unfold putS; rw [if_pos h0]
  refine ⟨addsS s t l, ⟨hs, h0⟩, adds_keeps s t l, fun e he => ?_, fun k hk => adds_other s t k l hk, hs ▸ hf.put t l⟩
  refine ⟨_, adds_at s t l hcan.once e he, ?_, ?_⟩
  · rw [((hcan.can e he).put hf ht hc e.2).2]
    exact lastV_snoc _ _
  · rw [((hcan.can e he).put hf ht hc e.2).2]
    unfold lenS
    cases hk : s.ch e.1 <;> simp
section
variable {v : Vt} {m : Nat}
theorem Good.len (h : Good v m) (k : Int) : lenS v.s k ≤ m := by
  unfold lenS
  cases hk : v.s.ch k with
  | none => exact Nat.zero_le _
  | some c => exact (h.ver k c hk).2.1
theorem order_ok {t : Int} (h : orderE v t = 0) : 1 ≤ t ∧ t ≤ 1125899906842624 ∧ v.top < t := by
  unfold orderE at h
  cases h1 : isSt t with
  | false => rw [h1] at h; simp at h
  | true =>
    have := (isSt_iff t).1 h1
    rw [h1] at h
    simp at h
    omega
theorem open_ok {t a n : Int} (h : openE v t a n = 0) : (1 ≤ t ∧ t ≤ 1125899906842624 ∧ v.top < t) ∧ (0 ≤ a ∧ a < 4096) ∧ v.s.ch a = none ∧ 0 ≤ n ∧ n ≤ 1000000000000000 := by
  unfold openE at h
  by_cases h0 : orderE v t = 0
  · rw [if_pos h0] at h
    cases h1 : isAc a with
    | false => rw [h1] at h; simp at h
    | true =>
      rw [h1] at h
      cases h2 : v.s.ch a with
      | some c => rw [h2] at h; simp at h
      | none =>
        rw [h2] at h
        cases h3 : Am.isA n with
        | false => rw [h3] at h; simp at h
        | true => exact ⟨order_ok h0, (isAc_iff a).1 h1, rfl, (Am.isA_iff n).1 h3⟩
  · rw [if_neg h0] at h; exact absurd h h0
/-- A key's last version is below t, and it has room. -/
theorem Good.can (h : Good v m) (hm : m < 4000) {t k : Int} (hk : 0 ≤ k ∧ k < 8192) (hl : ∀ c, v.s.ch k = some c → (lastV c.l).1 < t) : So.Can v.s t k :=
  ⟨hk, fun c hc => ⟨hl c hc, by have := (h.ver k c hc).2.1; omega⟩⟩
theorem nodup1 (k n : Int) : (([(k, n)] : List En).map fun e => e.1).Nodup := by simp
theorem Good.open (h : Good v m) (hm : m < 4000) (t a n : Int) : Good (openV v t a n) (m + 1) := by
  unfold openV
  by_cases h0 : openE v t a n = 0
  · rw [if_pos h0]
    obtain ⟨⟨t1, t2, t3⟩, ha, hn, n1, n2⟩ := open_ok h0
    have htop := h.top
    obtain ⟨s', ps⟩ := put_ok h.sto (l := [(a, n)]) ⟨t1, t2⟩ (by omega) (by simp) ⟨fun e he => by
      rw [List.mem_singleton.1 he]
      exact h.can hm (by simp; omega) fun c hc => (by rw [hn] at hc; cases hc), nodup1 a n⟩
    unfold putV
    rw [ps.eqn.1]
    have hother : ∀ k, k ≠ a → s'.ch k = v.s.ch k := fun k hk => ps.old k fun e he => by rw [List.mem_singleton.1 he]; exact fun e => hk e.symm
    have hmax : max v.top t = t := by omega
    rw [hmax]
    refine ⟨ps.fine, h.rate, ⟨by rw [ps.same.1]; show v.s.closed ≤ t; omega, t2⟩, fun k c hk => ?_, fun b g hg => ?_, fun id f hf => ?_, h.hfin, h.ffin⟩
    · by_cases e : k = a
      · subst e
        obtain ⟨c', hc', hl, hlen⟩ := ps.new (k, n) (List.mem_singleton.2 rfl)
        have hk' : s'.ch k = some c := hk
        rw [hc'] at hk'
        injection hk' with hk'
        subst hk'
        rw [hl]
        have := h.len k
        simp only at hlen
        refine ⟨Int.le_refl _, by omega, n1, ?_, fun _ => n2⟩
        simp only
        omega
      · have hk' : s'.ch k = some c := hk
        rw [hother k e] at hk'
        obtain ⟨a1, a2, a3, a4, a5⟩ := h.ver k c hk'
        exact ⟨by show _ ≤ t; omega, by omega, a3, by omega, a5⟩
    · have g0 := h.held b g hg
      have hba : b ≠ a := fun e => by have := g0.there; rw [e, hn] at this; cases this
      have hb2 : 4096 + b ≠ a := by have := g0.ac; omega
      have hnow : nowV ⟨s', v.rate, v.held, v.fates, t⟩ b = nowV v b := now_congr (hother b hba)
      refine ⟨g0.acc, g0.ac, g0.id, ⟨by rw [ps.same.1]; exact g0.t.1, g0.t.2.1, by show _ ≤ t; have := g0.t.2.2; omega⟩, fun k c hk hc => ?_, g0.n, g0.fee, fun hp => by rw [hnow]; exact g0.pays hp, fun hp => by rw [hnow]; exact g0.gets hp, by show (s'.ch b).isSome = true; rw [hother b hba]; exact g0.there⟩
      have hka : k ≠ a := by rcases hk with rfl | rfl <;> assumption
      have hc' : s'.ch k = some c := hc
      rw [hother k hka] at hc'
      exact g0.last k c hk hc'
    · obtain ⟨f1, f2⟩ := h.fate id f hf
      refine ⟨f1, ?_⟩
      rcases f2 with f2 | ⟨f2, f3, f4⟩ | f2
      · exact .inl f2
      · exact .inr (.inl ⟨f2, f3, by show _ ≤ t; omega⟩)
      · exact .inr (.inr f2)
  · rw [if_neg h0]; exact h.le (Nat.le_succ m)
theorem unknown_ok {id : Int} (h : unknownE v id = 0) : 1 ≤ id ∧ v.fates id = none ∧ (supp v.fates).length < 5000 := by
  unfold unknownE at h
  by_cases h1 : id < 1
  · rw [if_pos h1] at h; cases h
  · rw [if_neg h1] at h
    cases h2 : v.fates id with
    | some f => rw [h2] at h; simp at h
    | none =>
      rw [h2] at h
      cases h3 : isFullV v with
      | true => rw [h3] at h; simp at h
      | false =>
        unfold isFullV at h3
        have := of_decide_eq_false h3
        exact ⟨by omega, rfl, by omega⟩
structure ChOk (v : Vt) (p : Pt) : Prop where
  ac : 0 ≤ p.acc ∧ p.acc < 4096
  n : 1 ≤ p.n ∧ p.n ≤ 1000000000000000
  there : (v.s.ch p.acc).isSome = true
  free : v.held p.acc = none
  pays : p.pays = true → p.n + chg v p ≤ nowV v p.acc
  gets : p.pays = false → nowV v p.acc + p.n ≤ 1000000000000000
theorem charge_ok {p : Pt} (h : chargeE v p = 0) : ChOk v p := by
  unfold chargeE at h
  cases h1 : isAc p.acc with
  | false => rw [h1] at h; simp at h
  | true =>
    rw [h1, if_neg (by simp)] at h
    by_cases h2 : Am.isA p.n = false ∨ p.n = 0
    · rw [if_pos h2] at h; cases h
    · rw [if_neg h2] at h
      cases h3 : (v.s.ch p.acc).isSome with
      | false => rw [h3] at h; simp at h
      | true =>
        rw [h3, if_neg (by simp)] at h
        cases h4 : v.held p.acc with
        | some g => rw [h4] at h; simp at h
        | none =>
          rw [h4, if_neg (by simp)] at h
          by_cases h5 : p.pays = true ∧ nowV v p.acc < p.n + chg v p
          · rw [if_pos h5] at h; cases h
          · rw [if_neg h5] at h
            by_cases h6 : p.pays = false ∧ 1000000000000000 < nowV v p.acc + p.n
            · rw [if_pos h6] at h; cases h
            · have hA : Am.isA p.n = true := by
                cases e : Am.isA p.n with
                | true => rfl
                | false => exact absurd (.inl e) h2
              have hA := (Am.isA_iff _).1 hA
              have h0 : p.n ≠ 0 := fun e => h2 (.inr e)
              exact ⟨(isAc_iff _).1 h1, by omega, h3, h4, fun hp => by
                have : ¬ nowV v p.acc < p.n + chg v p := fun hh => h5 ⟨hp, hh⟩
                omega, fun hp => by
                have : ¬ 1000000000000000 < nowV v p.acc + p.n := fun hh => h6 ⟨hp, hh⟩
                omega⟩
theorem hold_ok {t : Int} {p : Pt} (h : holdE v t p = 0) : (1 ≤ t ∧ t ≤ 1125899906842624 ∧ v.top < t) ∧ (1 ≤ p.id ∧ v.fates p.id = none ∧ (supp v.fates).length < 5000) ∧ ChOk v p := by
  unfold holdE at h
  by_cases h0 : orderE v t = 0
  · rw [if_pos h0] at h
    by_cases h1 : unknownE v p.id = 0
    · rw [if_pos h1] at h
      exact ⟨order_ok h0, unknown_ok h1, charge_ok h⟩
    · rw [if_neg h1] at h; exact absurd h h1
  · rw [if_neg h0] at h; exact absurd h h0
theorem chg_range (h : Good v m) {p : Pt} (hn : 1 ≤ p.n ∧ p.n ≤ 1000000000000000) : 0 ≤ chg v p ∧ chg v p ≤ p.n := by
  unfold chg
  split
  · unfold Am.feeV
    rw [(Am.isA_iff p.n).2 (by omega), h.rate]
    have := Am.fee_range p.n v.rate (by omega) h.rate
    simpa using this
  · omega
theorem Good.hold (h : Good v m) (t : Int) (p : Pt) : Good (holdV v t p) (m + 1) := by
  unfold holdV
  by_cases h0 : holdE v t p = 0
  · rw [if_pos h0]
    obtain ⟨⟨t1, t2, t3⟩, ⟨i1, i2, i3⟩, q⟩ := hold_ok h0
    have htop := h.top
    refine ⟨h.sto, h.rate, ⟨by show v.s.closed ≤ t; omega, t2⟩, fun k c hk => ?_, fun b g hg => ?_, fun id f hf => ?_, h.hfin.upd _ _, h.ffin.upd _ _⟩
    · obtain ⟨a1, a2, a3, a4, a5⟩ := h.ver k c hk
      exact ⟨by show _ ≤ t; omega, by omega, a3, by omega, a5⟩
    · have hg' : upd v.held p.acc (some ⟨p, t, chg v p⟩) b = some g := hg
      by_cases e : b = p.acc
      · subst e
        rw [upd_same] at hg'
        injection hg' with hg'
        subst hg'
        refine ⟨rfl, q.ac, ?_, ⟨by show v.s.closed < t; omega, t1, Int.le_refl _⟩, fun k c _ hc => ?_, q.n, chg_range h q.n, q.pays, q.gets, q.there⟩
        · show upd v.fates p.id _ p.id = _
          rw [upd_same]
        · have := (h.ver k c hc).1
          show _ < t
          omega
      · rw [upd_other _ e] at hg'
        have g0 := h.held b g hg'
        refine ⟨g0.acc, g0.ac, ?_, ⟨g0.t.1, g0.t.2.1, by show _ ≤ t; have := g0.t.2.2; omega⟩, g0.last, g0.n, g0.fee, g0.pays, g0.gets, g0.there⟩
        show upd v.fates p.id _ g.p.id = _
        rw [upd_other _ (fun e2 => by have := g0.id; rw [e2, i2] at this; cases this)]
        exact g0.id
    · have hf' : upd v.fates p.id (some ⟨1, t, p.acc⟩) id = some f := hf
      by_cases e : id = p.id
      · subst e
        rw [upd_same] at hf'
        injection hf' with hf'
        subst hf'
        refine ⟨i1, .inl ⟨rfl, ⟨p, t, chg v p⟩, ?_, rfl, rfl⟩⟩
        show upd v.held p.acc _ p.acc = _
        rw [upd_same]
      · rw [upd_other _ e] at hf'
        obtain ⟨f1, f2⟩ := h.fate id f hf'
        refine ⟨f1, ?_⟩
        rcases f2 with ⟨f2, g, hg, f3⟩ | ⟨f2, f3, f4⟩ | f2
        · refine .inl ⟨f2, g, ?_, f3⟩
          show upd v.held p.acc _ f.acc = _
          rw [upd_other _ (fun e2 => by rw [e2, q.free] at hg; cases hg)]
          exact hg
        · exact .inr (.inl ⟨f2, f3, by show _ ≤ t; omega⟩)
        · exact .inr (.inr f2)
  · rw [if_neg h0]; exact h.le (Nat.le_succ m)
end
end Go.Vt
