/- Written and read: the plain mathematics of layer 2, whole lists: what was packed is unpacked, what is unpacked has just these bytes, lists joined, lists cut, values apart. -/
import Derived.Test.YtmaeacklloaeaaaWireR
namespace Go.Wr
open Go.Fl
set_option linter.unusedVariables false
set_option linter.unusedSimpArgs false

def Good (l : List Val) : Prop := ∀ v ∈ l, v.wf ∧ valid v = 0

theorem encs_cons (v : Val) (l : List Val) : encs (v :: l) = enc v ++ encs l := rfl
theorem encs_append (l m : List Val) : encs (l ++ m) = encs l ++ encs m := by simp [encs]
theorem enc_ne (v : Val) : enc v ≠ [] := by simp [enc]
theorem enc_pos (v : Val) : 0 < (enc v).length := by simp [enc]

theorem rdAll_encs (l : List Val) : ∀ (k p : Nat) (r : List UInt8), Good l → k + l.length ≤ 1000 →
    rdAll k p (encs l ++ r) = if (rdAll (k + l.length) (p + (encs l).length) r).2.2 = 0 then (l.map nrm ++ (rdAll (k + l.length) (p + (encs l).length) r).1, (rdAll (k + l.length) (p + (encs l).length) r).2.1, 0)
      else ([], (rdAll (k + l.length) (p + (encs l).length) r).2.1, (rdAll (k + l.length) (p + (encs l).length) r).2.2) := by
  induction l with
  | nil =>
    intro k p r _ _
    have key : ∀ x : List Val × Nat × Int, (x.2.2 ≠ 0 → x.1 = []) → x = if x.2.2 = 0 then (x.1, x.2.1, 0) else ([], x.2.1, x.2.2) := by
      rintro ⟨a, b, c⟩ h
      simp only at h ⊢
      split
      · rename_i h0; rw [h0]
      · rename_i h0; rw [h h0]
    have none_ : ∀ (n : Nat) (r : List UInt8) (k p : Nat), r.length ≤ n → (rdAll k p r).2.2 ≠ 0 → (rdAll k p r).1 = [] := by
      intro n
      induction n with
      | zero =>
        intro r k p h h2
        obtain rfl : r = [] := List.eq_nil_of_length_eq_zero (by omega)
        rw [rdAll_nil]
      | succ n ih =>
        intro r k p h h2
        by_cases hr : r = []
        · subst hr; rw [rdAll_nil]
        · by_cases hk : k = 1000
          · subst hk; rw [rdAll_many p r hr]
          · cases hv : rdVal r with
            | err e => rw [rdAll_err hk hr hv]
            | ok v r' =>
              have hl := rdVal_lt hv
              rw [rdAll_ok hk hv] at h2 ⊢
              split
              · rename_i h3; rw [if_pos h3] at h2; exact absurd rfl h2
              · rfl
    simpa [encs] using key (rdAll k p r) (none_ _ r k p (Nat.le_refl _))
  | cons v l ih =>
    intro k p r hg hk
    have hv := hg v (by simp)
    have hg' : Good l := fun x hx => hg x (List.mem_cons_of_mem _ hx)
    rw [List.length_cons] at hk
    rw [encs_cons, List.append_assoc, rdAll_ok (by omega) (rdVal_enc hv.1 hv.2 _)]
    have e1 : (enc v ++ (encs l ++ r)).length - (encs l ++ r).length = (enc v).length := by rw [List.length_append]; omega
    rw [e1, ih (k + 1) _ r hg' (by omega), List.length_append, List.length_cons, show k + 1 + l.length = k + (l.length + 1) by omega, show p + (enc v).length + (encs l).length = p + ((enc v).length + (encs l).length) by omega]
    generalize rdAll (k + (l.length + 1)) (p + ((enc v).length + (encs l).length)) r = x
    obtain ⟨a, b, c⟩ := x
    simp only
    by_cases h0 : c = 0
    · simp [h0]
    · simp [h0]

theorem back (l : List Val) (hg : Good l) (h : l.length ≤ 1000) : rdAll 0 0 (encs l) = (l.map nrm, 0, 0) := by
  have := rdAll_encs l 0 0 [] hg (by omega)
  rw [List.append_nil, rdAll_nil] at this
  simpa using this

theorem once (n : Nat) : ∀ (bs : List UInt8) (k p : Nat) (l : List Val) (q : Nat), bs.length ≤ n → k ≤ 1000 → rdAll k p bs = (l, q, 0) →
    Good l ∧ (∀ v ∈ l, usu v.f = v.f) ∧ bs = encs l ∧ k + l.length ≤ 1000 ∧ q = 0 := by
  induction n with
  | zero =>
    intro bs k p l q h hk hr
    obtain rfl : bs = [] := List.eq_nil_of_length_eq_zero (by omega)
    rw [rdAll_nil] at hr
    simp only [Prod.mk.injEq, and_true] at hr
    obtain ⟨rfl, rfl⟩ := hr
    exact ⟨fun v hv => by simp at hv, fun v hv => by simp at hv, rfl, by simpa using hk, rfl⟩
  | succ n ih =>
    intro bs k p l q h hk hr
    by_cases hb : bs = []
    · subst hb
      rw [rdAll_nil] at hr
      simp only [Prod.mk.injEq, and_true] at hr
      obtain ⟨rfl, rfl⟩ := hr
      exact ⟨fun v hv => by simp at hv, fun v hv => by simp at hv, rfl, by simpa using hk, rfl⟩
    · by_cases hk' : k = 1000
      · subst hk'; rw [rdAll_many p bs hb] at hr; simp at hr
      · cases hv : rdVal bs with
        | err e =>
          rw [rdAll_err hk' hb hv] at hr
          simp only [Prod.mk.injEq] at hr
          obtain ⟨-, -, rfl⟩ := hr
          exfalso
          -- no value's error is 0
          have num0 : ∀ (t : List UInt8) (j acc : Nat), rdNum j acc t ≠ .err 0 := by
            intro t
            induction t with
            | nil => intro j acc h; simp [rdNum] at h
            | cons c t iht =>
              intro j acc h
              unfold rdNum at h
              split at h
              · simp at h
              · split at h
                · cases h
                · exact iht _ _ h
          cases bs with
          | nil => exact hb rfl
          | cons c t =>
            simp only [rdVal] at hv
            split at hv
            · cases hn : rdNum 0 0 t <;> rw [hn] at hv <;> simp at hv
              subst hv; exact num0 _ _ _ hn
            · split at hv
              · cases hn : rdNum 0 0 t <;> rw [hn] at hv <;> simp at hv
                subst hv; exact num0 _ _ _ hn
              · split at hv
                · cases hn : rdFloat t <;> rw [hn] at hv <;> simp at hv
                  subst hv
                  unfold rdFloat at hn
                  (repeat' split at hn) <;> simp at hn
                · split at hv
                  · cases hn : rdText t <;> rw [hn] at hv <;> simp at hv
                    subst hv
                    unfold rdText at hn
                    split at hn
                    · rename_i h1; simp at hn; subst hn; exact num0 _ _ _ h1
                    · (repeat' split at hn) <;> simp at hn
                  · simp at hv
        | ok v r =>
          have hl := rdVal_lt hv
          rw [rdAll_ok hk' hv] at hr
          split at hr
          · rename_i h0
            simp only [Prod.mk.injEq, and_true] at hr
            obtain ⟨rfl, rfl⟩ := hr
            have ih' := ih r (k + 1) (p + (bs.length - r.length)) _ _ (by omega) (by omega) (by rw [← h0])
            obtain ⟨i1, i2, i3, i4, i5⟩ := ih'
            obtain ⟨o1, o2, o3, o4⟩ := rdVal_only hv
            refine ⟨?_, ?_, ?_, by rw [List.length_cons]; omega, i5⟩
            · intro x hx
              rcases List.mem_cons.1 hx with rfl | hx
              · exact ⟨o1, o2⟩
              · exact i1 x hx
            · intro x hx
              rcases List.mem_cons.1 hx with rfl | hx
              · exact o3
              · exact i2 x hx
            · rw [encs_cons, ← i3]; exact o4
          · rename_i h0
            simp only [Prod.mk.injEq] at hr
            exact absurd hr.2.2 h0

/-- With an error nothing else is told. -/
theorem rdAll_bad (bs : List UInt8) (h : (rdAll 0 0 bs).2.2 ≠ 0) : (rdAll 0 0 bs).1 = [] := by
  have := rdAll_encs [] 0 0 bs (fun v hv => by simp at hv) (by simp)
  simp only [List.length_nil, Nat.add_zero, List.map_nil, List.nil_append, encs, List.flatMap_nil] at this
  rw [if_neg h] at this
  rw [this]

theorem joins (l m : List Val) (hl : Good l) (hm : Good m) (h1 : l.length ≤ 1000) (h2 : m.length ≤ 1000) :
    rdAll 0 0 (encs l ++ encs m) = if l.length + m.length ≤ 1000 then ((l ++ m).map nrm, 0, 0) else ([], (rdAll 0 0 (encs l ++ encs m)).2.1, 20) := by
  have hg : Good (l ++ m) := fun v hv => (List.mem_append.1 hv).elim (hl v) (hm v)
  rw [← encs_append]
  split
  · rename_i h
    exact back (l ++ m) hg (by simpa using h)
  · rename_i h
    have e : l ++ m = (l ++ m).take 1000 ++ (l ++ m).drop 1000 := (List.take_append_drop _ _).symm
    have hg1 : Good ((l ++ m).take 1000) := fun v hv => hg v (List.mem_of_mem_take hv)
    have hlen : ((l ++ m).take 1000).length = 1000 := by simp; omega
    have hne : encs ((l ++ m).drop 1000) ≠ [] := by
      cases hd : (l ++ m).drop 1000 with
      | nil =>
        have := congrArg List.length hd
        simp at this; omega
      | cons v t => rw [encs_cons]; simp [enc_ne]
    rw [e, encs_append]
    have := rdAll_encs ((l ++ m).take 1000) 0 0 (encs ((l ++ m).drop 1000)) hg1 (by omega)
    rw [hlen, Nat.zero_add, Nat.zero_add, rdAll_many _ _ hne] at this
    simp only at this
    rw [if_neg (by omega)] at this
    rw [this]

/-- A cut lies in some value. -/
theorem cut_at (l : List Val) : ∀ n, n < (encs l).length → ∃ i p q, i < l.length ∧ (∃ v, l[i]? = some v ∧ enc v = p ++ q) ∧ q ≠ [] ∧ (encs l).take n = encs (l.take i) ++ p := by
  induction l with
  | nil => intro n h; simp [encs] at h
  | cons v l ih =>
    intro n h
    rw [encs_cons] at h ⊢
    by_cases hn : n < (enc v).length
    · refine ⟨0, (enc v).take n, (enc v).drop n, by simp, ⟨v, rfl, (List.take_append_drop _ _).symm⟩, ?_, ?_⟩
      · intro h0
        have := congrArg List.length h0
        simp at this; omega
      · rw [List.take_append_of_le_length (by omega)]; rfl
    · rw [List.length_append] at h
      obtain ⟨i, p, q, h1, h2, h3, h4⟩ := ih (n - (enc v).length) (by omega)
      refine ⟨i + 1, p, q, by simpa using h1, by simpa using h2, h3, ?_⟩
      rw [List.take_append, List.take_of_length_le (by omega), h4, List.take_succ_cons, encs_cons, List.append_assoc]

theorem cuts (l : List Val) (hg : Good l) (h : l.length ≤ 1000) (n : Nat) (hn : n < (encs l).length) :
    ∃ i, i < l.length ∧ ((rdAll 0 0 ((encs l).take n) = ((l.take i).map nrm, 0, 0)) ∨
      (∃ at_, at_ < n ∧ rdAll 0 0 ((encs l).take n) = ([], at_, 22) ∧ rdAll 0 0 ((encs l).take at_) = ((l.take i).map nrm, 0, 0))) := by
  obtain ⟨i, p, q, h1, ⟨v, h2, h2'⟩, h3, h4⟩ := cut_at l n hn
  have hgi : Good (l.take i) := fun v hv => hg v (List.mem_of_mem_take hv)
  have hli : (l.take i).length ≤ 1000 := by simp; omega
  have hil : (l.take i).length = i := by simp; omega
  refine ⟨i, h1, ?_⟩
  by_cases hp : p = []
  · subst hp
    left
    rw [h4, List.append_nil]
    exact back _ hgi hli
  · right
    have hlen := congrArg List.length h4
    rw [List.length_take, List.length_append] at hlen
    have hpp := List.length_pos_iff.2 hp
    have hv := hg v (List.mem_of_getElem? h2)
    refine ⟨(encs (l.take i)).length, by omega, ?_, ?_⟩
    · rw [h4, rdAll_encs _ 0 0 p hgi (by omega), rdAll_err (by omega) hp (rdVal_cut hv.1 hv.2 h2' h3)]
      simp
    · have : (encs l).take (encs (l.take i)).length = encs (l.take i) := by
        have e : encs l = encs (l.take i) ++ encs (l.drop i) := by rw [← encs_append, List.take_append_drop]
        rw [e, List.take_append_of_le_length (Nat.le_refl _), List.take_length]
      rw [this]
      exact back _ hgi hli

def sameV (v w : Val) : Bool := v.k == w.k && v.u == w.u && v.i == w.i && decide (v.s = w.s) && usu v.f == usu w.f
theorem same_iff (v w : Val) : sameV v w = true ↔ nrm v = nrm w := by
  obtain ⟨k, u, i, f, s⟩ := v
  obtain ⟨k', u', i', f', s'⟩ := w
  simp [sameV, nrm]
  constructor
  · rintro ⟨⟨⟨⟨h1, h2⟩, h3⟩, h4⟩, h5⟩; exact ⟨h1, h2, h3, h5, h4⟩
  · rintro ⟨h1, h2, h3, h5, h4⟩; exact ⟨⟨⟨⟨h1, h2⟩, h3⟩, h4⟩, h5⟩
theorem enc_nrm (v : Val) : enc (nrm v) = enc v := by simp [enc, encBody, nrm, usu_usu]
theorem apart {v w : Val} (hv : v.wf) (hw : w.wf) (h1 : valid v = 0) (h2 : valid w = 0) (r : List UInt8) (h : enc w = enc v ++ r) : sameV v w = true ∧ r = [] := by
  have a := rdVal_enc hv h1 r
  have b := rdVal_enc hw h2 []
  rw [List.append_nil, h, a] at b
  injection b with b1 b2
  exact ⟨(same_iff v w).2 b1, b2⟩
theorem same_enc {v w : Val} (h : sameV v w = true) : enc v = enc w := by rw [← enc_nrm v, ← enc_nrm w, (same_iff v w).1 h]

def sameL : List Val → List Val → Bool
  | [], [] => true
  | v :: l, w :: m => sameV v w && sameL l m
  | _, _ => false
theorem sameL_iff (l : List Val) : ∀ m, sameL l m = true ↔ l.map nrm = m.map nrm := by
  induction l with
  | nil => intro m; cases m <;> simp [sameL]
  | cons v l ih =>
    intro m
    cases m with
    | nil => simp [sameL]
    | cons w m => simp [sameL, ih, same_iff]
theorem nrm_nrm (v : Val) : nrm (nrm v) = nrm v := by simp [nrm, usu_usu]
theorem map_nrm (l : List Val) : (l.map nrm).map nrm = l.map nrm := by simp [nrm_nrm]
theorem nrm_wf {v : Val} (h : v.wf) : (nrm v).wf := by
  obtain ⟨w1, w2, w3, w4, w5, w6, w7, w8⟩ := h
  exact ⟨w1, w2, w3, w4, w5, w6, usu_lt w7, w8⟩

theorem err1_zero (l : List Val) : err1 l = 0 ↔ ∀ v ∈ l, valid v = 0 := by
  induction l with
  | nil => simp [err1]
  | cons v l ih =>
    simp only [err1, List.mem_cons, forall_eq_or_imp]
    split
    · rename_i h; rw [ih]; exact ⟨fun a => ⟨h, a⟩, fun a => a.2⟩
    · rename_i h; exact ⟨fun a => absurd a h, fun a => absurd a.1 h⟩
theorem packE_zero (l : List Val) : packE l = 0 ↔ l.length ≤ 1000 ∧ ∀ v ∈ l, valid v = 0 := by
  unfold packE
  split
  · constructor
    · intro h; omega
    · intro h; omega
  · rw [err1_zero]; exact ⟨fun a => ⟨by omega, a⟩, fun a => a.2⟩
theorem good_of (l : List Val) (hw : ∀ v ∈ l, v.wf) (h : packE l = 0) : Good l := fun v hv => ⟨hw v hv, ((packE_zero l).1 h).2 v hv⟩
end Go.Wr
