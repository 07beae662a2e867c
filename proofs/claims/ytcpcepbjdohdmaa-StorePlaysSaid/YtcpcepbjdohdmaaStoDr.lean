/- Layer 12, plain: how the document's store goes with chains behind Put, Close, Prune. -/
import Derived.Test.YtcpcepbjdohdmaaStoDp
namespace Go.So
open Go.Cn
set_option linter.unusedVariables false
set_option linter.unusedSimpArgs false
/-- Chains that were made behind the mark have nothing up to it. -/
def Late (s : Sto) : Prop := ∀ k c, s.ch k = some c → c.mark < s.mark → ∀ v ∈ c.l, s.mark < v.1
theorem Late.new : Late newS := fun k c h => by cases h
theorem verL_add (S : Sto) (t : Int) (e : En) (k : Int) : verL (addS S t e) k = if k = e.1 then (put ((S.ch e.1).getD ⟨[], 0⟩) t e.2).l else verL S k := by
  unfold verL addS
  simp only
  by_cases h : k = e.1
  · subst h; simp
  · rw [if_neg h, if_neg h]
theorem verL_getD (S : Sto) (k : Int) : ((S.ch k).getD ⟨[], 0⟩).l = verL S k := by
  unfold verL
  cases S.ch k <;> rfl
theorem Late.add {S : Sto} (hf : Fine S) (h : Late S) {t : Int} {e : En} (hc : So.Can S t e.1) (ht : 1 ≤ t ∧ t ≤ 1125899906842624) (hcl : S.closed < t) : Late (addS S t e) := by
  intro k c hk hm v hv
  have hp := hc.put hf ht hcl e.2
  have hr := hf.range
  unfold addS at hk hm ⊢
  simp only at hk hm ⊢
  by_cases h1 : k = e.1
  · subst h1
    rw [if_pos rfl, hp.2] at hk
    injection hk with hk
    subst hk
    rcases List.mem_append.1 hv with hv | hv
    · cases hch : S.ch e.1 with
      | none => rw [hch] at hv; cases hv
      | some c0 =>
        rw [hch] at hv hm
        exact h e.1 c0 hch hm v hv
    · rw [List.mem_singleton.1 hv]; show S.mark < t; omega
  · rw [if_neg h1] at hk
    exact h k c hk hm v hv
theorem adds_rel {d : Ds} {s : Sto} (hr : Rel d s) (hf : Fine s) (hL : Late s) {t : Int} {l : List En} (h : Cans s t l) (ht : 1 ≤ t ∧ t ≤ 1125899906842624) (hc : s.closed < t) (n : Nat) (hn : n ≤ l.length) :
    (∀ k, chainOf (d.l ++ (l.take n).map (fun e => (t, e))) k = verL (addsS s t (l.take n)) k) ∧ Late (addsS s t (l.take n)) := by
  induction n with
  | zero => exact ⟨fun k => by simpa [addsS] using hr.rows k, by simpa [addsS] using hL⟩
  | succ n ih =>
    obtain ⟨ih1, ih2⟩ := ih (by omega)
    obtain ⟨e, he⟩ : ∃ e, l[n]? = some e := ⟨_, List.getElem?_eq_getElem (by omega)⟩
    have hF := hf.adds h ht hc n (by omega)
    have hC := h.step n e he
    have hcl : (addsS s t (l.take n)).closed < t := by rw [(adds_keeps s t _).1]; exact hc
    rw [addsS_take s t l n e he]
    refine ⟨fun k => ?_, ih2.add hF hC ht hcl⟩
    rw [Go.Proofs.Ytcpcepbjdohdmaa.map_take_snoc t l n e he, ← List.append_assoc, chainOf_append, ih1 k, verL_add]
    by_cases hk : k = e.1
    · rw [if_pos hk, (hC.put hF ht hcl e.2).2, hk]
      show _ = ((((addsS s t (l.take n)).ch e.1).getD ⟨[], 0⟩).l ++ [(t, e.2)])
      rw [verL_getD]
      simp [chainOf]
    · rw [if_neg hk]
      simp only [chainOf]
      rw [if_neg (fun h => hk h.symm), List.append_nil]
theorem Rel.put {d : Ds} {s : Sto} (hr : Rel d s) (hf : Fine s) (hL : Late s) (t : Int) (l : List En) :
    Rel ⟨Go.Proofs.Ytcpcepbjdohdmaa.putD d s t l, d.closed, d.mark⟩ (putS s t l) ∧ Late (putS s t l) := by
  unfold Go.Proofs.Ytcpcepbjdohdmaa.putD
  rcases putS_cases s t l with ⟨_, e1, e⟩ | ⟨_, _, e1, e⟩ | ⟨_, _, _, e1, e⟩ | ⟨_, _, _, hne, e1, e⟩ | ⟨h1, h2, _, h3, e1, e⟩ <;> rw [e, e1]
  · exact ⟨hr, hL⟩
  · exact ⟨hr, hL⟩
  · exact ⟨hr, hL⟩
  · rw [if_neg hne]; exact ⟨hr, hL⟩
  · obtain ⟨q1, q2⟩ := adds_rel hr hf hL h3 h1 h2 l.length (Nat.le_refl _)
    rw [List.take_length] at q1 q2
    rw [if_pos rfl]
    exact ⟨⟨hr.closed.trans (adds_keeps s t l).1.symm, hr.mark.trans (adds_keeps s t l).2.symm, q1⟩, q2⟩
def closeD (d : Ds) (t : Int) : Ds := if isT t = true then ⟨d.l, max d.closed t, d.mark⟩ else d
theorem Rel.close {d : Ds} {s : Sto} (hr : Rel d s) (hL : Late s) (t : Int) : Rel (closeD d t) (closeS s t) ∧ Late (closeS s t) := by
  unfold closeD closeS
  split
  · exact ⟨⟨by show max d.closed t = max s.closed t; rw [hr.closed], hr.mark, hr.rows⟩, hL⟩
  · exact ⟨hr, hL⟩
/-! ### Prune -/
def same (m : Int) (d x : Dr) : Bool := x.2.1 == d.2.1 && decide (x.1 ≤ m)
def pruneL (m : Int) : List Dr → List Dr
  | [] => []
  | d :: l => if (l.any (same m d)) = true then pruneL m l else d :: pruneL m l
def dropC (m : Int) : List Ve → List Ve
  | [] => []
  | v :: c => if (c.any fun x => decide (x.1 ≤ m)) = true then dropC m c else v :: dropC m c
theorem any_chain (m : Int) (d : Dr) (l : List Dr) : l.any (same m d) = (chainOf l d.2.1).any fun x => decide (x.1 ≤ m) := by
  induction l with
  | nil => rfl
  | cons x l ih =>
    rw [List.any_cons, ih]
    by_cases h : x.2.1 = d.2.1
    · have e1 : chainOf (x :: l) d.2.1 = (x.1, x.2.2) :: chainOf l d.2.1 := by rw [chainOf, if_pos h]
      rw [e1, List.any_cons]
      unfold same
      rw [h]; simp
    · have e1 : chainOf (x :: l) d.2.1 = chainOf l d.2.1 := by rw [chainOf, if_neg h]
      rw [e1]
      unfold same
      have : (x.2.1 == d.2.1) = false := by simpa using h
      rw [this]; simp
theorem prune_chain (m : Int) (l : List Dr) (k : Int) : chainOf (pruneL m l) k = dropC m (chainOf l k) := by
  induction l with
  | nil => rfl
  | cons d l ih =>
    unfold pruneL
    by_cases hk : d.2.1 = k
    · have e1 : chainOf (d :: l) k = (d.1, d.2.2) :: chainOf l k := by rw [chainOf, if_pos hk]
      rw [e1, any_chain, hk, dropC]
      split
      · exact ih
      · rw [chainOf, if_pos hk, ih]
    · have e1 : chainOf (d :: l) k = chainOf l k := by rw [chainOf, if_neg hk]
      rw [e1]
      split
      · exact ih
      · rw [chainOf, if_neg hk, ih]
theorem dropC_rise {c : List Ve} (h : Rise c) (m : Int) : dropC m c = c.drop (upTo c m - 1) := by
  induction c with
  | nil => rfl
  | cons v c ih =>
    have ih := ih h.tail
    unfold dropC
    have hany : (c.any fun x => decide (x.1 ≤ m)) = true ↔ 0 < upTo c m := by
      cases c with
      | nil => simp [upTo]
      | cons x c =>
        unfold upTo
        by_cases hx : x.1 ≤ m
        · rw [if_pos hx, List.any_cons]; simp [hx]
        · rw [if_neg hx]
          constructor
          · intro h2
            obtain ⟨z, hz, hz2⟩ := List.any_eq_true.1 h2
            have hz3 : z.1 ≤ m := by simpa using hz2
            exfalso
            rcases List.mem_cons.1 hz with rfl | hz
            · exact hx hz3
            · obtain ⟨j, hj⟩ := List.mem_iff_getElem?.1 hz
              have := h.tail 0 (j + 1) x z (by omega) rfl (by simpa using hj)
              omega
          · intro h2; omega
    by_cases hv : v.1 ≤ m
    · have e1 : upTo (v :: c) m = upTo c m + 1 := by rw [upTo, if_pos hv]
      rw [e1, Nat.add_sub_cancel]
      by_cases h0 : 0 < upTo c m
      · rw [if_pos (hany.2 h0), ih]
        obtain ⟨n, hn⟩ : ∃ n, upTo c m = n + 1 := ⟨upTo c m - 1, by omega⟩
        rw [hn, Nat.add_sub_cancel, List.drop_succ_cons]
      · rw [if_neg (fun h2 => h0 (hany.1 h2)), ih]
        have : upTo c m = 0 := by omega
        rw [this]
        rfl
    · have e1 : upTo (v :: c) m = 0 := by rw [upTo, if_neg hv]
      have h0 : upTo c m = 0 := by
        cases c with
        | nil => rfl
        | cons x c =>
          have := h 0 1 v x (by omega) rfl rfl
          rw [upTo, if_neg (by omega)]
      rw [e1, if_neg (fun h2 => by have := hany.1 h2; omega), ih, h0]
      rfl
def pruneD (d : Ds) (s : Sto) (t : Int) : Ds := if pruneSE s t = 0 then ⟨pruneL (max d.mark t) d.l, d.closed, max d.mark t⟩ else d
theorem Rel.prune {d : Ds} {s : Sto} (hr : Rel d s) (hf : Fine s) (hL : Late s) (t : Int) : Rel (pruneD d s t) (pruneS s t) ∧ Late (pruneS s t) := by
  have hrg := hf.range
  have hmk := hr.mark
  have key : ∀ k, verL s k = [] ∨ ∃ c, s.ch k = some c ∧ verL s k = c.l := fun k => by
    unfold verL
    cases hc : s.ch k with
    | none => exact .inl rfl
    | some c => exact .inr ⟨c, rfl, rfl⟩
  unfold pruneD
  rcases pruneS_cases s t with ⟨_, e1, e⟩ | ⟨_, _, e1, e⟩ | ⟨h1, h2, h3, e1, e⟩ | ⟨h1, h2, h3, e1, e⟩ <;> rw [e, e1]
  · exact ⟨hr, hL⟩
  · exact ⟨hr, hL⟩
  · rw [if_pos rfl]
    have hmax : max d.mark t = s.mark := by omega
    refine ⟨⟨hr.closed, hmax, fun k => ?_⟩, hL⟩
    show chainOf (pruneL (max d.mark t) d.l) k = verL s k
    rw [prune_chain, hr.rows, hmax]
    rcases key k with h | ⟨c, hc, h⟩
    · rw [h]; rfl
    · rw [h]
      have hok := hf.ok k c hc
      rw [dropC_rise hok.rise]
      by_cases hm : c.mark < s.mark
      · have h0 : upTo c.l s.mark = 0 := by
          cases hcl : c.l with
          | nil => rfl
          | cons v l =>
            have := hL k c hc hm v (by rw [hcl]; exact List.mem_cons_self ..)
            rw [upTo, if_neg (by omega)]
        rw [h0]; rfl
      · have hm2 := hf.marks k c hc
        have := prune_doc hok t s.mark (.inr ⟨by omega, by omega⟩) h1
        have h9 : Go.Cn.prune c t = c := by unfold Go.Cn.prune; rw [if_neg (by intro ⟨_, h⟩; omega)]
        rw [h9] at this
        exact congrArg Cs.l this
  · rw [if_pos rfl]
    have hmax : max d.mark t = t := by omega
    refine ⟨⟨hr.closed, hmax, fun k => ?_⟩, fun k c hk hm => ?_⟩
    · show chainOf (pruneL (max d.mark t) d.l) k = _
      rw [prune_chain, hr.rows, hmax]
      unfold verL
      simp only
      cases hc : s.ch k with
      | none => rfl
      | some c =>
        have hok := hf.ok k c hc
        have hm2 := hf.marks k c hc
        have := prune_doc hok t t (.inl ⟨by omega, rfl⟩) h1
        simp only [Option.map_some]
        rw [dropC_rise hok.rise]
        exact congrArg Cs.l this
    · exfalso
      obtain ⟨c0, hc0, rfl⟩ := Option.map_eq_some_iff.1 hk
      have hm2 := hf.marks k c0 hc0
      have : (Go.Cn.prune c0 t).mark = t := by unfold Go.Cn.prune; rw [if_pos ⟨h1, by omega⟩]
      have hm3 : (Go.Cn.prune c0 t).mark < t := hm
      omega
/-- The rows left of the first ones. -/
def keepL (m : Int) (l : List Dr) : Nat → List Dr
  | 0 => []
  | i + 1 => keepL m l i ++ (match l[i]? with | some x => if ((l.drop (i + 1)).any (same m x)) = true then [] else [x] | none => [])
theorem keepL_cons (m : Int) (d : Dr) (l : List Dr) (i : Nat) : keepL m (d :: l) (i + 1) = (if (l.any (same m d)) = true then [] else [d]) ++ keepL m l i := by
  induction i with
  | zero =>
    rw [show keepL m (d :: l) (0 + 1) = (if (l.any (same m d)) = true then [] else [d]) from rfl]
    simp [keepL]
  | succ i ih =>
    rw [keepL, ih, List.append_assoc]
    show _ = _ ++ (keepL m l i ++ _)
    congr 2
theorem keepL_all (m : Int) (l : List Dr) : keepL m l l.length = pruneL m l := by
  induction l with
  | nil => rfl
  | cons d l ih =>
    rw [List.length_cons, keepL_cons, ih, pruneL]
    split <;> rfl
theorem keepL_len (m : Int) (l : List Dr) (i : Nat) : (keepL m l i).length ≤ i := by
  induction i with
  | zero => exact Nat.le_refl _
  | succ i ih =>
    rw [keepL, List.length_append]
    split
    · split <;> simp <;> omega
    · simp; omega
end Go.So
