/- Layer 12: what StoreRefuses needs: last versions and sizes behind a put (plain); a row of 120 versions. -/
import Derived.Test.YtcpcepbjdohdmaaStoL
namespace Go.So
open Go.Cn
set_option linter.unusedVariables false
theorem lastV_snoc (l : List Ve) (v : Ve) : lastV (l ++ [v]) = v := by
  unfold lastV
  rw [List.length_append, List.length_singleton, Nat.add_sub_cancel, List.getElem?_append_right (Nat.le_refl _), Nat.sub_self]
  rfl
theorem put_zero {s : Sto} {t : Int} {l : List En} (h0 : putSE s t l = 0) : (1 ≤ t ∧ t ≤ 1125899906842624) ∧ s.closed < t ∧ l.length ≤ 100 ∧ Cans s t l ∧ putS s t l = addsS s t l := by
  rcases putS_cases s t l with ⟨_, h, _⟩ | ⟨_, _, h, _⟩ | ⟨_, _, _, h, _⟩ | ⟨_, _, _, h1, h, _⟩ | ⟨h1, h2, h5, h3, _, h4⟩
  · omega
  · omega
  · omega
  · omega
  · exact ⟨h1, h2, h5, h3, h4⟩
theorem put_not {s : Sto} {t : Int} {l : List En} (h0 : putSE s t l ≠ 0) : putS s t l = s := by
  unfold putS
  rw [if_neg h0]
theorem last_put {s : Sto} (hf : Fine s) {t : Int} {l : List En} (h0 : putSE s t l = 0) {e : En} (he : e ∈ l) : lastS (putS s t l) e.1 = (t, e.2) ∧ (lastS s e.1).1 < t := by
  obtain ⟨ht, hc, -, hcan, hp⟩ := put_zero h0
  have hcn := hcan.can e he
  obtain ⟨p1, p2⟩ := hcn.put hf ht hc e.2
  constructor
  · unfold lastS
    rw [hp, adds_at s t l hcan.once e he, p2]
    exact lastV_snoc _ _
  · unfold lastS
    have hr := hf.range
    cases hk : s.ch e.1 with
    | none => show (0 : Int) < t; omega
    | some c => exact (hcn.room c hk).1
theorem size_add {s : Sto} (hf : Fine s) {t : Int} {e : En} (h : Can s t e.1) (ht : 1 ≤ t ∧ t ≤ 1125899906842624) (hc : s.closed < t) : sizeS (addS s t e) = sizeS s + 1 := by
  obtain ⟨p1, p2⟩ := h.put hf ht hc e.2
  unfold sizeS
  refine sum_point allK allK_nodup e.1 ((allK_mem _).2 h.key) 1 ?_ fun j hj => ?_
  · unfold lenS addS
    simp only [if_true]
    rw [p2]
    cases hk : s.ch e.1 with
    | none => simp
    | some c => simp
  · unfold lenS addS
    simp only [if_neg hj]
theorem size_adds {s : Sto} (hf : Fine s) {t : Int} {l : List En} (h : Cans s t l) (ht : 1 ≤ t ∧ t ≤ 1125899906842624) (hc : s.closed < t) (k : Nat) (hk : k ≤ l.length) : sizeS (addsS s t (l.take k)) = sizeS s + k := by
  induction k with
  | zero =>
    rw [List.take_zero, show addsS s t [] = s from rfl, Nat.add_zero]
  | succ k ih =>
    obtain ⟨e, he⟩ : ∃ e, l[k]? = some e := ⟨_, List.getElem?_eq_getElem (by omega)⟩
    rw [addsS_take s t l k e he, size_add (hf.adds h ht hc k (by omega)) (h.step k e he) ht (by rw [(adds_keeps s t _).1]; exact hc), ih (by omega)]
    omega
theorem size_put {s : Sto} (hf : Fine s) {t : Int} {l : List En} (h0 : putSE s t l = 0) : sizeS (putS s t l) = sizeS s + l.length ∧ (putS s t l).closed < t := by
  obtain ⟨ht, hc, -, hcan, hp⟩ := put_zero h0
  have := size_adds hf hcan ht hc l.length (Nat.le_refl _)
  rw [List.take_length] at this
  exact ⟨by rw [hp, this], by rw [hp, (adds_keeps s t l).1]; exact hc⟩
end Go.So
namespace Go.Proofs.Ytcpcepbjdohdmaa
open Go.ChangeShapes Go.WideShapes Go.ChangeAt Go.RowKit Go.Cn Go.So
set_option linter.unusedVariables false
set_option linter.unusedSimpArgs false
set_option maxRecDepth 100000
theorem size_few {s : Sto} (h : Fine s) : sizeS s ≤ 81920000 := by
  have := sum_few h allK
  rw [allK_len] at this
  exact this
/-- A row of 120 versions. -/
def wasA (f : Nat → Ve) : Array Value := (flat encV ((List.range 120).map f)).toArray
theorem wasA_size (f : Nat → Ve) : (wasA f).size = 240 := by
  unfold wasA
  rw [List.size_toArray, encV_flat]
  simp
theorem wasA_at (f : Nat → Ve) (k : Nat) (h : k < 120) : (wasA f)[k * 2]? = some (.int .i64 (f k).1) ∧ (wasA f)[k * 2 + 1]? = some (.int .i64 (f k).2) := by
  have hat := flat_at encV_len ((List.range 120).map f) k (f k) (by rw [List.getElem?_map, List.getElem?_range h]; rfl)
  unfold wasA
  rw [List.getElem?_toArray, List.getElem?_toArray]
  exact ⟨(hat 0 (by omega)).trans rfl, (hat 1 (by omega)).trans rfl⟩
theorem wasA_set (f : Nat → Ve) (k : Nat) (h : k < 120) (v : Ve) : ((wasA f).setIfInBounds (k * 2) (.int .i64 v.1)).setIfInBounds (k * 2 + 1) (.int .i64 v.2) = wasA fun j => if j = k then v else f j := by
  apply Array.ext_getElem?
  intro j
  by_cases hj : j < 240
  · obtain ⟨i, hi⟩ : ∃ i, j = i * 2 ∨ j = i * 2 + 1 := ⟨j / 2, by omega⟩
    have hi120 : i < 120 := by omega
    obtain ⟨a1, a2⟩ := wasA_at f i hi120
    obtain ⟨b1, b2⟩ := wasA_at (fun j => if j = k then v else f j) i hi120
    rcases hi with rfl | rfl
    · rw [b1, Array.getElem?_setIfInBounds_ne (by omega)]
      by_cases e : i = k
      · subst e
        rw [Array.getElem?_setIfInBounds_self_of_lt (by rw [wasA_size]; omega)]
        simp
      · rw [Array.getElem?_setIfInBounds_ne (by omega), a1]
        simp [e]
    · rw [b2]
      by_cases e : i = k
      · subst e
        rw [Array.getElem?_setIfInBounds_self_of_lt (by rw [Array.size_setIfInBounds, wasA_size]; omega)]
        simp
      · rw [Array.getElem?_setIfInBounds_ne (by omega), Array.getElem?_setIfInBounds_ne (by omega), a2]
        simp [e]
  · rw [Array.getElem?_eq_none (by rw [Array.size_setIfInBounds, Array.size_setIfInBounds, wasA_size]; omega), Array.getElem?_eq_none (by rw [wasA_size]; omega)]
theorem was_zero (w : World) : (zeroValue 60).run Try.prog w = .ok (.agg (wasA fun _ => (0, 0))) w := by kernel_rfl
end Go.Proofs.Ytcpcepbjdohdmaa
