/- Contracts at layer 13, of the program's calls on a table that only read, and New: Holds, Waits, Dead, why. -/
import Derived.Test.YtcjefigcaifmeaaLokI
namespace Go.Proofs.Ytcjefigcaifmeaa
open Go.RowKit Go.Lk
set_option linter.unusedVariables false
set_option linter.unusedSimpArgs false
set_option maxRecDepth 100000

theorem lnew_any (w : World) : Calls Try.prog 4 #[] w fun e w' => e = .returned (ptr (w.heap.size + 1 + 1)) ∧ Below w.heap.size w w' ∧ ∃ F, Tab w' (w.heap.size + 1 + 1) newT F ∧ ∀ b, F b → w.heap.size ≤ b := by
  have hmm := @run_makeMap Try.prog
  go_enter Try.func4, Try.ntmps4
  go_wp2_with fail
  go_ret
  have h1 : (w.alloc (.map #[] 0)).heap.size = w.heap.size + 1 := by simp
  have h2 : ((w.alloc (.map #[] 0)).alloc (.map #[] 0)).heap.size = w.heap.size + 1 + 1 := by simp
  refine ⟨rfl, (((Below.refl _ _).alloc (Nat.le_refl _) _).alloc (by simp) _).alloc (by simp; omega) _, fun b => b = w.heap.size + 1 + 1 ∨ b = w.heap.size ∨ b = w.heap.size + 1, ⟨fun n => match n with | .face => w.heap.size + 1 + 1 | .rows => w.heap.size | .pars => w.heap.size + 1 | _ => 0, rfl, ⟨?_, ?_⟩, ?_⟩, ?_⟩
  · intro a b ha hb e
    cases a <;> cases b <;> simp [live, newT] at ha hb e ⊢ <;> omega
  · intro a ha
    cases a with
    | face =>
      have := Whole.fresh ((w.alloc (.map #[] 0)).alloc (.map #[] 0)) 53 #[.map (some w.heap.size), .map (some (w.heap.size + 1))]
      rw [h2] at this
      exact this
    | rows =>
      have := (Mv.made (enc := rE) w).call (((Below.refl _ _).alloc (Nat.le_refl _) (.map #[] 0)).alloc (by simp) (.cells #[.map (some w.heap.size), .map (some (w.heap.size + 1))] 53))
      exact this.congr fun x => rfl
    | pars =>
      have := (Mv.made (enc := pE) (w.alloc (.map #[] 0))).call ((Below.refl _ _).alloc (Nat.le_refl _) (.cells #[.map (some w.heap.size), .map (some (w.heap.size + 1))] 53))
      rw [h1] at this
      exact this.congr fun x => rfl
    | h k => cases ha
    | w k => cases ha
    | p x => cases ha
    | ks x => cases ha
  · intro b
    constructor
    · rintro (h | h | h)
      · exact ⟨.face, rfl, h.symm⟩
      · exact ⟨.rows, rfl, h.symm⟩
      · exact ⟨.pars, rfl, h.symm⟩
    · rintro ⟨a, ha, rfl⟩
      cases a with
      | face => exact .inl rfl
      | rows => exact .inr (.inl rfl)
      | pars => exact .inr (.inr rfl)
      | h k => cases ha
      | w k => cases ha
      | p x => cases ha
      | ks x => cases ha
  · rintro b (h | h | h) <;> omega
section
variable {s : Tb} {loc : Nm → Nat} {K : Int → Prop}
/-- How many have asked and haven't ended. -/
noncomputable def cntT (s : Tb) : Nat := (supp (innF s)).length
theorem mid_fewh (m : Mid s K) (k : Int) : (supp (s.h k)).length ≤ cntT s := supp_less m.fin (m.finh k) fun x h => (innF_iff s x).2 (m.hinn h)
theorem mid_feww (m : Mid s K) (k : Int) : (supp (s.w k)).length ≤ cntT s := supp_less m.fin (m.finw k) fun x h => (innF_iff s x).2 (m.winn h)
theorem run_field_row (p1 p2 : Option Nat) (x : World) : (Instr.field 63 (rE (p1, p2)) 0).run Try.prog x = .ok (.map p1) x ∧ (Instr.field 63 (rE (p1, p2)) 1).run Try.prog x = .ok (.map p2) x := ⟨by kernel_rfl, by kernel_rfl⟩
set_option maxHeartbeats 1000000 in
theorem lholds_any (k : Int) (hk : W64 k) (w : World) (T : Tm w s loc) (m : Mid s K) (hn : cntT s ≤ 1000000) :
    Calls Try.prog 15 #[ptr (loc .face), .int .i64 k] w fun e w' => ∃ A cap, e = .returned (.slice A (supp (s.h k)).length cap) ∧ Below w.heap.size w w' ∧ w'.ownsRow w.heap.size 60 2 (.slice A (supp (s.h k)).length cap) (supp (s.h k)).length (flat (encH (fl (s.h k))) (supp (s.h k))) := by
  obtain ⟨c0, c1, cz⟩ := T.face
  have hl := (T.rows hk).2
  have HL := Lib.hid (listed_any _ (s.h k) w (T.row m k).1 (Nat.le_trans (mid_fewh m k) hn))
  generalize loc .face = g at *
  generalize rowV s loc k = p at *
  obtain ⟨p1, p2⟩ := p
  dsimp only at HL
  have f0 := (run_field_row p1 p2 w).1
  have f1 := (run_field_row p1 p2 w).2
  clear T
  go_enter Try.func15, Try.ntmps15
  go_wp2_with fail
  refine HL.out.mono ?_
  rintro e w1 ⟨A, cap, rfl, hb, ho⟩
  go_wp2_with fail
  go_ret
  exact ⟨A, cap, rfl, hb, ho⟩
set_option maxHeartbeats 1000000 in
theorem lwaits_any (k : Int) (hk : W64 k) (w : World) (T : Tm w s loc) (m : Mid s K) (hn : cntT s ≤ 1000000) :
    Calls Try.prog 16 #[ptr (loc .face), .int .i64 k] w fun e w' => ∃ A cap, e = .returned (.slice A (supp (s.w k)).length cap) ∧ Below w.heap.size w w' ∧ w'.ownsRow w.heap.size 60 2 (.slice A (supp (s.w k)).length cap) (supp (s.w k)).length (flat (encH (fl (s.w k))) (supp (s.w k))) := by
  obtain ⟨c0, c1, cz⟩ := T.face
  have hl := (T.rows hk).2
  have HL := Lib.hid (listed_any _ (s.w k) w (T.row m k).2 (Nat.le_trans (mid_feww m k) hn))
  generalize loc .face = g at *
  generalize rowV s loc k = p at *
  obtain ⟨p1, p2⟩ := p
  dsimp only at HL
  have f0 := (run_field_row p1 p2 w).1
  have f1 := (run_field_row p1 p2 w).2
  clear T
  go_enter Try.func16, Try.ntmps16
  go_wp2_with fail
  refine HL.out.mono ?_
  rintro e w1 ⟨A, cap, rfl, hb, ho⟩
  go_wp2_with fail
  go_ret
  exact ⟨A, cap, rfl, hb, ho⟩
theorem mid_deadF (m : Mid s K) {x : Int} (h : s.inn x = false) : s.dead x = false ∧ s.waits x = false := by
  constructor
  · cases hd : s.dead x with
    | false => rfl
    | true => have := (m.dd x hd).1; rw [h] at this; cases this
  · cases hd : s.waits x with
    | false => rfl
    | true =>
      obtain ⟨k, hk⟩ := (m.wts x).1 hd
      have := m.winn hk
      rw [h] at this; cases this
theorem Tm.pcells {w : World} (T : Tm w s loc) {x : Int} (hx : s.inn x = true) : w.cell? ⟨loc (.p x), 0, none⟩ = some (.map (some (loc (.ks x)))) ∧ w.cell? ⟨loc (.p x), 1, none⟩ = some (.bool (s.waits x)) ∧ w.cell? ⟨loc (.p x), 2, none⟩ = some (.bool (s.dead x)) ∧
    w.frozen? ⟨loc (.p x), 1, none⟩ = false ∧ w.frozen? ⟨loc (.p x), 2, none⟩ = false ∧ loc (.p x) < w.heap.size := by
  obtain ⟨h, -⟩ := T.party hx
  exact ⟨h.cell 0, h.cell 1, h.cell 2, h.free 1, h.free 2, h.lt⟩
set_option maxHeartbeats 1000000 in
theorem ldead_any (x : Int) (hx : W64 x) (w : World) (T : Tm w s loc) (m : Mid s K) :
    Calls Try.prog 13 #[ptr (loc .face), .int .i64 x] w fun e w' => e = .returned (.bool (s.dead x)) ∧ w' = w := by
  obtain ⟨c0, c1, cz⟩ := T.face
  have hl := (T.pars hx).1
  cases hi : s.inn x with
  | false =>
    rw [parF_out hi, hi] at hl
    rw [(mid_deadF m hi).1]
    clear T hi
    generalize loc .face = g at *
    go_enter Try.func13, Try.ntmps13
    go_wp2_with fail
    go_ret
    exact ⟨rfl, rfl⟩
  | true =>
    rw [parF_in hi, hi] at hl
    obtain ⟨p0, p1, p2, -, -, pz⟩ := T.pcells hi
    clear T hi
    generalize s.dead x = d at *
    generalize loc .face = g at *
    generalize loc (.p x) = p at *
    go_enter Try.func13, Try.ntmps13
    go_wp2_with fail
    go_ret
    exact ⟨rfl, rfl⟩
set_option maxHeartbeats 2000000 in
theorem lwhy_any (x k : Int) (hx : W64 x) (w : World) (T : Tm w s loc) (m : Mid s K) :
    Calls Try.prog 17 #[ptr (loc .face), .int .i64 x, .int .i64 k] w fun e w' => e = .returned (.int .i64 (askE s x k)) ∧ w' = w := by
  obtain ⟨c0, c1, cz⟩ := T.face
  have hl := (T.pars hx).1
  have hcase : (s.inn x = false ∧ s.dead x = false ∧ s.waits x = false) ∨ s.inn x = true := by
    cases hi : s.inn x with
    | false => exact .inl ⟨rfl, mid_deadF m hi⟩
    | true => exact .inr rfl
  have HE : Hid (askE s x k = if x < 1 then 130 else if isK k = false then 131 else if s.dead x = true then 132 else if s.waits x = true then 133 else 0) := Lib.hid rfl
  rw [HE.out]
  clear HE
  rcases hcase with ⟨hi, hd, hw⟩ | hi
  · rw [parF_out hi, hi] at hl
    rw [hd, hw]
    clear T hi hd hw
    generalize loc .face = g at *
    by_cases h1 : x < 1
    · rw [if_pos h1]
      go_enter Try.func17, Try.ntmps17
      go_wp2_with fail
      go_ret
      exact ⟨rfl, rfl⟩
    · rw [if_neg h1]
      by_cases h2 : k < 0
      · rw [if_pos (by cases e : isK k with | false => rfl | true => have := (isK_iff k).1 e; omega)]
        go_enter Try.func17, Try.ntmps17
        go_wp2_with fail
        go_ret
        exact ⟨rfl, rfl⟩
      · by_cases h3 : 8192 ≤ k
        · rw [if_pos (by cases e : isK k with | false => rfl | true => have := (isK_iff k).1 e; omega)]
          go_enter Try.func17, Try.ntmps17
          go_wp2_with fail
          go_ret
          exact ⟨rfl, rfl⟩
        · rw [if_neg (by rw [(isK_iff k).2 (by omega)]; simp)]
          go_enter Try.func17, Try.ntmps17
          go_wp2_with fail
          go_ret
          exact ⟨rfl, rfl⟩
  · rw [parF_in hi, hi] at hl
    obtain ⟨p0, p1, p2, -, -, pz⟩ := T.pcells hi
    clear T hi
    generalize s.dead x = d at *
    generalize s.waits x = wt at *
    generalize loc .face = g at *
    generalize loc (.p x) = p at *
    by_cases h1 : x < 1
    · rw [if_pos h1]
      go_enter Try.func17, Try.ntmps17
      go_wp2_with fail
      go_ret
      exact ⟨rfl, rfl⟩
    · rw [if_neg h1]
      by_cases h2 : k < 0
      · rw [if_pos (by cases e : isK k with | false => rfl | true => have := (isK_iff k).1 e; omega)]
        go_enter Try.func17, Try.ntmps17
        go_wp2_with fail
        go_ret
        exact ⟨rfl, rfl⟩
      · by_cases h3 : 8192 ≤ k
        · rw [if_pos (by cases e : isK k with | false => rfl | true => have := (isK_iff k).1 e; omega)]
          go_enter Try.func17, Try.ntmps17
          go_wp2_with fail
          go_ret
          exact ⟨rfl, rfl⟩
        · rw [if_neg (by rw [(isK_iff k).2 (by omega)]; simp)]
          cases d <;> cases wt
          all_goals
            go_enter Try.func17, Try.ntmps17
            go_wp2_with fail
            go_ret
            exact ⟨rfl, rfl⟩
end
end Go.Proofs.Ytcjefigcaifmeaa
