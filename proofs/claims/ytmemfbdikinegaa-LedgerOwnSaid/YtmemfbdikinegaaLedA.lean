/- Layer 14: awake, and the sum of a list. -/
import Derived.Test.YtmemfbdikinegaaLedO
namespace Go.Ld
open Go.Lk Go.Am
set_option linter.unusedVariables false
set_option maxRecDepth 100000
/-! ### The chapter's example -/
def awX : Nat := 4576918229304087675
def aw0 : Acc := fun _ => none
def aw1 : Acc := openF aw0 1 1000
def aw2 : Acc := openF aw1 2 0
def aw3 : Acc := moveF awX aw2 1 2 200
theorem aw_rate : rated awX = true := by decide +kernel
theorem aw_e1 : openE aw0 1 1000 = 0 := by decide +kernel
theorem aw_e2 : openE aw1 2 0 = 0 := by decide +kernel
theorem aw_e3 : moveE awX aw2 1 2 200 = 0 := by decide +kernel
theorem aw_v3 : moveV awX aw2 1 2 200 = 2 := by decide +kernel
theorem aw_e4 : moveE awX aw3 2 1 200 = 146 := by decide +kernel
theorem aw_f4 : moveF awX aw3 2 1 200 = aw3 := (move_bad aw_e4 (by decide)).2.2
theorem aw_some {o : Option Pu} {a b : Int} (h1 : o.isSome = true) (h2 : (o.getD ⟨0, 0⟩).has = a) (h3 : (o.getD ⟨0, 0⟩).paid = b) : o = some ⟨a, b⟩ := by
  cases o with
  | none => cases h1
  | some p =>
    obtain ⟨p1, p2⟩ := p
    simp only [Option.getD_some] at h2 h3
    rw [h2, h3]
theorem aw_at1 : aw3 1 = some ⟨798, 2⟩ := aw_some (by decide +kernel) (by decide +kernel) (by decide +kernel)
theorem aw_at2 : aw3 2 = some ⟨200, 0⟩ := aw_some (by decide +kernel) (by decide +kernel) (by decide +kernel)
theorem aw_none {k : Int} (h1 : k ≠ 1) (h2 : k ≠ 2) : aw3 k = none := by
  unfold aw3 moveF
  rw [if_pos aw_e3, upd_other _ h2, upd_other _ h1]
  unfold aw2 openF
  rw [if_pos aw_e2, upd_other _ h2]
  unfold aw1 openF
  rw [if_pos aw_e1, upd_other _ h1]
  rfl
theorem aw_fine1 : Fine aw1 ∧ tot aw1 ≤ 8000000000000000000 := by
  have := Fine.none.opens 1 1000
  refine ⟨this.1, ?_⟩
  rw [show tot aw1 = _ from this.2, tot_none]
  split <;> omega
theorem aw_fine2 : Fine aw2 ∧ tot aw2 ≤ 8000000000000000000 := by
  have := aw_fine1.1.opens 2 0
  refine ⟨this.1, ?_⟩
  rw [show tot aw2 = _ from this.2]
  have := aw_fine1.2
  have h1 : tot aw1 ≤ 8000000000000000000 := this
  split <;> omega
theorem aw_fine3 : Fine aw3 ∧ tot aw3 ≤ 8000000000000000000 := by
  have := aw_fine2.1.moves aw_rate 1 2 200
  refine ⟨this.1, ?_⟩
  rw [show tot aw3 = _ from this.2]
  exact aw_fine2.2
theorem aw_list : supp (ent aw3) = [1, 2, 4097] := by
  refine supp_eq (by unfold Rises; decide) fun k => ?_
  simp only [List.mem_cons, List.not_mem_nil, or_false]
  by_cases h1 : k = 1
  · subst h1
    rw [show ent aw3 1 = some 798 from ent_low aw_fine3.1 aw_at1]
    simp
  · by_cases h2 : k = 2
    · subst h2
      rw [show ent aw3 2 = some 200 from ent_low aw_fine3.1 aw_at2]
      simp
    · by_cases h3 : k = 4097
      · subst h3
        rw [show ent aw3 4097 = some 2 from ent_high aw_fine3.1 aw_at1]
        simp
      · simp only [h1, h2, h3, or_self, false_iff]
        unfold ent
        split
        · rw [aw_none h1 h2]; simp
        · by_cases h4 : k = 4098
          · subst h4
            rw [show (4098 - 4096 : Int) = 2 from rfl, aw_at2]
            simp
          · rw [aw_none (k := k - 4096) (by omega) (by omega)]
            simp
theorem aw_val : val aw3 4097 = 2 := by
  unfold val
  rw [show ent aw3 4097 = some 2 from ent_high aw_fine3.1 aw_at1]
  rfl
/-! ### Parts of a sum -/
theorem sumL_pos {v : Int → Int} {R : List Int} (h : ∀ k ∈ R, 0 ≤ v k) : 0 ≤ sumL (R.map v) := by
  induction R with
  | nil => exact Int.le_refl _
  | cons a R ih =>
    have := ih fun k hk => h k (List.mem_cons_of_mem _ hk)
    have := h a (List.mem_cons_self ..)
    simp only [List.map_cons, sumL]
    omega
theorem sumL_take {v : Int → Int} {R : List Int} (h : ∀ k ∈ R, 0 ≤ v k) (n : Nat) : 0 ≤ sumL ((R.take n).map v) ∧ sumL ((R.take n).map v) ≤ sumL (R.map v) := by
  have e : sumL (R.map v) = sumL ((R.take n).map v) + sumL ((R.drop n).map v) := by
    rw [← sumL_append, ← List.map_append, List.take_append_drop]
  have h1 := sumL_pos (v := v) (R := R.take n) fun k hk => h k (List.mem_of_mem_take hk)
  have h2 := sumL_pos (v := v) (R := R.drop n) fun k hk => h k (List.mem_of_mem_drop hk)
  omega
theorem sumL_snoc (v : Int → Int) {R : List Int} {n : Nat} {k : Int} (h : R[n]? = some k) : sumL ((R.take (n + 1)).map v) = sumL ((R.take n).map v) + v k := by
  have hl := List.getElem?_eq_some_iff.1 h
  rw [List.take_succ_eq_append_getElem hl.1, hl.2, List.map_append, sumL_append]
  simp [sumL]
end Go.Ld
namespace Go.Proofs.Ytmemfbdikinegaa
open Go.ChangeShapes Go.WideShapes Go.ChangeAt Go.RowKit Go.Lk Go.Ld Go.Am
set_option linter.unusedVariables false
set_option linter.unusedSimpArgs false
set_option maxRecDepth 100000
set_option maxHeartbeats 8000000 in
theorem awake_any (w : World) : Calls Try.prog 9 #[] w fun e w' => e = .returned (.bool true) ∧ Below w.heap.size w w' := by
  have HN := Lib.hid (new_any awX (by decide) w)
  have HR := Lib.hid aw_rate
  go_enter Try.func9, Try.ntmps9
  go_wp2_with fail
  refine HN.out.mono ?_
  rintro e w1 ⟨hb1, h | ⟨g, mb, hr, rfl, hk, h1, h2⟩⟩
  · rw [aw_rate] at h
    cases h.1
  · have HP := Lib.hid ((Lp.start w).more hb1 hk h1 h2)
    clear hb1 hr hk h1 h2 HN
    have HC := Lib.hid (open_any 1 1000 (by unfold W64; omega) (HP.out.bk (f := aw0) (List.mem_cons_self ..) (List.mem_cons_self ..)) Fine.none)
    rw [aw_e1] at HC
    go_wp2_with fail
    refine HC.out.mono ?_
    rintro e w2 ⟨rfl, ho, hk⟩
    have HP2 := Lib.hid (HP.out.put ho hk.mv)
    clear ho hk HC HP
    have HC := Lib.hid (open_any 2 0 (by unfold W64; omega) (HP2.out.bk (f := aw1) (List.mem_cons_self ..) (List.mem_cons_self ..)) aw_fine1.1)
    rw [aw_e2] at HC
    go_wp2_with fail
    refine HC.out.mono ?_
    rintro e w3 ⟨rfl, ho, hk⟩
    have HP3 := Lib.hid (HP2.out.put ho hk.mv)
    clear ho hk HC HP2
    have HC := Lib.hid (move_any 1 2 200 (by unfold W64; omega) (by unfold W64; omega) (by unfold W64; omega) (HP3.out.bk (f := aw2) (List.mem_cons_self ..) (List.mem_cons_self ..)) aw_fine2.1 (by decide) HR.out aw_fine2.2)
    rw [aw_e3, aw_v3] at HC
    go_wp2_with fail
    refine HC.out.mono ?_
    rintro e w4 ⟨rfl, ho, hk⟩
    have HP4 := Lib.hid (HP3.out.put ho hk.mv)
    clear ho hk HC HP3
    have HC := Lib.hid (move_any 2 1 200 (by unfold W64; omega) (by unfold W64; omega) (by unfold W64; omega) (HP4.out.bk (f := aw3) (List.mem_cons_self ..) (List.mem_cons_self ..)) aw_fine3.1 (by decide) HR.out aw_fine3.2)
    have hv : moveV awX aw3 2 1 200 = 0 := (move_bad aw_e4 (by decide)).2.1
    rw [aw_e4, hv, aw_f4] at HC
    clear hv
    go_wp2_with fail
    refine HC.out.mono ?_
    rintro e w5 ⟨rfl, ho, hk⟩
    have HP5 := Lib.hid (HP4.out.put ho hk.mv)
    clear ho hk HC HP4
    have HC := Lib.hid (has_any 1 (by unfold W64; omega) (HP5.out.bk (f := aw3) (List.mem_cons_self ..) (List.mem_cons_self ..)))
    rw [aw_at1] at HC
    simp only [Option.getD_some, Option.isSome_some] at HC
    go_wp2_with fail
    refine HC.out.mono ?_
    rintro e w6 ⟨rfl, hb⟩
    have HP6 := Lib.hid (HP5.out.call hb)
    clear hb HC HP5
    have HC := Lib.hid (list_any (HP6.out.bk (f := aw3) (List.mem_cons_self ..) (List.mem_cons_self ..)) aw_fine3.1)
    rw [aw_list] at HC
    simp only [List.length_cons, List.length_nil, Nat.zero_add, Nat.reduceAdd] at HC
    go_wp2_with fail
    refine HC.out.mono ?_
    rintro e w7 ⟨A, cap, rfl, hb, hl⟩
    have HP7 := Lib.hid (HP6.out.call hb)
    obtain ⟨b0, off, rfl, hbl, hcc⟩ := (Sees.own hl).item (encL_len (val aw3)) (by omega) 2 4097 rfl
    have q0 := hcc 0 _ rfl
    have q1 : w7.cell? ⟨b0, off + 2 * 2 + 1, none⟩ = some (.int .i64 2) := by rw [← aw_val]; exact hcc 1 _ rfl
    rw [Nat.add_zero] at q0
    have HC := Lib.hid (paid_any 1 (by unfold W64; omega) (HP7.out.bk (f := aw3) (List.mem_cons_self ..) (List.mem_cons_self ..)))
    rw [aw_at1] at HC
    simp only [Option.getD_some] at HC
    clear hb hl hcc HP6
    go_wp2_with fail
    refine HC.out.mono ?_
    rintro e w8 ⟨rfl, e8⟩
    subst w8
    go_wp2_with fail
    go_ret
    exact ⟨rfl, HP7.out.st.below⟩
set_option maxHeartbeats 2000000 in
theorem total_any (vl : Int → Int) (R : List Int) (A : Option Addr) (cap : Nat) (w : World) (hs : Sees w w.heap.size 2 A R.length (flat (encL vl) R)) (hl : R.length ≤ 100000) (hp : ∀ k ∈ R, 0 ≤ vl k) (ht : sumL (R.map vl) ≤ 8000000000000000000) :
    Calls Try.prog 11 #[.slice A R.length cap] w fun e w' => e = .returned (.int .i64 (sumL (R.map vl))) ∧ Below w.heap.size w w' := by
  have HS := Lib.hid hs
  have HT := Lib.hid (sumL_take hp)
  have HV := Lib.hid hp
  clear hs hp
  go_enter Try.func11, Try.ntmps11
  go_wp2_with fail
  go_loopw [3, 4] (fun v i wr => ∃ n : Nat, n ≤ R.length ∧ i = .int .i64 (n : Int) ∧ v = .int .i64 (sumL ((R.take n).map vl)) ∧ Below w.heap.size w wr) (fun _ i _ => R.length - (intOf i).toNat)
  case atStart => exact ⟨0, by omega, rfl, rfl, Below.refl _ _⟩
  case round =>
    obtain ⟨n, hn, rfl, rfl, hb⟩ := hrel
    have HB := Lib.hid hb
    clear hb
    have ht0 := HT.out n
    by_cases hlt : n < R.length
    · obtain ⟨k, hk⟩ : ∃ k, R[n]? = some k := ⟨_, List.getElem?_eq_getElem hlt⟩
      obtain ⟨b0, off, rfl, hb0, hcc⟩ := (HS.out.below HB.out).item (encL_len vl) (by omega) n k hk
      have q1 := hcc 1 _ rfl
      have HSN := Lib.hid (sumL_snoc vl hk)
      have ht1 := (HT.out (n + 1)).2
      rw [HSN.out] at ht1
      have hv := HV.out k (List.mem_of_getElem? hk)
      have i1 : (n : Int) < (R.length : Int) := by omega
      clear hcc hk
      generalize sumL ((R.take n).map vl) = S at *
      generalize vl k = V at *
      go_wp2_with fail
      go_roundw
      case rel => exact ⟨n + 1, by omega, by go_num, by rw [HSN.out], HB.out⟩
      case measure => simp [intOf]; omega
    · obtain rfl : n = R.length := by omega
      rw [List.take_length]
      go_wp2_with fail
      go_ret
      exact ⟨rfl, HB.out⟩
end Go.Proofs.Ytmemfbdikinegaa
