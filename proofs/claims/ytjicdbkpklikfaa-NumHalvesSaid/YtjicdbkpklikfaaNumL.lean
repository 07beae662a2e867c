/- The contract of num.Least; the chapter's examples (awake). -/
import Derived.Test.YtjicdbkpklikfaaNumF
namespace Go.Proofs.Ytjicdbkpklikfaa
open Go.RowKit Go.Fl
/-- The least of floats by their keys, the first of them. -/
def leastF (acc : Nat) (l : List Nat) : Nat := l.foldl (fun a x => if key x < key a then x else a) acc
theorem leastF_lt (l : List Nat) (acc : Nat) (ha : acc < 18446744073709551616) (h : ∀ x, x ∈ l → x < 18446744073709551616) : leastF acc l < 18446744073709551616 := by
  induction l generalizing acc with
  | nil => exact ha
  | cons y l ih =>
    unfold leastF
    rw [List.foldl_cons]
    exact ih _ (by split; exact h y (by simp); exact ha) (fun x hx => h x (List.mem_cons_of_mem _ hx))
theorem leastF_snoc (l : List Nat) (acc y : Nat) : leastF acc (l ++ [y]) = if key y < key (leastF acc l) then y else leastF acc l := by
  unfold leastF; rw [List.foldl_append]; rfl
/-- Floats in a row of cells. -/
def FRow (w : World) (b off : Nat) (l : List Nat) : Prop := ∀ i, i < l.length → w.cell? ⟨b, off + i, none⟩ = some (.float .f64 (l.getD i 0))
theorem take_snoc_nat (l : List Nat) (k : Nat) (h : k < l.length) : l.take (k + 1) = l.take k ++ [l.getD k 0] := by
  rw [List.take_succ_eq_append_getElem h, List.getD_eq_getElem?_getD, List.getElem?_eq_getElem h]; rfl

theorem least_none (a : Option Addr) (cap : Nat) (w : World) :
    Calls Try.prog 29 #[.slice a 0 cap] w fun e w' => e = .returned (.tuple #[.float .f64 0, .bool false]) ∧ w' = w := by
  go_enter Try.func29, Try.ntmps29
  go_wp2
  go_ret2
  exact ⟨rfl, rfl⟩

theorem least_some (b off cap : Nat) (y : Nat) (l : List Nat) (w : World) (hb : FRow w b off (y :: l)) (hc : l.length + 1 ≤ cap) (hm : cap ≤ 9223372036854775807)
    (hl : ∀ x, x ∈ y :: l → x < 18446744073709551616) :
    Calls Try.prog 29 #[.slice (some ⟨b, off, none⟩) (l.length + 1) cap] w fun e w' => e = .returned (.tuple #[.float .f64 (leastF y l), .bool true]) ∧ w' = w := by
  have h0 : w.cell? ⟨b, off, none⟩ = some (.float .f64 y) := hb 0 (by simp)
  have HB := Lib.hid hb
  have HL := Lib.hid hl
  clear hb hl
  have hz : ((l.length : Int) + 1 == 0) = false := by simp; omega
  have HE : Hid (∀ k, k = l.length → leastF y (l.take k) = leastF y l) := by
    intro k hk; subst hk; rw [List.take_length]
  by_cases hcap : cap = 1
  · subst hcap
    obtain rfl : l = [] := by cases l with | nil => rfl | cons a t => simp at hc
    go_enter Try.func29, Try.ntmps29
    go_wp2
    go_loop [4, 16] (fun v i => i = .int .i64 (0 : Nat) ∧ v = .float .f64 y) (fun _ _ => 0)
    case atStart => exact ⟨rfl, rfl⟩
    case round =>
      obtain ⟨rfl, rfl⟩ := hrel
      go_wp2
      go_ret2
      exact ⟨rfl, rfl⟩
  · go_enter Try.func29, Try.ntmps29
    go_wp2
    go_loop [4, 16] (fun v i => ∃ k : Nat, k ≤ l.length ∧ i = .int .i64 k ∧ v = .float .f64 (leastF y (l.take k))) (fun _ i => l.length - (intOf i).toNat)
    case atStart => exact ⟨0, by omega, rfl, rfl⟩
    case round =>
      obtain ⟨k, hk, rfl, rfl⟩ := hrel
      by_cases hlt : k < l.length
      · have hcell : w.cell? ⟨b, off + 1 + k, none⟩ = some (.float .f64 (l.getD k 0)) := by
          have := HB.out (k + 1) (by simpa using hlt)
          rw [show off + 1 + k = off + (k + 1) by omega, this]; rfl
        have hx : l.getD k 0 < 18446744073709551616 := HL.out _ (List.mem_cons_of_mem _ (by
          rw [List.getD_eq_getElem?_getD, List.getElem?_eq_getElem hlt]; exact List.getElem_mem hlt))
        have hv : leastF y (l.take k) < 18446744073709551616 := leastF_lt _ _ (HL.out _ (by simp)) (fun x hx => HL.out x (List.mem_cons_of_mem _ (List.mem_of_mem_take hx)))
        have HS : Hid (leastF y (l.take (k + 1)) = if key (l.getD k 0) < key (leastF y (l.take k)) then l.getD k 0 else leastF y (l.take k)) := by
          refine Lib.hid ?_; rw [take_snoc_nat l k hlt, leastF_snoc]
        generalize l.getD k 0 = x at *
        generalize leastF y (l.take k) = v at *
        go_wp2_with fail
        refine (cmp_any x v hx hv _).mono ?_
        rintro e w1 ⟨rfl, rfl⟩
        go_wp2_with fail
        all_goals
          refine ⟨⟨k + 1, by omega, by go_num, ?_⟩, by simp [intOf]; omega⟩
          rw [HS.out]
          rename_i ho
          unfold ord at ho
          congr 1
          revert ho
          (repeat' split) <;> intro ho <;> first | rfl | (exfalso; omega)
      · go_wp2
        go_ret2
        refine ⟨ret_fb ?_ rfl, rfl⟩
        rw [HE.out k (by omega)]
theorem aw1 : timesR (-7) 4602678819172646912 = .tuple #[.int .i64 (-4), .int .i64 0] := by
  rw [timesR_num (by decide) (by decide), show prodF (-7) 4602678819172646912 = -4 by decide +kernel]; rfl
theorem aw2 : wholeR (prodF 1 13826050856027422720) 13826050856027422720 = .tuple #[.int .i64 (-1), .int .i64 0] := by
  rw [wholeR_num (by decide) (by decide), show prodF 1 13826050856027422720 = -1 by decide +kernel]; rfl
theorem aw3 : ofBits 13830554455654793216 = 4607182418800017408 ∧ ofOk 13830554455654793216 = true := by decide +kernel
theorem aw4 : leastF 4611686018427387904 [4607182418800017408, 4613937818241073152] = 4607182418800017408 := by decide +kernel
theorem aw5 : cls 4607182418800017408 = 5 ∧ ord 4607182418800017408 4611686018427387904 = -1 ∧ key 4607182418800017408 = 13830554455654793216 := by decide +kernel
set_option maxRecDepth 100000 in
theorem aw_of (w : World) : Calls Try.prog 20 #[.int .u64 13830554455654793216] w fun e w' => e = .returned (.tuple #[.float .f64 4607182418800017408, .bool true]) ∧ w' = w := by
  have h := of_any 13830554455654793216 (by decide) w
  rw [aw3.1, aw3.2] at h
  exact h
theorem aw_least (w : World) : Calls Try.prog 29 #[.slice (some ⟨w.heap.size, 0, none⟩) 3 3] (w.alloc (.cells #[.float .f64 4611686018427387904, .float .f64 4607182418800017408, .float .f64 4613937818241073152] 22)) fun e w' =>
    e = .returned (.tuple #[.float .f64 4607182418800017408, .bool true]) ∧ w' = w.alloc (.cells #[.float .f64 4611686018427387904, .float .f64 4607182418800017408, .float .f64 4613937818241073152] 22) := by
  have h := least_some w.heap.size 0 3 4611686018427387904 [4607182418800017408, 4613937818241073152] (w.alloc (.cells #[.float .f64 4611686018427387904, .float .f64 4607182418800017408, .float .f64 4613937818241073152] 22)) (by
    intro i hi
    have : i = 0 ∨ i = 1 ∨ i = 2 := by simp at hi; omega
    rcases this with rfl | rfl | rfl <;> simp [go_sem]) (by decide) (by decide) (by decide)
  rw [aw4] at h
  exact h
set_option maxRecDepth 100000 in
theorem awake_any (w : World) : Calls Try.prog 13 #[] w fun e w' => e = .returned (.bool true) ∧ Kp w w' := by
  go_enter Try.func13, Try.ntmps13
  go_wp2_with fail
  refine (times_any _ _ (by decide) (by decide) (by decide) _).mono ?_
  rintro e w1 ⟨rfl, hg1⟩
  rw [aw1]
  go_wp2_with fail
  refine (floor_any _ (by decide) _).mono ?_
  rintro e w2 ⟨rfl, hg2⟩
  rw [aw2]
  go_wp2_with fail
  refine (aw_of _).mono ?_
  rintro e w3 ⟨rfl, rfl⟩
  go_wp2_with fail
  refine (aw_least _).mono ?_
  rintro e w4 ⟨rfl, rfl⟩
  go_wp2_with fail
  refine (cls_any _ (by decide) _).mono ?_
  rintro e w5 ⟨rfl, rfl⟩
  rw [aw5.1]
  go_wp2_with fail
  refine (cmp_any _ _ (by decide) (by decide) _).mono ?_
  rintro e w6 ⟨rfl, rfl⟩
  rw [aw5.2.1]
  go_wp2_with fail
  refine (key_any _ (by decide) _).mono ?_
  rintro e w7 ⟨rfl, rfl⟩
  rw [aw5.2.2]
  go_wp2_with fail
  go_ret
  refine ⟨rfl, ?_⟩
  refine grown_trans hg1 (grown_trans hg2 ?_)
  go_grown
end Go.Proofs.Ytjicdbkpklikfaa
