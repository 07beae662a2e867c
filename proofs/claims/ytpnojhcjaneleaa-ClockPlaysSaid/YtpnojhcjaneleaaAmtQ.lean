/- The document's 'more', 'number', 'Size'. -/
import Derived.Test.YtpnojhcjaneleaaAmtP
namespace Go.Proofs.Ytpnojhcjaneleaa
open Go.RowKit Go.Fl
set_option maxRecDepth 100000
theorem rsize_any (n : Int) (h0 : -9223372036854775808 ≤ n) (h1 : n < 9223372036854775808) (w : World) :
    Calls Try.prog 32 #[.int .i64 n] w fun e w' => e = .returned (.int .u64 n.natAbs) ∧ w' = w := by
  by_cases g : n < 0
  · go_enter Try.func32, Try.ntmps32
    go_wp2
    go_ret
    refine ⟨ret_u64 ?_, rfl⟩
    try simp only [IntKind.wrap_u64]
    omega
  · go_enter Try.func32, Try.ntmps32
    go_wp2
    go_ret
    exact ⟨ret_u64 (by omega), rfl⟩

theorem dv_append (xs ys : List Nat) : dv (xs ++ ys) = dv xs ++ dv ys := by unfold dv; simp
theorem more_any (vd : Value) (d : List Nat) (w : World) (hd : Bits w vd d) (hl : d.length ≤ 4000) :
    Calls Try.prog 33 #[vd] w (Made w fun xs => bval xs = bval d + 1 ∧ xs.length = d.length + 1) := by
  obtain ⟨i0, hi, hz0, hz1, hz2⟩ := info_parts info_u8
  have HI := Lib.hid hi
  have HI0 := Lib.hid hz0
  have HI1 := Lib.hid hz1
  have HI2 := Lib.hid hz2
  clear hi hz0 hz1 hz2
  obtain ⟨⟨gd, od, cd, rfl, hd1, hd2, hcd⟩, hbd⟩ := hd
  have HCD := Lib.hid hcd
  have HBD := Lib.hid hbd
  clear hcd hbd
  go_enter Try.func33, Try.ntmps33
  go_wp2_with (at_builtin; refine wpList_append_own _ rfl _ _ 86 rfl w.heap.size 5 i0 (.int .u8 0) 1 1 Try.underlying86 HI.out HI0.out HI1.out HI2.out rfl (by decide) _ 0 [] rfl (own_empty8 w) ⟨gd, od, none⟩ d.length cd (dv d) rfl ?c1 ?c2 ?c3 ?c4 ?c5 ?c6 ?_)
  case c1 => rw [dv_len, Nat.mul_one]
  case c2 =>
    intro j u hu
    have hj : j < d.length := by
      have := (List.getElem?_eq_some_iff.1 hu).1; rw [dv_len] at this; exact this
    rw [dv_get _ _ hj] at hu
    injection hu with hu
    have c := HCD.out j hj
    rw [show (⟨gd, od, none⟩ : Addr).add j = ⟨gd, od + j, none⟩ by simp [Addr.add]]
    rw [World.cell?_alloc_lt _ _ _ (World.block_lt_of_cell? w ⟨gd, od + j, none⟩ c), c, hu]
  case c3 =>
    intro u hu
    unfold dv at hu
    obtain ⟨z, _, rfl⟩ := List.mem_map.1 hu
    rfl
  case c4 => unfold maxLen; omega
  case c5 => omega
  case c6 => simp
  intro v1 w1 hown hg hnil
  have hk1 : Kp w w1 := ((Below.refl _ w).alloc (Nat.le_refl _) _).grown hg (by simp) (by
    intro k hk
    have : some w.heap.size = some k := hk
    injection this with this
    omega)
  have HK1 := Lib.hid hk1
  have HN1 : Hid (v1 ≠ .slice none 0 0) := Lib.hid fun h => by have := hnil h; simp at this
  clear hg hnil hk1
  go_wp2_with (at_builtin; refine wpList_append_own _ rfl _ _ 86 rfl w.heap.size 5 i0 (.int .u8 0) 1 1 Try.underlying86 HI.out HI0.out HI1.out HI2.out rfl (by decide) _ d.length (dv d) rfl (hown.alloc _) ⟨w1.heap.size, 0, none⟩ 1 1 [.int .u8 0] rfl ?c1 ?c2 ?c3 ?c4 ?c5 ?c6 ?_)
  case c1 => rfl
  case c2 =>
    intro j u hu
    cases j with
    | zero => simp at hu; subst hu; simp [Addr.add, go_sem]
    | succ j => simp at hu
  case c3 => intro u hu; simp at hu; subst hu; rfl
  case c4 => unfold maxLen; omega
  case c5 => omega
  case c6 => have := HK1.out.size; simp; omega
  intro v2 w2 hown2 hg hnil
  have hk2 : Kp w w2 := (HK1.out.alloc HK1.out.size _).grown hg (by have := HK1.out.size; simp; omega) (by
    intro k hk
    rcases hown.2 with ⟨h, _⟩ | ⟨g, c, cur, h, hb, _⟩
    · exact absurd h HN1.out
    · rw [h] at hk
      have : some g = some k := hk
      injection this with this
      omega)
  have hn2 : v2 ≠ .slice none 0 0 := fun h => by have := hnil h; first | exact this | exact HN1.out this
  obtain ⟨g, cap, hv, hb0, hc1, hc2⟩ : ∃ g cap, v2 = .slice (some ⟨g, 0, none⟩) (d.length + 1) cap ∧ w.heap.size ≤ g ∧ d.length + 1 ≤ cap ∧ cap ≤ maxLen := by
    rcases hown2.2 with ⟨h, _⟩ | ⟨g, c, cur, h, hb, _, k1, k2, _⟩
    · exact absurd h hn2
    · exact ⟨g, c, h, hb, k1, k2⟩
  rw [hv] at hown2 ⊢
  have hown3 : w2.ownsRow w.heap.size 5 1 (.slice (some ⟨g, 0, none⟩) (d.length + 1) cap) (d.length + 1) (dv (d ++ [0])) := by rw [dv_snoc]; exact hown2
  have hc3 : cap ≤ 9223372036854775807 := hc2
  clear hv hn2 hnil hg hown2 hown
  go_wp2
  go_loopw [4] (fun i wr => ∃ (j : Nat) (ys : List Nat), i = .int .i64 (j : Int) ∧ Hid (j ≤ d.length ∧ Bin ys ∧ ys.length = d.length + 1 ∧ ys.getD d.length 0 = 0 ∧ bval ys + 2 ^ j = bval d + 1) ∧ wr.ownsRow w.heap.size 5 1 (.slice (some ⟨g, 0, none⟩) (d.length + 1) cap) (d.length + 1) (dv ys) ∧ Kp w wr) (fun i _ => d.length - (intOf i).toNat)
  case atStart => exact ⟨0, d ++ [0], rfl, Lib.hid ⟨by omega, HBD.out.snoc (by omega), by simp, by simp, by rw [bval_snoc]; simp⟩, hown3, hk2⟩
  case round =>
    obtain ⟨i, ys, rfl, HY, hown4, hk4⟩ := hrel
    obtain ⟨wi, rfl⟩ : ∃ wi : World, wi = wr := ⟨_, rfl⟩
    have hy := HY.out
    have cO : wi.cell? ⟨g, i, none⟩ = some (.int .u8 ((ys.getD i 0 : Nat) : Int)) := by rw [hown4.cellAt i (by omega), dv_get _ _ (by omega)]
    have fO : wi.frozen? ⟨g, i, none⟩ = false := hown4.frozenAt i
    have hy2 := hy.2.1.getD i
    have hil := hy.1
    have HO := Lib.hid hown4
    have HK := Lib.hid hk4
    clear hown4 hk4 hown3 hk2
    by_cases h1 : ys.getD i 0 = 1
    · have hlt : i < d.length := by
        rcases Nat.lt_or_ge i d.length with q | q
        · exact q
        · have : i = d.length := by omega
          rw [this] at h1; rw [h1] at hy; omega
      rw [h1] at cO
      have H1 := Lib.hid h1
      clear h1 hy hy2
      go_wp2
      have hy := HY.out
      refine ⟨⟨i + 1, ys.set i 0, by go_num, ?_, ?_, ?_⟩, by simp [intOf]; omega⟩
      · refine Lib.hid ⟨by omega, hy.2.1.set (by omega), by rw [List.length_set]; exact hy.2.2.1, ?_, ?_⟩
        · rw [List.getD_eq_getElem?_getD, List.getElem?_set_ne (by omega), ← List.getD_eq_getElem?_getD]; exact hy.2.2.2.1
        · have s := bval_set ys i 0 (by omega)
          rw [H1.out] at s
          have := hy.2.2.2.2
          rw [Nat.pow_succ]; omega
      · rw [← dv_set]; exact (HO.out.stored i _).1
      · exact HK.out.setCell hb0 _
    · have h0 : ys.getD i 0 = 0 := by omega
      rw [h0] at cO
      have H0 := Lib.hid h0
      clear h0 h1 hy hy2
      go_wp2
      go_ret
      have hy := HY.out
      have s := bval_set ys i 1 (by omega)
      rw [H0.out] at s
      have o := (HO.out.stored i (.int .u8 1)).1
      rw [show (Value.int .u8 1) = Value.int .u8 ((1 : Nat) : Int) from rfl, dv_set] at o
      exact ⟨_, ys.set i 1, rfl, bits_of_own o (by rw [List.length_set]; exact hy.2.2.1) (hy.2.1.set (by omega)) hc1 hc2, ⟨by omega, by rw [List.length_set]; exact hy.2.2.1⟩, HK.out.setCell hb0 _⟩

def numV (F : Int) : Value := .tuple #[.int .i64 (if fits F then F else 0), .bool (fits F)]
theorem numV_yes {F a : Int} (h : -9223372036854775808 ≤ F ∧ F < 9223372036854775808) (e : a = F) : Ending.returned (.tuple #[.int .i64 a, .bool true]) = .returned (numV F) := by
  have f : fits F = true := by unfold fits; exact decide_eq_true h
  unfold numV; rw [f, e]; rfl
theorem numV_no {F : Int} (h : ¬ (-9223372036854775808 ≤ F ∧ F < 9223372036854775808)) : Ending.returned (.tuple #[.int .i64 0, .bool false]) = .returned (numV F) := by
  have f : fits F = false := by unfold fits; exact decide_eq_false h
  unfold numV; rw [f]; rfl
theorem number_any (vd : Value) (d : List Nat) (neg : Bool) (w : World) (hd : Bits w vd d) (hl : d.length ≤ 4000) :
    Calls Try.prog 34 #[vd, .bool neg] w fun e w' => e = .returned (numV (if neg then -(bval d : Int) else (bval d : Int))) ∧ Kp w w' := by
  obtain ⟨⟨gd, od, cd, rfl, hd1, hd2, hcd⟩, hbd⟩ := hd
  have HCD := Lib.hid hcd
  have HBD := Lib.hid hbd
  clear hcd hbd
  go_enter Try.func34, Try.ntmps34
  go_wp2
  go_loop [6, 7] (fun o i => ∃ (k : Int) (V : Int), i = .int .i64 k ∧ o = .int .u64 V ∧ Hid (-1 ≤ k ∧ k < d.length ∧ V = (bval (d.drop (k + 1).toNat) : Int) ∧ 0 ≤ V ∧ V < 18446744073709551616)) (fun _ i => (intOf i + 1).toNat)
  case atStart => exact ⟨_, 0, rfl, rfl, Lib.hid ⟨by omega, by omega, by rw [show ((d.length : Int) - 1 + 1).toNat = d.length by omega, List.drop_length]; rfl, by omega, by omega⟩⟩
  case round =>
    obtain ⟨k, V, rfl, rfl, HR⟩ := hrel
    have hr := HR.out
    have hV0 := hr.2.2.2.1
    have hV := hr.2.2.2.2
    have hk1 := hr.1
    have hk2 := hr.2.1
    clear hr
    by_cases hk : 0 ≤ k
    · obtain ⟨j, rfl⟩ := Int.eq_ofNat_of_zero_le hk
      have hj : j < d.length := by omega
      have cD : w.cell? ⟨gd, od + j, none⟩ = some (.int .u8 ((d.getD j 0 : Nat) : Int)) := HCD.out j hj
      have hD2 := HBD.out.getD j
      have HB : Hid ((bval (d.drop j) : Int) = d.getD j 0 + 2 * V) := Lib.hid (by
        have hr := HR.out
        rw [hr.2.2.1, show ((j : Int) + 1).toNat = j + 1 by omega, List.drop_eq_getElem_cons hj, bval, List.getD_eq_getElem?_getD, List.getElem?_eq_getElem hj]
        simp)
      generalize d.getD j 0 = y at *
      by_cases hbig : V < 9223372036854775808
      · go_wp2
        refine ⟨⟨_, (y : Int) + 2 * V, rfl, ?_, Lib.hid ⟨by omega, by omega, ?_, by omega, by omega⟩⟩, by first | (simp [intOf]; done) | (simp [intOf]; omega)⟩
        · refine congrArg (Value.int IntKind.u64) ?_
          omega
        · rw [show ((j : Int) - 1 + 1).toNat = j by omega]; exact HB.out.symm
      · have hbig : 9223372036854775808 ≤ V := by omega
        have HF : Hid ((18446744073709551616 : Int) ≤ (bval d : Int)) := Lib.hid (by
          have e : bval d = bval (d.take j) + 2 ^ (d.take j).length * bval (d.drop j) := by rw [← bval_append, List.take_append_drop]
          have l : bval (d.drop j) ≤ 2 ^ (d.take j).length * bval (d.drop j) := Nat.le_mul_of_pos_left _ (Nat.two_pow_pos _)
          have hb := HB.out
          omega)
        cases neg
        · go_wp2
          go_ret2
          have hf := HF.out
          exact ⟨numV_no (by first | omega | (simp; omega)), Below.refl _ _⟩
        · go_wp2
          go_ret2
          have hf := HF.out
          exact ⟨numV_no (by first | omega | (simp; omega)), Below.refl _ _⟩
    · obtain rfl : k = -1 := by omega
      have e : V = (bval d : Int) := by
        have hr := HR.out
        rw [hr.2.2.1]; rfl
      have HE := Lib.hid e
      clear e
      cases neg
      · by_cases hb : V < 9223372036854775808
        · go_wp2
          go_ret2
          refine ⟨?_, Below.refl _ _⟩
          rw [← HE.out]
          exact numV_yes (by first | omega | (simp; omega)) (by first | rfl | (unfold wrap64; omega) | (simp; unfold wrap64; omega) | omega)
        · have hb : 9223372036854775808 ≤ V := by omega
          go_wp2
          go_ret2
          refine ⟨?_, Below.refl _ _⟩
          rw [← HE.out]
          exact numV_no (by first | omega | (simp; omega))
      · by_cases hz : V = 9223372036854775808
        · have hz1 : (V == 9223372036854775808) = true := by simp; omega
          have HZ := Lib.hid hz
          clear hz
          go_wp2
          go_ret2
          refine ⟨?_, Below.refl _ _⟩
          rw [← HE.out, HZ.out]
          exact numV_yes (by first | omega | simp) (by first | rfl | simp)
        · have hz1 : (V == 9223372036854775808) = false := by simp; omega
          by_cases hb : V < 9223372036854775808
          · go_wp2
            go_ret2
            refine ⟨?_, Below.refl _ _⟩
            rw [← HE.out]
            exact numV_yes (by first | omega | (simp; omega)) (by first | rfl | (unfold wrap64; omega) | (simp; unfold wrap64; omega) | omega)
          · have hb : 9223372036854775808 ≤ V := by omega
            go_wp2
            go_ret2
            refine ⟨?_, Below.refl _ _⟩
            rw [← HE.out]
            exact numV_no (by first | omega | (simp; omega))
end Go.Proofs.Ytpnojhcjaneleaa
