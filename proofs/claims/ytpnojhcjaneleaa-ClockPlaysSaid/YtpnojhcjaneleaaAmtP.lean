/- The document's product of digits. -/
import Derived.Test.YtpnojhcjaneleaaAmtD
namespace Go.Proofs.Ytpnojhcjaneleaa
open Go.RowKit Go.Fl
set_option maxRecDepth 100000
theorem madeCells_dv (n : Nat) : (madeCells #[Value.int .u8 0] n).toList = dv (List.replicate n 0) := by
  simp [dv, madeCells, Nat.mod_one, List.map_const']
theorem dv_set (xs : List Nat) (i x : Nat) : (dv xs).set i (.int .u8 (x : Int)) = dv (xs.set i x) := by unfold dv; rw [List.map_set]
theorem dv_get (xs : List Nat) (i : Nat) (h : i < xs.length) : (dv xs)[i]? = some (.int .u8 ((xs.getD i 0 : Nat) : Int)) := by
  unfold dv; rw [List.getElem?_map, List.getElem?_eq_getElem h, List.getD_eq_getElem?_getD, List.getElem?_eq_getElem h]; rfl
theorem Bits.kept {w w' : World} {v : Value} {xs : List Nat} (h : Bits w v xs) (k : Below w.heap.size w w') : Bits w' v xs := by
  obtain ⟨⟨g, off, cap, e, h1, h2, hc⟩, hb⟩ := h
  refine ⟨⟨g, off, cap, e, h1, h2, fun i hi => ?_⟩, hb⟩
  have c := hc i hi
  rw [k.cell (World.block_lt_of_cell? _ _ c)]; exact c

/-- One round of the inner loop, in numbers. -/
theorem round_val (outs b : List Nat) (i k c V0 : Nat) (hk : i + k < outs.length) (hkb : k ≤ b.length)
    (h : bval outs + 2 ^ (i + k) * c = V0 + 2 ^ i * bval (b.take k)) :
    bval (outs.set (i + k) ((outs.getD (i + k) 0 + c + b.getD k 0) % 2)) + 2 ^ (i + (k + 1)) * ((outs.getD (i + k) 0 + c + b.getD k 0) / 2) = V0 + 2 ^ i * bval (b.take (k + 1)) := by
  have s := bval_set outs (i + k) ((outs.getD (i + k) 0 + c + b.getD k 0) % 2) hk
  have t : bval (b.take (k + 1)) = bval (b.take k) + 2 ^ k * b.getD k 0 := by
    by_cases g : k < b.length
    · exact bval_take_succ b k g
    · have e : b.getD k 0 = 0 := by rw [List.getD_eq_getElem?_getD, List.getElem?_eq_none (by omega)]; rfl
      rw [e, List.take_of_length_le (by omega), List.take_of_length_le (by omega)]; omega
  rw [t, Nat.mul_add, ← Nat.mul_assoc (2 ^ i) (2 ^ k), ← Nat.pow_add]
  generalize outs.getD (i + k) 0 = o at *
  generalize b.getD k 0 = y at *
  have e : 2 ^ (i + (k + 1)) = 2 ^ (i + k) * 2 := by rw [← Nat.add_assoc, Nat.pow_succ]
  rw [e]
  generalize 2 ^ (i + k) = p at *
  have d := Nat.div_add_mod (o + c + y) 2
  generalize (o + c + y) % 2 = r at *
  generalize (o + c + y) / 2 = q at *
  have x1 : p * (2 * q + r) = p * o + p * c + p * y := by rw [d, Nat.mul_add, Nat.mul_add]
  rw [Nat.mul_add, ← Nat.mul_assoc] at x1
  omega
/-- At its end nothing is carried. -/
theorem round_end (outs b : List Nat) (i c A : Nat) (hA : A < 2 ^ i) (hb : Bin b)
    (h : bval outs + 2 ^ (i + (b.length + 1)) * c = A * bval b + 2 ^ i * bval b) : c = 0 ∧ bval outs = (A + 2 ^ i) * bval b := by
  have hv := bval_lt hb
  have e : (A + 2 ^ i) * bval b = A * bval b + 2 ^ i * bval b := Nat.add_mul _ _ _
  have l : (A + 2 ^ i) * bval b < 2 ^ (i + (b.length + 1)) := by
    have l1 : A + 2 ^ i < 2 ^ (i + 1) := by rw [Nat.pow_succ]; omega
    have l2 : (A + 2 ^ i) * bval b < 2 ^ (i + 1) * 2 ^ b.length := Nat.mul_lt_mul'' l1 hv
    rw [← Nat.pow_add] at l2
    rw [show i + (b.length + 1) = i + 1 + b.length by omega]; exact l2
  rw [← e] at h
  refine ⟨?_, ?_⟩
  · rcases Nat.eq_zero_or_pos c with z | z
    · exact z
    · have := Nat.le_mul_of_pos_right (2 ^ (i + (b.length + 1))) z; omega
  · rcases Nat.eq_zero_or_pos c with z | z
    · rw [z] at h; omega
    · have := Nat.le_mul_of_pos_right (2 ^ (i + (b.length + 1))) z; omega

theorem rproduct_any (va vb : Value) (a b : List Nat) (w : World) (ha : Bits w va a) (hb : Bits w vb b) (hla : a.length ≤ 64) (hlb : b.length ≤ 64) :
    Calls Try.prog 30 #[va, vb] w (Made w fun xs => bval xs = bval a * bval b ∧ xs.length = a.length + b.length + 1) := by
  obtain ⟨i0, hi, hz0, hz1, hz2⟩ := info_parts info_u8
  have HI := Lib.hid hi
  have HI0 := Lib.hid hz0
  have HI1 := Lib.hid hz1
  have HI2 := Lib.hid hz2
  clear hi hz0 hz1 hz2
  obtain ⟨⟨ga, oa, ca, rfl, ha1, ha2, hca⟩, hba⟩ := ha
  obtain ⟨⟨gb, ob, cb, rfl, hb1, hb2, hcb⟩, hbb⟩ := hb
  have HCA := Lib.hid hca
  have HCB := Lib.hid hcb
  have HBA := Lib.hid hba
  have HBB := Lib.hid hbb
  clear hca hcb hba hbb
  go_enter Try.func30, Try.ntmps30
  go_wp2_with (refine wpList_make_full _ rfl _ _ 86 rfl w.heap.size 5 i0 (.int .u8 0) 1 Try.underlying86 HI.out HI0.out HI1.out _ _ _ _ (a.length + b.length + 1) rfl rfl ?c1 ?c2 ?c3 ?c4 ?c5 ?_)
  case c1 => omega
  case c2 => omega
  case c3 => rw [HI2.out]; omega
  case c4 => unfold maxLen; omega
  case c5 => exact Nat.le_refl _
  intro w1 hown hg
  rw [madeCells_dv] at hown
  go_wp2
  have hk1 : Kp w w1 := (Below.refl _ w).grown hg (Nat.le_refl _) (by intro k hk; cases hk)
  clear hg
  go_loopw [6] (fun i wr => ∃ (j : Nat) (outs : List Nat), i = .int .i64 (j : Int) ∧ Hid (j ≤ a.length ∧ Bin outs ∧ outs.length = a.length + b.length + 1 ∧ bval outs = bval (a.take j) * bval b) ∧ wr.ownsRow w.heap.size 5 1 (.slice (some ⟨w.heap.size, 0, none⟩) (a.length + b.length + 1) (a.length + b.length + 1)) (a.length + b.length + 1) (dv outs) ∧ Kp w wr) (fun i _ => a.length - (intOf i).toNat)
  case atStart => exact ⟨0, List.replicate (a.length + b.length + 1) 0, rfl, Lib.hid ⟨by omega, bin_replicate _, by simp, by rw [bval_replicate]; simp [bval]⟩, hown, hk1⟩
  case round =>
    obtain ⟨i, outs, rfl, HR, hown1, hk2⟩ := hrel
    obtain ⟨wo, rfl⟩ : ∃ wo : World, wo = wr := ⟨_, rfl⟩
    have HO1 := Lib.hid hown1
    have HK2 := Lib.hid hk2
    clear hown1 hk2 hown hk1
    by_cases hi : i < a.length
    · have cA : wo.cell? ⟨ga, oa + i, none⟩ = some (.int .u8 ((a.getD i 0 : Nat) : Int)) := by
        have c := HCA.out i hi
        rw [HK2.out.cell (World.block_lt_of_cell? _ _ c)]; exact c
      have hA2 := HBA.out.getD i
      by_cases h1 : a.getD i 0 = 1
      · rw [h1] at cA
        go_wp2
        go_loopw [7, 8] (fun c k wr => ∃ (j d : Nat) (ys : List Nat), c = .int .u8 (d : Int) ∧ k = .int .i64 (j : Int) ∧ Hid (j ≤ b.length + 1 ∧ d < 2 ∧ Bin ys ∧ ys.length = a.length + b.length + 1 ∧ bval ys + 2 ^ (i + j) * d = bval (a.take i) * bval b + 2 ^ i * bval (b.take j)) ∧ wr.ownsRow w.heap.size 5 1 (.slice (some ⟨w.heap.size, 0, none⟩) (a.length + b.length + 1) (a.length + b.length + 1)) (a.length + b.length + 1) (dv ys) ∧ Kp w wr) (fun _ k _ => b.length + 1 - (intOf k).toNat)
        case atStart =>
          have hr := HR.out
          exact ⟨0, 0, outs, rfl, rfl, Lib.hid ⟨by omega, by omega, hr.2.1, hr.2.2.1, by rw [hr.2.2.2, List.take_zero]; simp [bval]⟩, HO1.out, HK2.out⟩
        case round =>
          obtain ⟨k, d, ys, rfl, rfl, HY, hown3, hk3⟩ := hrel
          obtain ⟨wi, rfl⟩ : ∃ wi : World, wi = wr := ⟨_, rfl⟩
          have HO3 := Lib.hid hown3
          have HK3 := Lib.hid hk3
          clear hown3 hk3
          have cA3 : wi.cell? ⟨ga, oa + i, none⟩ = some (.int .u8 1) := by
            have c := HCA.out i hi
            rw [h1] at c
            rw [HK3.out.cell (World.block_lt_of_cell? _ _ c)]; exact c
          have H1 := Lib.hid h1
          clear h1
          by_cases hk : k ≤ b.length
          · have hy := HY.out
            have cO : wi.cell? ⟨w.heap.size, i + k, none⟩ = some (.int .u8 ((ys.getD (i + k) 0 : Nat) : Int)) := by
              rw [HO3.out.cellAt (i + k) (by omega), dv_get _ _ (by omega)]
            have fO : wi.frozen? ⟨w.heap.size, i + k, none⟩ = false := HO3.out.frozenAt (i + k)
            have hO2 := hy.2.2.1.getD (i + k)
            have hd2 := hy.2.1
            have HS := Lib.hid (HO3.out.stored (i + k) (.int .u8 (((ys.getD (i + k) 0 + d + b.getD k 0) % 2 : Nat) : Int)))
            have HV := Lib.hid (round_val ys b i k d _ (by omega) hk hy.2.2.2.2)
            have HBs := Lib.hid (hy.2.2.1.set (i := i + k) (x := (ys.getD (i + k) 0 + d + b.getD k 0) % 2) (Nat.mod_lt _ (by omega)))
            clear hy
            by_cases hkb : k < b.length
            · have cB : wi.cell? ⟨gb, ob + k, none⟩ = some (.int .u8 ((b.getD k 0 : Nat) : Int)) := by
                have c := HCB.out k hkb
                rw [HK3.out.cell (World.block_lt_of_cell? _ _ c)]; exact c
              have hB2 := HBB.out.getD k
              generalize b.getD k 0 = y at *
              generalize ys.getD (i + k) 0 = o at *
              go_wp2
              have e1 : (((o : Int) + (d : Int) + (y : Int)) % 2) = (((o + d + y) % 2 : Nat) : Int) := by omega
              refine ⟨⟨k + 1, (o + d + y) / 2, ys.set (i + k) ((o + d + y) % 2), ?_, by go_num, ?_, ?_, ?_⟩, by simp [intOf]; omega⟩
              · refine congrArg (Value.int IntKind.u8) ?_
                omega
              · have hy := HY.out
                exact Lib.hid ⟨by omega, by omega, HBs.out, by rw [List.length_set]; exact hy.2.2.2.1, HV.out⟩
              · rw [e1, ← dv_set]; exact HS.out.1
              · exact HK3.out.setCell (Nat.le_refl _) _
            · have e0 : b.getD k 0 = 0 := by rw [List.getD_eq_getElem?_getD, List.getElem?_eq_none (by omega)]; rfl
              rw [e0, Nat.add_zero] at HS HV HBs
              clear e0
              generalize ys.getD (i + k) 0 = o at *
              go_wp2
              have e1 : (((o : Int) + (d : Int)) % 2) = (((o + d) % 2 : Nat) : Int) := by omega
              refine ⟨⟨k + 1, (o + d) / 2, ys.set (i + k) ((o + d) % 2), ?_, by go_num, ?_, ?_, ?_⟩, by simp [intOf]; omega⟩
              · refine congrArg (Value.int IntKind.u8) ?_
                omega
              · have hy := HY.out
                exact Lib.hid ⟨by omega, by omega, HBs.out, by rw [List.length_set]; exact hy.2.2.2.1, HV.out⟩
              · rw [e1, ← dv_set]; exact HS.out.1
              · exact HK3.out.setCell (Nat.le_refl _) _
          · have hy := HY.out
            obtain rfl : k = b.length + 1 := by omega
            rw [List.take_of_length_le (show b.length ≤ b.length + 1 by omega)] at hy
            have E := round_end ys b i d _ (by
              have := bval_lt (bin_take HBA.out i)
              rw [List.length_take, Nat.min_eq_left (by omega)] at this
              exact this) HBB.out hy.2.2.2.2
            have HE := Lib.hid E.2
            obtain rfl : d = 0 := E.1
            clear E hy
            go_wp2
            refine ⟨⟨i + 1, ys, by go_num, ?_, HO3.out, HK3.out⟩, by simp [intOf]; omega⟩
            have hy := HY.out
            refine Lib.hid ⟨by omega, hy.2.2.1, hy.2.2.2.1, ?_⟩
            rw [bval_take_succ _ _ hi, H1.out, Nat.mul_one]; exact HE.out
      · have h0 : a.getD i 0 = 0 := by omega
        rw [h0] at cA
        have H0 := Lib.hid h0
        clear h0 h1
        go_wp2
        go_loopw [7, 8] (fun c k wr => c = .int .u8 (0 : Nat) ∧ k = .int .i64 (0 : Nat) ∧ wr = wo) (fun _ _ _ => 0)
        case atStart => exact ⟨rfl, rfl, rfl⟩
        case round =>
          obtain ⟨rfl, rfl, rfl⟩ := hrel
          go_wp2
          refine ⟨⟨i + 1, outs, by go_num, ?_, HO1.out, HK2.out⟩, by simp [intOf]; omega⟩
          have hr := HR.out
          refine Lib.hid ⟨by omega, hr.2.1, hr.2.2.1, ?_⟩
          rw [bval_take_succ _ _ hi, H0.out, Nat.mul_zero, Nat.add_zero]; exact hr.2.2.2
    · go_wp2
      go_ret
      have hr := HR.out
      have e : a.take i = a := List.take_of_length_le (by omega)
      rw [e] at hr
      exact ⟨_, outs, rfl, bits_of_own HO1.out hr.2.2.1 hr.2.1 (Nat.le_refl _) (by unfold maxLen; omega), ⟨hr.2.2.2, hr.2.2.1⟩, HK2.out⟩
end Go.Proofs.Ytpnojhcjaneleaa
