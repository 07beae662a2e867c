/- The document's product, floor and ceiling. -/
import Derived.Test.YtpnojhcjaneleaaAmtQ
namespace Go.Proofs.Ytpnojhcjaneleaa
open Go.RowKit Go.Fl
set_option maxRecDepth 100000
theorem digits_int (N : Int) (h0 : 0 ≤ N) (hN : N < 18446744073709551616) (w : World) :
    Calls Try.prog 31 #[.int .u64 N] w (Made w fun xs => bval xs = N.toNat ∧ xs.length ≤ 64) := by
  obtain ⟨k, rfl⟩ := Int.eq_ofNat_of_zero_le h0
  exact digits_any k (by omega) w
/-- The document's product: cut downwards, or upwards. -/
def prodR (n : Int) (x : Nat) (up : Bool) : Value :=
  if nan x || (inf x && n == 0) then .tuple #[.int .i64 0, .int .i64 10] else if inf x then .tuple #[.int .i64 0, .int .i64 11] else fitV (if up then -prodF (-n) x else prodF n x)
theorem prodR_nan {n : Int} {x : Nat} {u : Bool} (h : nan x = true) : prodR n x u = .tuple #[.int .i64 0, .int .i64 10] := by unfold prodR; rw [h]; rfl
theorem prodR_inf0 {n : Int} {x : Nat} {u : Bool} (h : inf x = true) (h2 : (n == 0) = true) : prodR n x u = .tuple #[.int .i64 0, .int .i64 10] := by unfold prodR; rw [h, h2]; simp
theorem prodR_inf {n : Int} {x : Nat} {u : Bool} (h : nan x = false) (h1 : inf x = true) (h2 : (n == 0) = false) : prodR n x u = .tuple #[.int .i64 0, .int .i64 11] := by unfold prodR; rw [h, h1, h2]; rfl
theorem prodR_num {n : Int} {x : Nat} {u : Bool} (h : nan x = false) (h1 : inf x = false) : prodR n x u = fitV (if u then -prodF (-n) x else prodF n x) := by unfold prodR; rw [h, h1]; rfl
theorem nan_bits (x : Nat) (hx : x < 18446744073709551616) (h : nan x = true) : (x : Int) / 4503599627370496 % 2048 = 2047 ∧ (x : Int) % 4503599627370496 ≠ 0 := by
  rw [nan_dec x hx, decide_eq_true_eq] at h; omega
theorem inf_bits (x : Nat) (h : inf x = true) : (x : Int) / 4503599627370496 % 2048 = 2047 ∧ (x : Int) % 4503599627370496 = 0 := by
  unfold inf at h; rw [decide_eq_true_eq] at h; omega
theorem num_bits (x : Nat) (hx : x < 18446744073709551616) (h : nan x = false) (h1 : inf x = false) : (x : Int) / 4503599627370496 % 2048 ≠ 2047 := by
  rw [nan_dec x hx, decide_eq_false_iff_not] at h
  unfold inf at h1; rw [decide_eq_false_iff_not] at h1
  omega

theorem rprod_nan (n : Int) (x : Nat) (u : Bool) (hx : x < 18446744073709551616) (h : nan x = true) (w : World) :
    Calls Try.prog 21 #[.int .i64 n, .float .f64 x, .bool u] w fun e w' => e = .returned (prodR n x u) ∧ Kp w w' := by
  have b := nan_bits x hx h
  have b1 : ((x : Int) / 4503599627370496 % 2048 == 2047) = true := by simpa using b.1
  have b2 : ((x : Int) % 4503599627370496 != 0) = true := by simpa using b.2
  have H := Lib.hid (prodR_nan (n := n) (u := u) h)
  clear b h
  go_enter Try.func21, Try.ntmps21
  go_wp2
  go_ret2
  exact ⟨by rw [H.out]; rfl, Below.refl _ _⟩
theorem rprod_inf (n : Int) (x : Nat) (u : Bool) (hx : x < 18446744073709551616) (hn : nan x = false) (h : inf x = true) (w : World) :
    Calls Try.prog 21 #[.int .i64 n, .float .f64 x, .bool u] w fun e w' => e = .returned (prodR n x u) ∧ Kp w w' := by
  have b := inf_bits x h
  have b1 : ((x : Int) / 4503599627370496 % 2048 == 2047) = true := by simpa using b.1
  have b2 : ((x : Int) % 4503599627370496 != 0) = false := by simpa using b.2
  by_cases h0 : n = 0
  · subst h0
    have H := Lib.hid (prodR_inf0 (n := 0) (u := u) h rfl)
    clear b h hn
    go_enter Try.func21, Try.ntmps21
    go_wp2
    go_ret2
    exact ⟨by rw [H.out]; rfl, Below.refl _ _⟩
  · have h0 : (n == 0) = false := by simpa using h0
    have H := Lib.hid (prodR_inf (u := u) hn h h0)
    clear b h hn
    go_enter Try.func21, Try.ntmps21
    go_wp2
    go_ret2
    exact ⟨by rw [H.out]; rfl, Below.refl _ _⟩
theorem numV_shape (F : Int) : (numV F = .tuple #[.int .i64 0, .bool false] ∧ fitV F = .tuple #[.int .i64 0, .int .i64 11]) ∨ (∃ v : Int, numV F = .tuple #[.int .i64 v, .bool true] ∧ fitV F = .tuple #[.int .i64 v, .int .i64 0]) := by
  unfold numV fitV
  cases h : fits F
  · exact Or.inl ⟨rfl, rfl⟩
  · exact Or.inr ⟨_, rfl, rfl⟩
theorem own_one8 (w : World) : (w.alloc (.cells #[.int .u8 0] 5)).ownsRow w.heap.size 5 1 (.slice (some ⟨w.heap.size, 0, none⟩) 1 1) 1 (dv [0]) := by
  refine ⟨rfl, Or.inr ⟨w.heap.size, 1, #[.int .u8 0], rfl, Nat.le_refl _, (MapKept.heap_alloc w _).1, Nat.le_refl _, by unfold maxLen; omega, rfl, rfl⟩⟩
theorem sign_iff (n : Int) (x : Nat) (hx : x < 18446744073709551616) : (!(decide (n < 0) == ((x : Int) / 9223372036854775808 == 1))) = true ↔ ((n < 0 ∧ ¬ 9223372036854775808 ≤ x) ∨ (0 ≤ n ∧ 9223372036854775808 ≤ x)) := by
  have e : ((x : Int) / 9223372036854775808 == 1) = decide (9223372036854775808 ≤ x) := by rw [Bool.eq_iff_iff, beq_iff_eq, decide_eq_true_eq]; omega
  rw [e]
  by_cases h1 : n < 0 <;> by_cases h2 : 9223372036854775808 ≤ x <;> simp [h1, h2] <;> omega
set_option maxHeartbeats 1000000 in
theorem rprod_num (n : Int) (x : Nat) (u : Bool) (hx : x < 18446744073709551616) (hn : nan x = false) (h : inf x = false) (n0 : -9223372036854775808 ≤ n) (n1 : n < 9223372036854775808) (w : World) :
    Calls Try.prog 21 #[.int .i64 n, .float .f64 x, .bool u] w fun e w' => e = .returned (prodR n x u) ∧ Kp w w' := by
  have b := num_bits x hx hn h
  have b1 : ((x : Int) / 4503599627370496 % 2048 == 2047) = false := by simpa using b
  have H := Lib.hid (prodR_num (n := n) (u := u) hn h)
  obtain ⟨i0, hi, hz0, hz1, hz2⟩ := info_parts info_u8
  have HI := Lib.hid hi
  have HI0 := Lib.hid hz0
  have HI1 := Lib.hid hz1
  have HI2 := Lib.hid hz2
  clear hi hz0 hz1 hz2
  clear b h hn
  by_cases g : (x : Int) / 4503599627370496 % 2048 = 0
  · have g1 : ((x : Int) / 4503599627370496 % 2048 == 0) = true := by simpa using g
    have M := Lib.hid (mant_low x g)
    clear g
    go_enter Try.func21, Try.ntmps21
    go_wp2_with fail
    generalize hng : (!(decide (n < 0) == ((x : Int) / 9223372036854775808 == 1))) = ng
    have HNG : Hid (ng = true ↔ ((n < 0 ∧ ¬ 9223372036854775808 ≤ x) ∨ (0 ≤ n ∧ 9223372036854775808 ≤ x))) := Lib.hid (by rw [← hng]; exact sign_iff n x hx)
    clear hng
    refine (rsize_any n n0 n1 _).mono ?_
    rintro e w1 ⟨rfl, rfl⟩
    go_wp2_with fail
    refine (digits_int _ (by omega) (by omega) _).mono ?_
    rintro e w2 ⟨va, xa, rfl, ba, pa, ka⟩
    have HA := Lib.hid ba
    have PA := Lib.hid pa
    have KA := Lib.hid ka
    clear ba pa ka
    go_wp2_with fail
    refine (digits_int _ (by omega) (by omega) _).mono ?_
    rintro e w3 ⟨vb, xb, rfl, bb, pb, kb⟩
    have HB := Lib.hid bb
    have PB := Lib.hid pb
    have KB := Lib.hid kb
    clear bb pb kb
    go_wp2_with fail
    refine (rproduct_any va vb xa xb _ (HA.out.kept KB.out) HB.out PA.out.2 PB.out.2).mono ?_
    rintro e w4 ⟨vd, xd, rfl, bd, pd, kd⟩
    have HD := Lib.hid bd
    have HP : Hid (bval xd = n.natAbs * mant (rung x) ∧ xd.length ≤ 129) := Lib.hid (by
      have a := PA.out
      have b := PB.out
      have m := M.out
      refine ⟨?_, by omega⟩
      rw [pd.1, a.1, b.1, Int.toNat_natCast]
      congr 1
      omega)
    have HK := Lib.hid (grown_trans KA.out (grown_trans KB.out kd))
    have HM := Lib.hid M.out.2
    clear bd pd kd PA PB KA KB HA HB M
    generalize hPd : n.natAbs * mant (rung x) = P at *
    have HPD := Lib.hid hPd.symm
    clear hPd
    go_wp2
    go_loopw [12, 13] (fun d i wr => ∃ (k : Nat) (ds : List Nat), i = .int .i64 (1075 + (k : Int)) ∧ Hid (Bits wr d ds ∧ bval ds = P * 2 ^ k ∧ ds.length ≤ 129 + k ∧ (k = 0 ∨ 1075 + (k : Int) ≤ 1) ∧ Kp w1 wr)) (fun _ i _ => (1 - intOf i).toNat)
    case atStart => exact ⟨0, xd, rfl, Lib.hid ⟨HD.out, by rw [HP.out.1, Nat.pow_zero, Nat.mul_one], HP.out.2, Or.inl rfl, HK.out⟩⟩
    case round =>
      obtain ⟨k, ds, rfl, HR⟩ := hrel
      obtain ⟨wi, rfl⟩ : ∃ wi : World, wi = wr := ⟨_, rfl⟩
      obtain ⟨⟨g, off, cap, hv, hc1, hc2, hcell⟩, hbin⟩ := HR.out.1
      rw [hv]
      have HC := Lib.hid hcell
      have HV := Lib.hid hv
      have HBI := Lib.hid hbin
      have hlen := HR.out.2.2.1
      have hk4 := HR.out.2.2.2.1
      clear hcell hv hbin HD HP HK
      by_cases hlt : 1075 + (k : Int) < 1
      · exfalso; omega
      · have HR4 : Hid (k = 0 ∨ 1075 + (k : Int) ≤ 1) := Lib.hid hk4
        have HLT : Hid (1 ≤ 1075 + (k : Int)) := Lib.hid (by omega)
        go_wp2
        go_loopw [12, 14, 15] (fun d l i wr => ∃ (m : Nat) (es : List Nat) (b : Bool), i = .int .i64 (1 + (m : Int)) ∧ l = .bool b ∧ Hid (Bits wr d es ∧ bval es = P * 2 ^ k / 2 ^ m ∧ b = decide (P * 2 ^ k % 2 ^ m ≠ 0) ∧ es.length ≤ 129 + k ∧ (m = 0 ∨ 1 + (m : Int) ≤ 1075) ∧ wr = wi)) (fun _ _ i _ => (1075 - intOf i).toNat)
        case atStart => exact ⟨0, ds, false, by first | rfl | simp, rfl, Lib.hid ⟨⟨⟨g, off, cap, rfl, hc1, hc2, HC.out⟩, HBI.out⟩, by rw [HR.out.2.1, Nat.pow_zero, Nat.div_one], by rw [Nat.pow_zero, Nat.mod_one]; rfl, hlen, Or.inl rfl, rfl⟩⟩
        case round =>
          obtain ⟨m, es, b, rfl, rfl, HQ⟩ := hrel
          obtain rfl : wr = wi := HQ.out.2.2.2.2.2
          obtain ⟨⟨g', off', cap', hv', hc1', hc2', hcell'⟩, hbin'⟩ := HQ.out.1
          rw [hv']
          have HC' := Lib.hid hcell'
          have HBI' := Lib.hid hbin'
          have HS := Lib.hid (cut_step (P * 2 ^ k) m)
          have HQ2 : Hid (bval es = P * 2 ^ k / 2 ^ m ∧ b = decide (P * 2 ^ k % 2 ^ m ≠ 0) ∧ es.length ≤ 129 + k ∧ (m = 0 ∨ 1 + (m : Int) ≤ 1075)) := Lib.hid ⟨HQ.out.2.1, HQ.out.2.2.1, HQ.out.2.2.2.1, HQ.out.2.2.2.2.1⟩
          have hm4 := HQ2.out.2.2.2
          have hle := HQ2.out.2.2.1
          clear hcell' hv' hbin' HQ
          by_cases hlt2 : 1 + (m : Int) < 1075
          · cases es with
            | nil =>
              go_wp2
              refine ⟨⟨m + 1, [], b, by go_num, rfl, Lib.hid ⟨⟨⟨g', off', cap', rfl, hc1', hc2', HC'.out⟩, HBI'.out⟩, ?_, ?_, by simp, Or.inr (by omega), by trivial⟩⟩, by simp [intOf]; omega⟩
              · have q := HQ2.out.1
                rw [HS.out.1, ← q]; rfl
              · have q := HQ2.out.1
                rw [HS.out.2, ← q, HQ2.out.2.1]; simp [bval]
            | cons y ts =>
              have c0 : wr.cell? ⟨g', off', none⟩ = some (.int .u8 (y : Int)) := HC'.out 0 (by simp)
              have hy2 : y < 2 := HBI'.out y (by simp)
              have HN : Hid (bval ts = P * 2 ^ k / 2 ^ (m + 1) ∧ (b || decide (y = 1)) = decide (P * 2 ^ k % 2 ^ (m + 1) ≠ 0)) := Lib.hid (by
                have q := HQ2.out.1
                have q2 := HQ2.out.2.1
                rw [bval] at q
                rw [HS.out.1, HS.out.2, ← q, ← q2]
                refine ⟨by omega, ?_⟩
                congr 1
                rw [Bool.eq_iff_iff, decide_eq_true_eq, decide_eq_true_eq]; omega)
              have hl1 : (y :: ts).length = ts.length + 1 := rfl
              rw [hl1] at hc1' hle ⊢
              have HT : Hid (∀ i, i < ts.length → wr.cell? ⟨g', off' + 1 + i, none⟩ = some (.int .u8 ((ts.getD i 0 : Nat) : Int))) := Lib.hid (by
                intro i hi
                have := HC'.out (i + 1) (by simpa using hi)
                rw [show off' + 1 + i = off' + (i + 1) by omega, this]; simp)
              have HBT := Lib.hid HBI'.out.tail
              clear hl1
              by_cases hcap : cap' = 1
              · subst hcap
                obtain rfl : ts = [] := by cases ts with | nil => rfl | cons a b => simp at hc1'
                rcases (show y = 0 ∨ y = 1 by omega) with rfl | rfl <;> cases b <;> go_wp2 <;>
                  exact ⟨⟨m + 1, [], _, by go_num, rfl, Lib.hid ⟨⟨⟨g', off', 0, rfl, by simp, by omega, fun i hi => by simp at hi⟩, HBT.out⟩, HN.out.1, HN.out.2, by simp, Or.inr (by omega), by trivial⟩⟩, by simp [intOf]; omega⟩
              · rcases (show y = 0 ∨ y = 1 by omega) with rfl | rfl <;> cases b <;> go_wp2 <;>
                  exact ⟨⟨m + 1, ts, _, by go_num, rfl, Lib.hid ⟨⟨⟨g', off' + 1, cap' - 1, rfl, by omega, by omega, HT.out⟩, HBT.out⟩, HN.out.1, HN.out.2, by omega, Or.inr (by omega), by trivial⟩⟩, by simp [intOf]; omega⟩
          · have HF : Hid (bval es = wholeOf P (1 - 1075) ∧ b = cutOf P (1 - 1075)) := Lib.hid (by
              have q := shifted P k m 1 HLT.out HR4.out (by omega) hm4
              exact ⟨HQ2.out.1.trans q.1, HQ2.out.2.1.trans q.2⟩)
            have hB : Bits wr (.slice (some ⟨g', off', none⟩) es.length cap') es := ⟨⟨g', off', cap', rfl, hc1', hc2', HC'.out⟩, HBI'.out⟩
            have HB := Lib.hid hB
            have HKW := Lib.hid HR.out.2.2.2.2
            have hkl : k ≤ 973 := by omega
            clear hB
            have hel : es.length ≤ 4000 := by omega
            have HEX : Hid (1 - 1075 = (up (rung x) : Int) - 1074) := Lib.hid (by have := HM.out; omega)
            cases b <;> cases ng <;> cases u
            · go_wp2_with fail
              refine (number_any _ es _ _ HB.out hel).mono ?_
              rintro e w6 ⟨rfl, hg6⟩
              have fv := final_val n x false false (by have := HNG.out; simpa using this) P HPD.out (1 - 1075) HEX.out (bval es) (by rw [HF.out.1, ← HF.out.2]; rfl)
              have HG := Lib.hid (grown_trans HKW.out hg6)
              rw [fv]
              clear fv hg6
              have HH : Hid (prodR n x false = fitV (if false = true then -prodF (-n) x else prodF n x)) := H
              rcases numV_shape (if false = true then -prodF (-n) x else prodF n x) with ⟨hv1, hv2⟩ | ⟨v, hv1, hv2⟩
              · rw [hv1]
                have HR := Lib.hid hv2
                clear hv1 hv2
                go_wp2_with fail
                go_ret2
                exact ⟨by rw [HH.out, HR.out]; rfl, HG.out⟩
              · rw [hv1]
                have HR := Lib.hid hv2
                clear hv1 hv2
                go_wp2_with fail
                go_ret2
                exact ⟨by rw [HH.out, HR.out]; rfl, HG.out⟩
            · go_wp2_with fail
              refine (number_any _ es _ _ HB.out hel).mono ?_
              rintro e w6 ⟨rfl, hg6⟩
              have fv := final_val n x true false (by have := HNG.out; simpa using this) P HPD.out (1 - 1075) HEX.out (bval es) (by rw [HF.out.1, ← HF.out.2]; rfl)
              have HG := Lib.hid (grown_trans HKW.out hg6)
              rw [fv]
              clear fv hg6
              have HH : Hid (prodR n x true = fitV (if true = true then -prodF (-n) x else prodF n x)) := H
              rcases numV_shape (if true = true then -prodF (-n) x else prodF n x) with ⟨hv1, hv2⟩ | ⟨v, hv1, hv2⟩
              · rw [hv1]
                have HR := Lib.hid hv2
                clear hv1 hv2
                go_wp2_with fail
                go_ret2
                exact ⟨by rw [HH.out, HR.out]; rfl, HG.out⟩
              · rw [hv1]
                have HR := Lib.hid hv2
                clear hv1 hv2
                go_wp2_with fail
                go_ret2
                exact ⟨by rw [HH.out, HR.out]; rfl, HG.out⟩
            · go_wp2_with fail
              refine (number_any _ es _ _ HB.out hel).mono ?_
              rintro e w6 ⟨rfl, hg6⟩
              have fv := final_val n x false true (by have := HNG.out; simpa using this) P HPD.out (1 - 1075) HEX.out (bval es) (by rw [HF.out.1, ← HF.out.2]; rfl)
              have HG := Lib.hid (grown_trans HKW.out hg6)
              rw [fv]
              clear fv hg6
              have HH : Hid (prodR n x false = fitV (if false = true then -prodF (-n) x else prodF n x)) := H
              rcases numV_shape (if false = true then -prodF (-n) x else prodF n x) with ⟨hv1, hv2⟩ | ⟨v, hv1, hv2⟩
              · rw [hv1]
                have HR := Lib.hid hv2
                clear hv1 hv2
                go_wp2_with fail
                go_ret2
                exact ⟨by rw [HH.out, HR.out]; rfl, HG.out⟩
              · rw [hv1]
                have HR := Lib.hid hv2
                clear hv1 hv2
                go_wp2_with fail
                go_ret2
                exact ⟨by rw [HH.out, HR.out]; rfl, HG.out⟩
            · go_wp2_with fail
              refine (number_any _ es _ _ HB.out hel).mono ?_
              rintro e w6 ⟨rfl, hg6⟩
              have fv := final_val n x true true (by have := HNG.out; simpa using this) P HPD.out (1 - 1075) HEX.out (bval es) (by rw [HF.out.1, ← HF.out.2]; rfl)
              have HG := Lib.hid (grown_trans HKW.out hg6)
              rw [fv]
              clear fv hg6
              have HH : Hid (prodR n x true = fitV (if true = true then -prodF (-n) x else prodF n x)) := H
              rcases numV_shape (if true = true then -prodF (-n) x else prodF n x) with ⟨hv1, hv2⟩ | ⟨v, hv1, hv2⟩
              · rw [hv1]
                have HR := Lib.hid hv2
                clear hv1 hv2
                go_wp2_with fail
                go_ret2
                exact ⟨by rw [HH.out, HR.out]; rfl, HG.out⟩
              · rw [hv1]
                have HR := Lib.hid hv2
                clear hv1 hv2
                go_wp2_with fail
                go_ret2
                exact ⟨by rw [HH.out, HR.out]; rfl, HG.out⟩
            · go_wp2_with fail
              refine (number_any _ es _ _ HB.out hel).mono ?_
              rintro e w6 ⟨rfl, hg6⟩
              have fv := final_val n x false false (by have := HNG.out; simpa using this) P HPD.out (1 - 1075) HEX.out (bval es) (by rw [HF.out.1, ← HF.out.2]; rfl)
              have HG := Lib.hid (grown_trans HKW.out hg6)
              rw [fv]
              clear fv hg6
              have HH : Hid (prodR n x false = fitV (if false = true then -prodF (-n) x else prodF n x)) := H
              rcases numV_shape (if false = true then -prodF (-n) x else prodF n x) with ⟨hv1, hv2⟩ | ⟨v, hv1, hv2⟩
              · rw [hv1]
                have HR := Lib.hid hv2
                clear hv1 hv2
                go_wp2_with fail
                go_ret2
                exact ⟨by rw [HH.out, HR.out]; rfl, HG.out⟩
              · rw [hv1]
                have HR := Lib.hid hv2
                clear hv1 hv2
                go_wp2_with fail
                go_ret2
                exact ⟨by rw [HH.out, HR.out]; rfl, HG.out⟩
            · go_wp2_with fail
              refine (more_any _ es _ HB.out hel).mono ?_
              rintro e w5 ⟨vm, xm, rfl, bm, pm, km⟩
              have HBM := Lib.hid bm
              have HPM := Lib.hid pm
              have HKM := Lib.hid km
              clear bm pm km
              go_wp2_with fail
              refine (number_any _ xm _ _ HBM.out (by have := HPM.out.2; omega)).mono ?_
              rintro e w6 ⟨rfl, hg6⟩
              have fv := final_val n x true false (by have := HNG.out; simpa using this) P HPD.out (1 - 1075) HEX.out (bval xm) (by rw [HPM.out.1, HF.out.1, ← HF.out.2]; rfl)
              have HG := Lib.hid (grown_trans HKW.out (grown_trans HKM.out hg6))
              rw [fv]
              clear fv hg6
              have HH : Hid (prodR n x true = fitV (if true = true then -prodF (-n) x else prodF n x)) := H
              rcases numV_shape (if true = true then -prodF (-n) x else prodF n x) with ⟨hv1, hv2⟩ | ⟨v, hv1, hv2⟩
              · rw [hv1]
                have HR := Lib.hid hv2
                clear hv1 hv2
                go_wp2_with fail
                go_ret2
                exact ⟨by rw [HH.out, HR.out]; rfl, HG.out⟩
              · rw [hv1]
                have HR := Lib.hid hv2
                clear hv1 hv2
                go_wp2_with fail
                go_ret2
                exact ⟨by rw [HH.out, HR.out]; rfl, HG.out⟩
            · go_wp2_with fail
              refine (more_any _ es _ HB.out hel).mono ?_
              rintro e w5 ⟨vm, xm, rfl, bm, pm, km⟩
              have HBM := Lib.hid bm
              have HPM := Lib.hid pm
              have HKM := Lib.hid km
              clear bm pm km
              go_wp2_with fail
              refine (number_any _ xm _ _ HBM.out (by have := HPM.out.2; omega)).mono ?_
              rintro e w6 ⟨rfl, hg6⟩
              have fv := final_val n x false true (by have := HNG.out; simpa using this) P HPD.out (1 - 1075) HEX.out (bval xm) (by rw [HPM.out.1, HF.out.1, ← HF.out.2]; rfl)
              have HG := Lib.hid (grown_trans HKW.out (grown_trans HKM.out hg6))
              rw [fv]
              clear fv hg6
              have HH : Hid (prodR n x false = fitV (if false = true then -prodF (-n) x else prodF n x)) := H
              rcases numV_shape (if false = true then -prodF (-n) x else prodF n x) with ⟨hv1, hv2⟩ | ⟨v, hv1, hv2⟩
              · rw [hv1]
                have HR := Lib.hid hv2
                clear hv1 hv2
                go_wp2_with fail
                go_ret2
                exact ⟨by rw [HH.out, HR.out]; rfl, HG.out⟩
              · rw [hv1]
                have HR := Lib.hid hv2
                clear hv1 hv2
                go_wp2_with fail
                go_ret2
                exact ⟨by rw [HH.out, HR.out]; rfl, HG.out⟩
            · go_wp2_with fail
              refine (number_any _ es _ _ HB.out hel).mono ?_
              rintro e w6 ⟨rfl, hg6⟩
              have fv := final_val n x true true (by have := HNG.out; simpa using this) P HPD.out (1 - 1075) HEX.out (bval es) (by rw [HF.out.1, ← HF.out.2]; rfl)
              have HG := Lib.hid (grown_trans HKW.out hg6)
              rw [fv]
              clear fv hg6
              have HH : Hid (prodR n x true = fitV (if true = true then -prodF (-n) x else prodF n x)) := H
              rcases numV_shape (if true = true then -prodF (-n) x else prodF n x) with ⟨hv1, hv2⟩ | ⟨v, hv1, hv2⟩
              · rw [hv1]
                have HR := Lib.hid hv2
                clear hv1 hv2
                go_wp2_with fail
                go_ret2
                exact ⟨by rw [HH.out, HR.out]; rfl, HG.out⟩
              · rw [hv1]
                have HR := Lib.hid hv2
                clear hv1 hv2
                go_wp2_with fail
                go_ret2
                exact ⟨by rw [HH.out, HR.out]; rfl, HG.out⟩
  · have g1 : ((x : Int) / 4503599627370496 % 2048 == 0) = false := by simpa using g
    have M := Lib.hid (mant_high x g)
    clear g
    go_enter Try.func21, Try.ntmps21
    go_wp2_with fail
    generalize hng : (!(decide (n < 0) == ((x : Int) / 9223372036854775808 == 1))) = ng
    have HNG : Hid (ng = true ↔ ((n < 0 ∧ ¬ 9223372036854775808 ≤ x) ∨ (0 ≤ n ∧ 9223372036854775808 ≤ x))) := Lib.hid (by rw [← hng]; exact sign_iff n x hx)
    clear hng
    have hE0 : 0 ≤ (x : Int) / 4503599627370496 % 2048 := by omega
    have hE1 : (x : Int) / 4503599627370496 % 2048 < 2048 := by omega
    have hF0 : 0 ≤ (x : Int) % 4503599627370496 := by omega
    have hF1 : (x : Int) % 4503599627370496 < 4503599627370496 := by omega
    have M : Hid (((mant (rung x) : Nat) : Int) = (x : Int) % 4503599627370496 + 4503599627370496 ∧ (up (rung x) : Int) = (x : Int) / 4503599627370496 % 2048 - 1) := Lib.hid ⟨by have := M.out.1; omega, M.out.2⟩
    generalize (x : Int) / 4503599627370496 % 2048 = E at *
    generalize (x : Int) % 4503599627370496 = Fr at *
    refine (rsize_any n n0 n1 _).mono ?_
    rintro e w1 ⟨rfl, rfl⟩
    go_wp2_with fail
    refine (digits_int _ (by omega) (by omega) _).mono ?_
    rintro e w2 ⟨va, xa, rfl, ba, pa, ka⟩
    have HA := Lib.hid ba
    have PA := Lib.hid pa
    have KA := Lib.hid ka
    clear ba pa ka
    go_wp2_with fail
    refine (digits_int _ (by omega) (by omega) _).mono ?_
    rintro e w3 ⟨vb, xb, rfl, bb, pb, kb⟩
    have HB := Lib.hid bb
    have PB := Lib.hid pb
    have KB := Lib.hid kb
    clear bb pb kb
    go_wp2_with fail
    refine (rproduct_any va vb xa xb _ (HA.out.kept KB.out) HB.out PA.out.2 PB.out.2).mono ?_
    rintro e w4 ⟨vd, xd, rfl, bd, pd, kd⟩
    have HD := Lib.hid bd
    have HP : Hid (bval xd = n.natAbs * mant (rung x) ∧ xd.length ≤ 129) := Lib.hid (by
      have a := PA.out
      have b := PB.out
      have m := M.out
      refine ⟨?_, by omega⟩
      rw [pd.1, a.1, b.1, Int.toNat_natCast]
      congr 1
      omega)
    have HK := Lib.hid (grown_trans KA.out (grown_trans KB.out kd))
    have HM := Lib.hid M.out.2
    clear bd pd kd PA PB KA KB HA HB M
    generalize hPd : n.natAbs * mant (rung x) = P at *
    have HPD := Lib.hid hPd.symm
    clear hPd
    go_wp2
    go_loopw [12, 13] (fun d i wr => ∃ (k : Nat) (ds : List Nat), i = .int .i64 (1075 + (k : Int)) ∧ Hid (Bits wr d ds ∧ bval ds = P * 2 ^ k ∧ ds.length ≤ 129 + k ∧ (k = 0 ∨ 1075 + (k : Int) ≤ E) ∧ Kp w1 wr)) (fun _ i _ => (E - intOf i).toNat)
    case atStart => exact ⟨0, xd, rfl, Lib.hid ⟨HD.out, by rw [HP.out.1, Nat.pow_zero, Nat.mul_one], HP.out.2, Or.inl rfl, HK.out⟩⟩
    case round =>
      obtain ⟨k, ds, rfl, HR⟩ := hrel
      obtain ⟨wi, rfl⟩ : ∃ wi : World, wi = wr := ⟨_, rfl⟩
      obtain ⟨⟨g, off, cap, hv, hc1, hc2, hcell⟩, hbin⟩ := HR.out.1
      rw [hv]
      have HC := Lib.hid hcell
      have HV := Lib.hid hv
      have HBI := Lib.hid hbin
      have hlen := HR.out.2.2.1
      have hk4 := HR.out.2.2.2.1
      clear hcell hv hbin HD HP HK
      by_cases hlt : 1075 + (k : Int) < E
      · go_wp2_with (at_builtin; refine wpList_append_own _ rfl _ _ 86 rfl wi.heap.size 5 i0 (.int .u8 0) 1 1 Try.underlying86 HI.out HI0.out HI1.out HI2.out rfl (by decide) _ 1 (dv [0]) rfl (own_one8 wi) ⟨g, off, none⟩ ds.length cap (dv ds) rfl ?c1 ?c2 ?c3 ?c4 ?c5 ?c6 ?_)
        case c1 => rw [dv_len, Nat.mul_one]
        case c2 =>
          intro j u hu
          have hj : j < ds.length := by
            have := (List.getElem?_eq_some_iff.1 hu).1; rw [dv_len] at this; exact this
          rw [dv_get _ _ hj] at hu
          injection hu with hu
          have c := HC.out j hj
          rw [show (⟨g, off, none⟩ : Addr).add j = ⟨g, off + j, none⟩ by simp [Addr.add]]
          rw [World.cell?_alloc_lt _ _ _ (World.block_lt_of_cell? wi ⟨g, off + j, none⟩ c), c, hu]
        case c3 =>
          intro u hu
          unfold dv at hu
          obtain ⟨z, _, rfl⟩ := List.mem_map.1 hu
          rfl
        case c4 => unfold maxLen; omega
        case c5 => omega
        case c6 => simp
        intro v2 w5 hown hg hnil
        have hn2 : v2 ≠ .slice none 0 0 := fun h => by have := hnil h; simp at this
        obtain ⟨g2, cap2, hv2, hb0, hd1, hd2⟩ : ∃ g cap, v2 = .slice (some ⟨g, 0, none⟩) (1 + ds.length) cap ∧ wi.heap.size ≤ g ∧ 1 + ds.length ≤ cap ∧ cap ≤ maxLen := by
          rcases hown.2 with ⟨h, _⟩ | ⟨g, c, cur, h, hb, _, k1, k2, _⟩
          · exact absurd h hn2
          · exact ⟨g, c, h, hb, k1, k2⟩
        have hk5 : Kp w1 w5 := by
          have kk := HR.out.2.2.2.2
          refine (kk.alloc kk.size _).grown hg (by have := kk.size; simp; omega) (by
            intro q hq
            have : some wi.heap.size = some q := hq
            injection this with this
            have := kk.size
            omega)
        rw [hv2] at hown ⊢
        have HO : Hid (w5.ownsRow wi.heap.size 5 1 (.slice (some ⟨g2, 0, none⟩) (1 + ds.length) cap2) (1 + ds.length) (dv (0 :: ds))) := Lib.hid hown
        have HK5 := Lib.hid hk5
        clear hn2 hv2 hnil hg hown hk5
        go_wp2
        refine ⟨⟨k + 1, 0 :: ds, by go_num, Lib.hid ⟨bits_of_own HO.out (by simp; omega) (HBI.out.cons (by omega)) hd1 hd2, ?_, by simp; omega, Or.inr (by omega), HK5.out⟩⟩, by simp [intOf]; omega⟩
        rw [bval, HR.out.2.1, Nat.pow_succ, Nat.zero_add, Nat.mul_comm 2, Nat.mul_assoc]
      · have HR4 : Hid (k = 0 ∨ 1075 + (k : Int) ≤ E) := Lib.hid hk4
        have HLT : Hid (E ≤ 1075 + (k : Int)) := Lib.hid (by omega)
        go_wp2
        go_loopw [12, 14, 15] (fun d l i wr => ∃ (m : Nat) (es : List Nat) (b : Bool), i = .int .i64 (E + (m : Int)) ∧ l = .bool b ∧ Hid (Bits wr d es ∧ bval es = P * 2 ^ k / 2 ^ m ∧ b = decide (P * 2 ^ k % 2 ^ m ≠ 0) ∧ es.length ≤ 129 + k ∧ (m = 0 ∨ E + (m : Int) ≤ 1075) ∧ wr = wi)) (fun _ _ i _ => (1075 - intOf i).toNat)
        case atStart => exact ⟨0, ds, false, by first | rfl | simp, rfl, Lib.hid ⟨⟨⟨g, off, cap, rfl, hc1, hc2, HC.out⟩, HBI.out⟩, by rw [HR.out.2.1, Nat.pow_zero, Nat.div_one], by rw [Nat.pow_zero, Nat.mod_one]; rfl, hlen, Or.inl rfl, rfl⟩⟩
        case round =>
          obtain ⟨m, es, b, rfl, rfl, HQ⟩ := hrel
          obtain rfl : wr = wi := HQ.out.2.2.2.2.2
          obtain ⟨⟨g', off', cap', hv', hc1', hc2', hcell'⟩, hbin'⟩ := HQ.out.1
          rw [hv']
          have HC' := Lib.hid hcell'
          have HBI' := Lib.hid hbin'
          have HS := Lib.hid (cut_step (P * 2 ^ k) m)
          have HQ2 : Hid (bval es = P * 2 ^ k / 2 ^ m ∧ b = decide (P * 2 ^ k % 2 ^ m ≠ 0) ∧ es.length ≤ 129 + k ∧ (m = 0 ∨ E + (m : Int) ≤ 1075)) := Lib.hid ⟨HQ.out.2.1, HQ.out.2.2.1, HQ.out.2.2.2.1, HQ.out.2.2.2.2.1⟩
          have hm4 := HQ2.out.2.2.2
          have hle := HQ2.out.2.2.1
          clear hcell' hv' hbin' HQ
          by_cases hlt2 : E + (m : Int) < 1075
          · cases es with
            | nil =>
              go_wp2
              refine ⟨⟨m + 1, [], b, by go_num, rfl, Lib.hid ⟨⟨⟨g', off', cap', rfl, hc1', hc2', HC'.out⟩, HBI'.out⟩, ?_, ?_, by simp, Or.inr (by omega), by trivial⟩⟩, by simp [intOf]; omega⟩
              · have q := HQ2.out.1
                rw [HS.out.1, ← q]; rfl
              · have q := HQ2.out.1
                rw [HS.out.2, ← q, HQ2.out.2.1]; simp [bval]
            | cons y ts =>
              have c0 : wr.cell? ⟨g', off', none⟩ = some (.int .u8 (y : Int)) := HC'.out 0 (by simp)
              have hy2 : y < 2 := HBI'.out y (by simp)
              have HN : Hid (bval ts = P * 2 ^ k / 2 ^ (m + 1) ∧ (b || decide (y = 1)) = decide (P * 2 ^ k % 2 ^ (m + 1) ≠ 0)) := Lib.hid (by
                have q := HQ2.out.1
                have q2 := HQ2.out.2.1
                rw [bval] at q
                rw [HS.out.1, HS.out.2, ← q, ← q2]
                refine ⟨by omega, ?_⟩
                congr 1
                rw [Bool.eq_iff_iff, decide_eq_true_eq, decide_eq_true_eq]; omega)
              have hl1 : (y :: ts).length = ts.length + 1 := rfl
              rw [hl1] at hc1' hle ⊢
              have HT : Hid (∀ i, i < ts.length → wr.cell? ⟨g', off' + 1 + i, none⟩ = some (.int .u8 ((ts.getD i 0 : Nat) : Int))) := Lib.hid (by
                intro i hi
                have := HC'.out (i + 1) (by simpa using hi)
                rw [show off' + 1 + i = off' + (i + 1) by omega, this]; simp)
              have HBT := Lib.hid HBI'.out.tail
              clear hl1
              by_cases hcap : cap' = 1
              · subst hcap
                obtain rfl : ts = [] := by cases ts with | nil => rfl | cons a b => simp at hc1'
                rcases (show y = 0 ∨ y = 1 by omega) with rfl | rfl <;> cases b <;> go_wp2 <;>
                  exact ⟨⟨m + 1, [], _, by go_num, rfl, Lib.hid ⟨⟨⟨g', off', 0, rfl, by simp, by omega, fun i hi => by simp at hi⟩, HBT.out⟩, HN.out.1, HN.out.2, by simp, Or.inr (by omega), by trivial⟩⟩, by simp [intOf]; omega⟩
              · rcases (show y = 0 ∨ y = 1 by omega) with rfl | rfl <;> cases b <;> go_wp2 <;>
                  exact ⟨⟨m + 1, ts, _, by go_num, rfl, Lib.hid ⟨⟨⟨g', off' + 1, cap' - 1, rfl, by omega, by omega, HT.out⟩, HBT.out⟩, HN.out.1, HN.out.2, by omega, Or.inr (by omega), by trivial⟩⟩, by simp [intOf]; omega⟩
          · have HF : Hid (bval es = wholeOf P (E - 1075) ∧ b = cutOf P (E - 1075)) := Lib.hid (by
              have q := shifted P k m E HLT.out HR4.out (by omega) hm4
              exact ⟨HQ2.out.1.trans q.1, HQ2.out.2.1.trans q.2⟩)
            have hB : Bits wr (.slice (some ⟨g', off', none⟩) es.length cap') es := ⟨⟨g', off', cap', rfl, hc1', hc2', HC'.out⟩, HBI'.out⟩
            have HB := Lib.hid hB
            have HKW := Lib.hid HR.out.2.2.2.2
            have hkl : k ≤ 973 := by omega
            clear hB
            have hel : es.length ≤ 4000 := by omega
            have HEX : Hid (E - 1075 = (up (rung x) : Int) - 1074) := Lib.hid (by have := HM.out; omega)
            cases b <;> cases ng <;> cases u
            · go_wp2_with fail
              refine (number_any _ es _ _ HB.out hel).mono ?_
              rintro e w6 ⟨rfl, hg6⟩
              have fv := final_val n x false false (by have := HNG.out; simpa using this) P HPD.out (E - 1075) HEX.out (bval es) (by rw [HF.out.1, ← HF.out.2]; rfl)
              have HG := Lib.hid (grown_trans HKW.out hg6)
              rw [fv]
              clear fv hg6
              have HH : Hid (prodR n x false = fitV (if false = true then -prodF (-n) x else prodF n x)) := H
              rcases numV_shape (if false = true then -prodF (-n) x else prodF n x) with ⟨hv1, hv2⟩ | ⟨v, hv1, hv2⟩
              · rw [hv1]
                have HR := Lib.hid hv2
                clear hv1 hv2
                go_wp2_with fail
                go_ret2
                exact ⟨by rw [HH.out, HR.out]; rfl, HG.out⟩
              · rw [hv1]
                have HR := Lib.hid hv2
                clear hv1 hv2
                go_wp2_with fail
                go_ret2
                exact ⟨by rw [HH.out, HR.out]; rfl, HG.out⟩
            · go_wp2_with fail
              refine (number_any _ es _ _ HB.out hel).mono ?_
              rintro e w6 ⟨rfl, hg6⟩
              have fv := final_val n x true false (by have := HNG.out; simpa using this) P HPD.out (E - 1075) HEX.out (bval es) (by rw [HF.out.1, ← HF.out.2]; rfl)
              have HG := Lib.hid (grown_trans HKW.out hg6)
              rw [fv]
              clear fv hg6
              have HH : Hid (prodR n x true = fitV (if true = true then -prodF (-n) x else prodF n x)) := H
              rcases numV_shape (if true = true then -prodF (-n) x else prodF n x) with ⟨hv1, hv2⟩ | ⟨v, hv1, hv2⟩
              · rw [hv1]
                have HR := Lib.hid hv2
                clear hv1 hv2
                go_wp2_with fail
                go_ret2
                exact ⟨by rw [HH.out, HR.out]; rfl, HG.out⟩
              · rw [hv1]
                have HR := Lib.hid hv2
                clear hv1 hv2
                go_wp2_with fail
                go_ret2
                exact ⟨by rw [HH.out, HR.out]; rfl, HG.out⟩
            · go_wp2_with fail
              refine (number_any _ es _ _ HB.out hel).mono ?_
              rintro e w6 ⟨rfl, hg6⟩
              have fv := final_val n x false true (by have := HNG.out; simpa using this) P HPD.out (E - 1075) HEX.out (bval es) (by rw [HF.out.1, ← HF.out.2]; rfl)
              have HG := Lib.hid (grown_trans HKW.out hg6)
              rw [fv]
              clear fv hg6
              have HH : Hid (prodR n x false = fitV (if false = true then -prodF (-n) x else prodF n x)) := H
              rcases numV_shape (if false = true then -prodF (-n) x else prodF n x) with ⟨hv1, hv2⟩ | ⟨v, hv1, hv2⟩
              · rw [hv1]
                have HR := Lib.hid hv2
                clear hv1 hv2
                go_wp2_with fail
                go_ret2
                exact ⟨by rw [HH.out, HR.out]; rfl, HG.out⟩
              · rw [hv1]
                have HR := Lib.hid hv2
                clear hv1 hv2
                go_wp2_with fail
                go_ret2
                exact ⟨by rw [HH.out, HR.out]; rfl, HG.out⟩
            · go_wp2_with fail
              refine (number_any _ es _ _ HB.out hel).mono ?_
              rintro e w6 ⟨rfl, hg6⟩
              have fv := final_val n x true true (by have := HNG.out; simpa using this) P HPD.out (E - 1075) HEX.out (bval es) (by rw [HF.out.1, ← HF.out.2]; rfl)
              have HG := Lib.hid (grown_trans HKW.out hg6)
              rw [fv]
              clear fv hg6
              have HH : Hid (prodR n x true = fitV (if true = true then -prodF (-n) x else prodF n x)) := H
              rcases numV_shape (if true = true then -prodF (-n) x else prodF n x) with ⟨hv1, hv2⟩ | ⟨v, hv1, hv2⟩
              · rw [hv1]
                have HR := Lib.hid hv2
                clear hv1 hv2
                go_wp2_with fail
                go_ret2
                exact ⟨by rw [HH.out, HR.out]; rfl, HG.out⟩
              · rw [hv1]
                have HR := Lib.hid hv2
                clear hv1 hv2
                go_wp2_with fail
                go_ret2
                exact ⟨by rw [HH.out, HR.out]; rfl, HG.out⟩
            · go_wp2_with fail
              refine (number_any _ es _ _ HB.out hel).mono ?_
              rintro e w6 ⟨rfl, hg6⟩
              have fv := final_val n x false false (by have := HNG.out; simpa using this) P HPD.out (E - 1075) HEX.out (bval es) (by rw [HF.out.1, ← HF.out.2]; rfl)
              have HG := Lib.hid (grown_trans HKW.out hg6)
              rw [fv]
              clear fv hg6
              have HH : Hid (prodR n x false = fitV (if false = true then -prodF (-n) x else prodF n x)) := H
              rcases numV_shape (if false = true then -prodF (-n) x else prodF n x) with ⟨hv1, hv2⟩ | ⟨v, hv1, hv2⟩
              · rw [hv1]
                have HR := Lib.hid hv2
                clear hv1 hv2
                go_wp2_with fail
                go_ret2
                exact ⟨by rw [HH.out, HR.out]; rfl, HG.out⟩
              · rw [hv1]
                have HR := Lib.hid hv2
                clear hv1 hv2
                go_wp2_with fail
                go_ret2
                exact ⟨by rw [HH.out, HR.out]; rfl, HG.out⟩
            · go_wp2_with fail
              refine (more_any _ es _ HB.out hel).mono ?_
              rintro e w5 ⟨vm, xm, rfl, bm, pm, km⟩
              have HBM := Lib.hid bm
              have HPM := Lib.hid pm
              have HKM := Lib.hid km
              clear bm pm km
              go_wp2_with fail
              refine (number_any _ xm _ _ HBM.out (by have := HPM.out.2; omega)).mono ?_
              rintro e w6 ⟨rfl, hg6⟩
              have fv := final_val n x true false (by have := HNG.out; simpa using this) P HPD.out (E - 1075) HEX.out (bval xm) (by rw [HPM.out.1, HF.out.1, ← HF.out.2]; rfl)
              have HG := Lib.hid (grown_trans HKW.out (grown_trans HKM.out hg6))
              rw [fv]
              clear fv hg6
              have HH : Hid (prodR n x true = fitV (if true = true then -prodF (-n) x else prodF n x)) := H
              rcases numV_shape (if true = true then -prodF (-n) x else prodF n x) with ⟨hv1, hv2⟩ | ⟨v, hv1, hv2⟩
              · rw [hv1]
                have HR := Lib.hid hv2
                clear hv1 hv2
                go_wp2_with fail
                go_ret2
                exact ⟨by rw [HH.out, HR.out]; rfl, HG.out⟩
              · rw [hv1]
                have HR := Lib.hid hv2
                clear hv1 hv2
                go_wp2_with fail
                go_ret2
                exact ⟨by rw [HH.out, HR.out]; rfl, HG.out⟩
            · go_wp2_with fail
              refine (more_any _ es _ HB.out hel).mono ?_
              rintro e w5 ⟨vm, xm, rfl, bm, pm, km⟩
              have HBM := Lib.hid bm
              have HPM := Lib.hid pm
              have HKM := Lib.hid km
              clear bm pm km
              go_wp2_with fail
              refine (number_any _ xm _ _ HBM.out (by have := HPM.out.2; omega)).mono ?_
              rintro e w6 ⟨rfl, hg6⟩
              have fv := final_val n x false true (by have := HNG.out; simpa using this) P HPD.out (E - 1075) HEX.out (bval xm) (by rw [HPM.out.1, HF.out.1, ← HF.out.2]; rfl)
              have HG := Lib.hid (grown_trans HKW.out (grown_trans HKM.out hg6))
              rw [fv]
              clear fv hg6
              have HH : Hid (prodR n x false = fitV (if false = true then -prodF (-n) x else prodF n x)) := H
              rcases numV_shape (if false = true then -prodF (-n) x else prodF n x) with ⟨hv1, hv2⟩ | ⟨v, hv1, hv2⟩
              · rw [hv1]
                have HR := Lib.hid hv2
                clear hv1 hv2
                go_wp2_with fail
                go_ret2
                exact ⟨by rw [HH.out, HR.out]; rfl, HG.out⟩
              · rw [hv1]
                have HR := Lib.hid hv2
                clear hv1 hv2
                go_wp2_with fail
                go_ret2
                exact ⟨by rw [HH.out, HR.out]; rfl, HG.out⟩
            · go_wp2_with fail
              refine (number_any _ es _ _ HB.out hel).mono ?_
              rintro e w6 ⟨rfl, hg6⟩
              have fv := final_val n x true true (by have := HNG.out; simpa using this) P HPD.out (E - 1075) HEX.out (bval es) (by rw [HF.out.1, ← HF.out.2]; rfl)
              have HG := Lib.hid (grown_trans HKW.out hg6)
              rw [fv]
              clear fv hg6
              have HH : Hid (prodR n x true = fitV (if true = true then -prodF (-n) x else prodF n x)) := H
              rcases numV_shape (if true = true then -prodF (-n) x else prodF n x) with ⟨hv1, hv2⟩ | ⟨v, hv1, hv2⟩
              · rw [hv1]
                have HR := Lib.hid hv2
                clear hv1 hv2
                go_wp2_with fail
                go_ret2
                exact ⟨by rw [HH.out, HR.out]; rfl, HG.out⟩
              · rw [hv1]
                have HR := Lib.hid hv2
                clear hv1 hv2
                go_wp2_with fail
                go_ret2
                exact ⟨by rw [HH.out, HR.out]; rfl, HG.out⟩

theorem rprod_any (n : Int) (x : Nat) (u : Bool) (hx : x < 18446744073709551616) (n0 : -9223372036854775808 ≤ n) (n1 : n < 9223372036854775808) (w : World) :
    Calls Try.prog 21 #[.int .i64 n, .float .f64 x, .bool u] w fun e w' => e = .returned (prodR n x u) ∧ Kp w w' := by
  cases hn : nan x
  · cases hi : inf x
    · exact rprod_num n x u hx hn hi n0 n1 w
    · exact rprod_inf n x u hx hn hi w
  · exact rprod_nan n x u hx hn w
theorem prodR_times (n : Int) (x : Nat) : prodR n x false = timesR n x := rfl
end Go.Proofs.Ytpnojhcjaneleaa
