/- Contracts of the program's calls at layer 4: Check, Add, Sub, Total, Split, Rate, Fee. (Written for a trial of my own; to be made anew for the code that lands: the statements stay.) -/
import Derived.Test.YtggmbkmkjkllkaaAmtE
namespace Go.Proofs.Ytggmbkmkjkllkaa
open Go.RowKit Go.Am Go.Fl
set_option linter.unusedVariables false
set_option linter.unusedSimpArgs false

def chkE (n : Int) : Int := if isA n then 0 else 40
def rateE (x : Nat) : Int := if rated x then 0 else 43

theorem check_same (n : Int) (w : World) : Calls Try.prog 16 #[.int .i64 n] w fun e w' => e = .returned (.int .i64 (chkE n)) ∧ w' = w := by
  by_cases h : 0 ≤ n ∧ n ≤ 1000000000000000
  · have H : Hid (chkE n = 0) := Lib.hid (by unfold chkE; rw [(isA_iff n).2 h]; rfl)
    obtain ⟨h0, h1⟩ := h
    go_enter Try.func16, Try.ntmps16
    go_wp2_with fail
    go_ret
    exact ⟨by rw [H.out]; rfl, rfl⟩
  · have hf : isA n = false := by unfold isA; rw [decide_eq_false_iff_not]; exact h
    have H : Hid (chkE n = 40) := Lib.hid (by unfold chkE; rw [hf]; rfl)
    by_cases h0 : n < 0
    · clear h hf
      go_enter Try.func16, Try.ntmps16
      go_wp2_with fail
      go_ret
      exact ⟨by rw [H.out]; rfl, rfl⟩
    · have h1 : 1000000000000000 < n := by omega
      clear h hf
      go_enter Try.func16, Try.ntmps16
      go_wp2_with fail
      go_ret
      exact ⟨by rw [H.out]; rfl, rfl⟩

theorem check_any (n : Int) (w : World) : Calls Try.prog 16 #[.int .i64 n] w fun e w' => e = .returned (.int .i64 (chkE n)) ∧ Below w.heap.size w w' := by
  refine (check_same n w).mono ?_
  rintro e w1 ⟨rfl, rfl⟩
  exact ⟨rfl, Below.refl _ _⟩

theorem chk_cases (n : Int) : (isA n = true ∧ chkE n = 0 ∧ 0 ≤ n ∧ n ≤ 1000000000000000) ∨ (isA n = false ∧ chkE n = 40 ∧ ¬ (0 ≤ n ∧ n ≤ 1000000000000000)) := by
  unfold chkE
  cases h : isA n with
  | true => exact .inl ⟨rfl, rfl, (isA_iff n).1 h⟩
  | false =>
    refine .inr ⟨rfl, rfl, fun g => ?_⟩
    rw [(isA_iff n).2 g] at h
    cases h
theorem fit_two (a b : Int) : Fit [a, b] ↔ (0 ≤ a ∧ 0 ≤ b ∧ a + b ≤ 1000000000000000) := by
  unfold Fit
  simp [sum]
  constructor
  · rintro ⟨⟨h1, h2⟩, h3⟩; exact ⟨h1, h2, by omega⟩
  · rintro ⟨h1, h2, h3⟩; exact ⟨⟨h1, h2⟩, by omega⟩

theorem total_any (B : Nat) (A : Option Addr) (cap : Nat) (l : List Int) (w : World) (hs : Sees w B 1 A l.length (vals l)) (hB : B ≤ w.heap.size) (hl : l.length ≤ 1000000) (hr : ∀ n ∈ l, -9223372036854775808 ≤ n ∧ n < 9223372036854775808) :
    Calls Try.prog 18 #[.slice A l.length cap] w fun e w' => e = .returned (.tuple #[.int .i64 (totV l), .int .i64 (totE l)]) ∧ Below w.heap.size w w' := by
  have HS := Lib.hid hs
  clear hs hr
  go_enter Try.func18, Try.ntmps18
  go_wp2_with fail
  go_loop [4, 9] (fun v i => ∃ k : Nat, k ≤ l.length ∧ i = .int .i64 (k : Int) ∧ v = .int .i64 (sum (l.take k)) ∧ Fit (l.take k)) (fun _ i => l.length - (intOf i).toNat)
  case atStart => exact ⟨0, by omega, rfl, by simp [sum], Fit.nil⟩
  case round =>
    obtain ⟨k, hk, rfl, rfl, hfit⟩ := hrel
    have hpos := hfit.sum_pos
    have hle := hfit.2
    have HF := Lib.hid hfit
    clear hfit
    by_cases hlt : k < l.length
    · obtain ⟨n, hn⟩ : ∃ n, l[k]? = some n := ⟨_, List.getElem?_eq_getElem hlt⟩
      obtain ⟨b0, off, rfl, hb, hcell⟩ := HS.out.2 (by omega)
      have g0 := hcell k _ (vals_at l k n hn)
      have HI := Lib.hid (fun w0 => check_same n w0)
      have HSN := Lib.hid (sum_snoc l k n hn)
      have hkl : (k : Int) < (l.length : Int) := by omega
      have HJ := Lib.hid (fun w0 => check_same (sum (l.take k) + n) w0)
      by_cases hgood : 0 ≤ n ∧ sum (l.take k) + n ≤ 1000000000000000
      · obtain ⟨hn0, hn1⟩ := hgood
        have HM := Lib.hid (HF.out.more hn hn0 hn1)
        have e1 : chkE n = 0 := by unfold chkE; rw [(isA_iff n).2 ⟨hn0, by omega⟩]; rfl
        have e2 : chkE (sum (l.take k) + n) = 0 := by unfold chkE; rw [(isA_iff _).2 ⟨by omega, by omega⟩]; rfl
        rw [e1] at HI
        rw [e2] at HJ
        generalize sum (l.take k) = S at *
        clear hcell hn e1 e2
        go_wp2_with fail
        refine (HI.out _).mono ?_
        rintro e w1 ⟨rfl, rfl⟩
        go_wp2_with fail
        refine (HJ.out _).mono ?_
        rintro e w1 ⟨rfl, rfl⟩
        go_wp2_with fail
        go_round
        case rel => exact ⟨k + 1, by omega, by go_num, by rw [HSN.out], HM.out⟩
        case measure => simp [intOf]; omega
      · have HX := Lib.hid (Fit.stop hn hgood)
        have HV : Hid (totV l = 0) := Lib.hid (by unfold totV; rw [if_neg HX.out])
        have HO : Hid (totE l = 40) := Lib.hid (by unfold totE; rw [if_neg HX.out])
        rcases chk_cases n with ⟨-, e1, h1, h2⟩ | ⟨-, e1, -⟩
        · have e2 : chkE (sum (l.take k) + n) = 40 := by
            rcases chk_cases (sum (l.take k) + n) with ⟨-, -, h3, h4⟩ | ⟨-, e, -⟩
            · exact absurd ⟨h1, h4⟩ hgood
            · exact e
          rw [e1] at HI
          rw [e2] at HJ
          clear hcell hn hgood e1 e2
          generalize sum (l.take k) = S at *
          go_wp2_with fail
          refine (HI.out _).mono ?_
          rintro e w1 ⟨rfl, rfl⟩
          go_wp2_with fail
          refine (HJ.out _).mono ?_
          rintro e w1 ⟨rfl, rfl⟩
          go_wp2_with fail
          go_ret2
          exact ⟨by rw [HV.out, HO.out]; rfl, Below.refl _ _⟩
        · rw [e1] at HI
          clear hcell hn hgood e1
          generalize sum (l.take k) = S at *
          go_wp2_with fail
          refine (HI.out _).mono ?_
          rintro e w1 ⟨rfl, rfl⟩
          go_wp2_with fail
          go_ret2
          exact ⟨by rw [HV.out, HO.out]; rfl, Below.refl _ _⟩
    · obtain rfl : k = l.length := by omega
      rw [List.take_length] at HF hpos hle ⊢
      have HV : Hid (totV l = sum l) := Lib.hid (by unfold totV; rw [if_pos HF.out])
      have HO : Hid (totE l = 0) := Lib.hid (by unfold totE; rw [if_pos HF.out])
      generalize sum l = S at *
      go_wp2_with fail
      go_ret2
      exact ⟨by rw [HV.out, HO.out]; rfl, Below.refl _ _⟩

theorem add_any (a b : Int) (ha : -9223372036854775808 ≤ a ∧ a < 9223372036854775808) (hb : -9223372036854775808 ≤ b ∧ b < 9223372036854775808) (w : World) :
    Calls Try.prog 11 #[.int .i64 a, .int .i64 b] w fun e w' => e = .returned (.tuple #[.int .i64 (totV [a, b]), .int .i64 (totE [a, b])]) ∧ Below w.heap.size w w' := by
  have HT := Lib.hid (total_any (w.heap.size + 1) (some ⟨w.heap.size, 0, none⟩) 2 [a, b] (w.alloc (.cells #[.int .i64 a, .int .i64 b] 2))
    ⟨rfl, fun _ => ⟨w.heap.size, 0, rfl, by omega, fun j u hu => by rw [Nat.zero_add, (Whole.fresh w 2 _).cell j]; simpa [vals] using hu⟩⟩
    (by simp) (by simp) (by intro n hn; simp at hn; rcases hn with rfl | rfl <;> assumption))
  generalize totV [a, b] = V at *
  generalize totE [a, b] = E at *
  have HZ := Lib.hid ((Below.refl w.heap.size w).alloc (Nat.le_refl _) (.cells #[.int .i64 a, .int .i64 b] 2))
  go_enter Try.func11, Try.ntmps11
  go_wp2_with fail
  refine HT.out.mono ?_
  rintro e w1 ⟨rfl, hb1⟩
  have HB := Lib.hid (HZ.out.trans (hb1.mono HZ.out.size))
  clear hb1
  go_wp2_with fail
  go_ret2
  exact ⟨rfl, HB.out⟩

theorem sub_any (a b : Int) (ha : -9223372036854775808 ≤ a ∧ a < 9223372036854775808) (hb : -9223372036854775808 ≤ b ∧ b < 9223372036854775808) (w : World) :
    Calls Try.prog 13 #[.int .i64 a, .int .i64 b] w fun e w' => e = .returned (.tuple #[.int .i64 (subV a b), .int .i64 (subE a b)]) ∧ Below w.heap.size w w' := by
  have HA := Lib.hid (fun w0 => check_same a w0)
  have HB := Lib.hid (fun w0 => check_same b w0)
  rcases chk_cases a with ⟨i1, e1, a0, a1⟩ | ⟨i1, e1, -⟩
  · rcases chk_cases b with ⟨i2, e2, b0, b1⟩ | ⟨i2, e2, -⟩
    · by_cases hlt : a < b
      · have HE : Hid (subE a b = 41 ∧ subV a b = 0) := Lib.hid (by unfold subE subV; rw [i1, i2]; simp [hlt])
        rw [e1] at HA
        rw [e2] at HB
        clear i1 i2 e1 e2
        go_enter Try.func13, Try.ntmps13
        go_wp2_with fail
        refine (HA.out _).mono ?_
        rintro e w1 ⟨rfl, rfl⟩
        go_wp2_with fail
        refine (HB.out _).mono ?_
        rintro e w1 ⟨rfl, rfl⟩
        go_wp2_with fail
        go_ret2
        exact ⟨by rw [HE.out.1, HE.out.2]; rfl, Below.refl _ _⟩
      · have HE : Hid (subE a b = 0 ∧ subV a b = a - b) := Lib.hid (by unfold subE subV; rw [i1, i2]; simp [hlt])
        rw [e1] at HA
        rw [e2] at HB
        clear i1 i2 e1 e2
        go_enter Try.func13, Try.ntmps13
        go_wp2_with fail
        refine (HA.out _).mono ?_
        rintro e w1 ⟨rfl, rfl⟩
        go_wp2_with fail
        refine (HB.out _).mono ?_
        rintro e w1 ⟨rfl, rfl⟩
        go_wp2_with fail
        go_ret2
        exact ⟨by rw [HE.out.1, HE.out.2]; rfl, Below.refl _ _⟩
    · have HE : Hid (subE a b = 40 ∧ subV a b = 0) := Lib.hid (by unfold subE subV; rw [i1, i2]; exact ⟨rfl, rfl⟩)
      rw [e1] at HA
      rw [e2] at HB
      clear i1 i2 e1 e2
      go_enter Try.func13, Try.ntmps13
      go_wp2_with fail
      refine (HA.out _).mono ?_
      rintro e w1 ⟨rfl, rfl⟩
      go_wp2_with fail
      refine (HB.out _).mono ?_
      rintro e w1 ⟨rfl, rfl⟩
      go_wp2_with fail
      go_ret2
      exact ⟨by rw [HE.out.1, HE.out.2]; rfl, Below.refl _ _⟩
  · have HE : Hid (subE a b = 40 ∧ subV a b = 0) := Lib.hid (by unfold subE subV; rw [i1]; exact ⟨rfl, rfl⟩)
    rw [e1] at HA
    clear i1 e1
    go_enter Try.func13, Try.ntmps13
    go_wp2_with fail
    refine (HA.out _).mono ?_
    rintro e w1 ⟨rfl, rfl⟩
    go_wp2_with fail
    go_ret2
    exact ⟨by rw [HE.out.1, HE.out.2]; rfl, Below.refl _ _⟩

@[go_sem] theorem w_lt1 (x : Nat) (h : x < 18446744073709551616) : (FloatKind.f64.format.order x 4607182418800017408 == some .lt) = decide (x < 4607182418800017408 ∨ 9223372036854775808 ≤ x ∧ x ≤ 18442240474082181120) := by
  rw [order_lt, nan_dec x h, nan_dec 4607182418800017408 (by decide), val_lt (x := 4607182418800017408) (by decide)]
  by_cases g : x < 9223372036854775808
  · rw [val_lt g, Bool.eq_iff_iff]; simp; omega
  · rw [val_ge (by omega) h, Bool.eq_iff_iff]; simp; omega
@[go_sem] theorem w_eq1 (x : Nat) (h : x < 18446744073709551616) : (FloatKind.f64.format.order x 4607182418800017408 == some .eq) = decide (x = 4607182418800017408) := by
  rw [order_eqs, nan_dec x h, nan_dec 4607182418800017408 (by decide), val_lt (x := 4607182418800017408) (by decide)]
  by_cases g : x < 9223372036854775808
  · rw [val_lt g, Bool.eq_iff_iff]; simp; omega
  · rw [val_ge (by omega) h, Bool.eq_iff_iff]; simp; omega
theorem rate_same (x : Nat) (hx : x < 18446744073709551616) (w : World) : Calls Try.prog 24 #[.float .f64 x] w fun e w' => e = .returned (.int .i64 (rateE x)) ∧ w' = w := by
  go_enter Try.func24, Try.ntmps24
  go_wp2_with fail
  all_goals
    go_ret
    refine ⟨ret_i64 ?_, rfl⟩
    unfold rateE rated
    first | (rw [if_pos (by rw [decide_eq_true_eq]; omega)]) | (rw [if_neg (by rw [decide_eq_true_eq]; omega)])
theorem rate_any (x : Nat) (hx : x < 18446744073709551616) (w : World) : Calls Try.prog 24 #[.float .f64 x] w fun e w' => e = .returned (.int .i64 (rateE x)) ∧ Below w.heap.size w w' := by
  refine (rate_same x hx w).mono ?_
  rintro e w1 ⟨rfl, rfl⟩
  exact ⟨rfl, Below.refl _ _⟩

theorem fee_any (n : Int) (x : Nat) (hn : -9223372036854775808 ≤ n ∧ n < 9223372036854775808) (hx : x < 18446744073709551616) (w : World) :
    Calls Try.prog 22 #[.int .i64 n, .float .f64 x] w fun e w' => e = .returned (.tuple #[.int .i64 (feeV n x), .int .i64 (feeE n x)]) ∧ Below w.heap.size w w' := by
  have HA := Lib.hid (fun w0 => check_same n w0)
  have HR := Lib.hid (fun w0 => rate_any x hx w0)
  rcases chk_cases n with ⟨i1, e1, a0, a1⟩ | ⟨i1, e1, -⟩
  · cases h2 : rated x with
    | false =>
      have HE : Hid (feeE n x = 43 ∧ feeV n x = 0) := Lib.hid (by unfold feeE feeV; rw [i1, h2]; exact ⟨rfl, rfl⟩)
      have e2 : rateE x = 43 := by unfold rateE; rw [h2]; rfl
      rw [e1] at HA
      rw [e2] at HR
      clear i1 e1 h2 e2
      go_enter Try.func22, Try.ntmps22
      go_wp2_with fail
      refine (HA.out _).mono ?_
      rintro e w1 ⟨rfl, rfl⟩
      go_wp2_with fail
      refine (HR.out _).mono ?_
      rintro e w1 ⟨rfl, hb1⟩
      have HB := Lib.hid hb1
      clear hb1
      go_wp2_with fail
      go_ret2
      exact ⟨by rw [HE.out.1, HE.out.2]; rfl, HB.out⟩
    | true =>
      have e2 : rateE x = 0 := by unfold rateE; rw [h2]; rfl
      have HP := Lib.hid (fun w0 => times_any n x hx (by omega) (by omega) w0)
      rw [fee_value i1 h2] at HP
      rw [e1] at HA
      rw [e2] at HR
      clear i1 e1 h2 e2
      generalize feeV n x = V at *
      generalize feeE n x = E at *
      go_enter Try.func22, Try.ntmps22
      go_wp2_with fail
      refine (HA.out _).mono ?_
      rintro e w1 ⟨rfl, rfl⟩
      go_wp2_with fail
      refine (HR.out _).mono ?_
      rintro e w1 ⟨rfl, hb1⟩
      have HB := Lib.hid hb1
      clear hb1
      go_wp2_with fail
      refine (HP.out _).mono ?_
      rintro e w2 ⟨rfl, hb2⟩
      have HB2 := Lib.hid (HB.out.trans (hb2.mono HB.out.size))
      clear hb2
      go_wp2_with fail
      go_ret2
      exact ⟨rfl, HB2.out⟩
  · have HE : Hid (feeE n x = 40 ∧ feeV n x = 0) := Lib.hid (by unfold feeE feeV; rw [i1]; exact ⟨rfl, rfl⟩)
    rw [e1] at HA
    clear i1 e1
    go_enter Try.func22, Try.ntmps22
    go_wp2_with fail
    refine (HA.out _).mono ?_
    rintro e w1 ⟨rfl, rfl⟩
    go_wp2_with fail
    go_ret2
    exact ⟨by rw [HE.out.1, HE.out.2]; rfl, Below.refl _ _⟩

/-- The first k parts stand, the others are noughts still. -/
def filled (n : Int) (P k : Nat) : List Int := (parts n P).take k ++ List.replicate (P - k) 0
theorem filled_length (n : Int) (P k : Nat) (h : k ≤ P) : (filled n P k).length = P := by
  unfold filled; rw [List.length_append, List.length_take, parts_length, List.length_replicate]; omega
theorem filled_at (n : Int) (P k : Nat) (h : k < P) : (filled n P k)[k]? = some 0 := by
  unfold filled
  rw [List.getElem?_append_right (by rw [List.length_take, parts_length]; omega), List.length_take, parts_length, List.getElem?_replicate, if_pos (by omega)]
theorem filled_set (n : Int) (P k : Nat) (h : k < P) : (filled n P k).set k (Am.part n P k) = filled n P (k + 1) := by
  unfold filled
  have e : ((parts n P).take k).length = k := by rw [List.length_take, parts_length]; omega
  rw [List.set_append_right _ _ (by rw [e]; exact Nat.le_refl _), e, Nat.sub_self, take_snoc (parts n P) k _ (parts_at n P k h), List.append_assoc]
  obtain ⟨m, hm⟩ : ∃ m, P - k = m + 1 := ⟨P - k - 1, by omega⟩
  rw [hm, show P - (k + 1) = m by omega, List.replicate_succ, List.set_cons_zero]
  rfl
theorem filled_zero (n : Int) (P : Nat) : filled n P 0 = List.replicate P 0 := by unfold filled; simp
theorem filled_all (n : Int) (P : Nat) : filled n P P = parts n P := by unfold filled; rw [Nat.sub_self, List.take_of_length_le (by rw [parts_length]; exact Nat.le_refl _)]; simp
theorem vals_zero (P : Nat) : (madeCells #[Value.int .i64 0] P).toList = vals (List.replicate P 0) := by
  rw [toList_madeCells_one]; unfold vals; rw [List.map_replicate]
theorem own_at {w : World} {B g n c : Nat} {L : List Int} (h : w.ownsRow B 2 1 (.slice (some ⟨g, 0, none⟩) n c) n (vals L)) (k : Nat) (x : Int) (hk : k < n) (hx : L[k]? = some x) : w.cell? ⟨g, k, none⟩ = some (.int .i64 x) := by
  rw [h.cellAt k (by omega)]; exact vals_at L k x hx
theorem own_stored {w : World} {B g n c : Nat} {L : List Int} (h : w.ownsRow B 2 1 (.slice (some ⟨g, 0, none⟩) n c) n (vals L)) (k : Nat) (x : Int) : (w.setCell ⟨g, k, none⟩ (.int .i64 x)).ownsRow B 2 1 (.slice (some ⟨g, 0, none⟩) n c) n (vals (L.set k x)) := by
  rw [← vals_set]; exact (h.stored k _).1

theorem asplit_any (n p : Int) (w : World) : Calls Try.prog 20 #[.int .i64 n, .int .i64 p] w (GivesN w (splitV n p) (splitE n p)) := by
  have HA := Lib.hid (fun w0 => check_same n w0)
  rcases chk_cases n with ⟨i1, e1, a0, a1⟩ | ⟨i1, e1, -⟩
  · by_cases hp : 1 ≤ p ∧ p ≤ 1000
    · obtain ⟨hp1, hp2⟩ := hp
      obtain ⟨P, rfl⟩ : ∃ P : Nat, p = P := ⟨p.toNat, by omega⟩
      have HE : Hid (splitE n (P : Int) = 0) := Lib.hid (by unfold splitE; rw [i1]; simp; omega)
      have HV : Hid (splitV n (P : Int) = parts n P) := Lib.hid (by unfold splitV; rw [HE.out, if_pos rfl, Int.toNat_natCast])
      obtain ⟨i0, hi, hz0, hz1, hz2⟩ := info_parts info_i64
      have HP := Lib.hid (fun k => show Am.part n (P : Int) k = n / (P : Int) + if (k : Int) < n % (P : Int) then 1 else 0 from rfl)
      rw [e1] at HA
      clear i1 e1
      have hq0 := Int.ediv_nonneg a0 (show (0 : Int) ≤ P by omega)
      have hq1 : n / (P : Int) ≤ n := Int.ediv_le_self _ a0
      have hr0 := Int.emod_nonneg n (show (P : Int) ≠ 0 by omega)
      have hr1 := Int.emod_lt_of_pos n (show (0 : Int) < (P : Int) by omega)
      have hd := Int.tdiv_eq_ediv_of_nonneg (b := (P : Int)) a0
      have hm := Int.tmod_eq_emod_of_nonneg (b := (P : Int)) a0
      have hnz : ((P : Int) == 0) = false := by simpa using (by omega : ¬ (P : Int) = 0)
      have hnz2 : ¬ (P : Int) = 0 := by omega
      go_enter Try.func20, Try.ntmps20
      go_wp2_with fail
      refine (HA.out _).mono ?_
      rintro e w1 ⟨rfl, rfl⟩
      go_wp2_with fail
      go_quiet (fail)
      generalize n / (P : Int) = q at *
      generalize n % (P : Int) = r at *
      clear hd hm hnz hnz2
      go_wp2_with (at_make; refine wpList_make_full _ rfl _ _ 27 rfl w1.heap.size 2 i0 (.int .i64 0) 1 Try.underlying27 hi hz0 hz1 _ _ _ _ P rfl rfl (by omega) (by omega) (by rw [hz2]; omega) (by unfold maxLen; omega) (by simp) ?_)
      intro w2 ho2 hg2
      rw [vals_zero, ← filled_zero n P] at ho2
      have HO2 := Lib.hid ho2
      have HB2 := Lib.hid (((Below.refl w1.heap.size w1).trans (drew_below w1 nq)).grown hg2 (by simp) (fun k hk => by cases hk))
      have hz2' := HB2.out.size
      clear ho2 hg2
      go_wp2_with fail
      go_loopw [31] (fun i wr => ∃ k : Nat, k ≤ P ∧ i = .int .i64 (k : Int) ∧ Below w1.heap.size w1 wr ∧ wr.ownsRow w1.heap.size 2 1 (.slice (some ⟨w1.heap.size, 0, none⟩) P P) P (vals (filled n P k))) (fun i _ => P - (intOf i).toNat)
      case atStart => exact ⟨0, by omega, rfl, HB2.out, HO2.out⟩
      case round =>
        obtain ⟨k, hk, rfl, hbel, hown⟩ := hrel
        have HB := Lib.hid hbel
        have HO := Lib.hid hown
        have hz := hbel.size
        clear hbel hown
        by_cases hlt : k < P
        · have hkp : (k : Int) < (P : Int) := by omega
          have g0 := own_at HO.out k 0 hlt (filled_at n P k hlt)
          have f0 := HO.out.frozenAt k
          have HT := Lib.hid (own_stored HO.out k q)
          have g1 := own_at HT.out k q hlt (by rw [List.getElem?_set_self (by rw [filled_length n P k hk]; exact hlt)])
          have f1 := HT.out.frozenAt k
          have HS := Lib.hid (filled_set n P k hlt)
          by_cases hkr : (k : Int) < r
          · rw [HP.out k, if_pos hkr] at HS
            have HU := Lib.hid (own_stored HT.out k (q + 1))
            rw [List.set_set, HS.out] at HU
            go_wp2_with fail
            go_roundw
            case rel => exact ⟨k + 1, by omega, by go_num, (HB.out.setCell (Nat.le_refl _) _).setCell (Nat.le_refl _) _, HU.out⟩
            case measure => simp [intOf]; omega
          · rw [HP.out k, if_neg hkr, Int.add_zero] at HS
            rw [HS.out] at HT
            go_wp2_with fail
            go_roundw
            case rel => exact ⟨k + 1, by omega, by go_num, HB.out.setCell (Nat.le_refl _) _, HT.out⟩
            case measure => simp [intOf]; omega
        · obtain rfl : k = P := by omega
          rw [filled_all] at HO
          go_wp2_with fail
          go_ret2
          refine ⟨_, by rw [HE.out]; rfl, ?_, HB.out⟩
          rw [HV.out]
          unfold OwnN
          rw [parts_length]
          exact HO.out
    · have HE : Hid (splitE n p = 42) := Lib.hid (by unfold splitE; rw [i1, if_pos rfl, if_neg hp])
      have HV : Hid (splitV n p = []) := Lib.hid (by unfold splitV; rw [HE.out]; rfl)
      rw [e1] at HA
      clear i1 e1
      by_cases hp1 : p < 1
      · clear hp
        go_enter Try.func20, Try.ntmps20
        go_wp2_with fail
        refine (HA.out _).mono ?_
        rintro e w1 ⟨rfl, rfl⟩
        go_wp2_with fail
        go_ret2
        exact ⟨_, by rw [HE.out]; rfl, by rw [HV.out]; exact OwnN.none_ _ _, Below.refl _ _⟩
      · have hp2 : 1000 < p := by omega
        clear hp
        go_enter Try.func20, Try.ntmps20
        go_wp2_with fail
        refine (HA.out _).mono ?_
        rintro e w1 ⟨rfl, rfl⟩
        go_wp2_with fail
        go_ret2
        exact ⟨_, by rw [HE.out]; rfl, by rw [HV.out]; exact OwnN.none_ _ _, Below.refl _ _⟩
  · have HE : Hid (splitE n p = 40) := Lib.hid (by unfold splitE; rw [i1]; rfl)
    have HV : Hid (splitV n p = []) := Lib.hid (by unfold splitV; rw [HE.out]; rfl)
    rw [e1] at HA
    clear i1 e1
    go_enter Try.func20, Try.ntmps20
    go_wp2_with fail
    refine (HA.out _).mono ?_
    rintro e w1 ⟨rfl, rfl⟩
    go_wp2_with fail
    go_ret2
    exact ⟨_, by rw [HE.out]; rfl, by rw [HV.out]; exact OwnN.none_ _ _, Below.refl _ _⟩
end Go.Proofs.Ytggmbkmkjkllkaa
