/- Contracts of the document's Split, Rated and Fee; and of same. -/
import Derived.Test.YtggmbkmkjkllkaaAmtC
namespace Go.Proofs.Ytggmbkmkjkllkaa
open Go.RowKit Go.Am Go.Fl
set_option linter.unusedVariables false
set_option linter.unusedSimpArgs false

/-- What Split gives, the program's and the document's. -/
def GivesN (w : World) (L : List Int) (E : Int) (e : Ending) (w' : World) : Prop :=
  ∃ v, e = .returned (.tuple #[v, .int .i64 E]) ∧ OwnN w' w.heap.size v L ∧ Below w.heap.size w w'
theorem OwnN.none_ (w : World) (B : Nat) : OwnN w B (.slice none 0 0) [] := World.ownsRow_nil _ _ _ _

theorem rsplit_any (n p : Int) (w : World) : Calls Try.prog 21 #[.int .i64 n, .int .i64 p] w (GivesN w (splitV n p) (splitE n p)) := by
  have HA := Lib.hid (fun w0 => ris_any n w0)
  cases h1 : isA n with
  | false =>
    have HE : Hid (splitE n p = 40) := Lib.hid (by unfold splitE; rw [h1]; rfl)
    have HV : Hid (splitV n p = []) := Lib.hid (by unfold splitV; rw [HE.out]; rfl)
    rw [h1] at HA
    clear h1
    go_enter Try.func21, Try.ntmps21
    go_wp2_with fail
    refine (HA.out _).mono ?_
    rintro e w1 ⟨rfl, rfl⟩
    go_wp2_with fail
    go_ret2
    exact ⟨_, by rw [HE.out]; rfl, by rw [HV.out]; exact OwnN.none_ _ _, Below.refl _ _⟩
  | true =>
    have ra := (isA_iff n).1 h1
    by_cases hp : 1 ≤ p ∧ p ≤ 1000
    · obtain ⟨hp1, hp2⟩ := hp
      obtain ⟨P, rfl⟩ : ∃ P : Nat, p = P := ⟨p.toNat, by omega⟩
      have HE : Hid (splitE n (P : Int) = 0) := Lib.hid (by unfold splitE; rw [h1]; simp; omega)
      have HV : Hid (splitV n (P : Int) = parts n P) := Lib.hid (by unfold splitV; rw [HE.out, if_pos rfl, Int.toNat_natCast])
      rw [h1] at HA
      clear h1
      obtain ⟨ra0, ra1⟩ := ra
      go_enter Try.func21, Try.ntmps21
      go_wp2_with fail
      refine (HA.out _).mono ?_
      rintro e w1 ⟨rfl, rfl⟩
      go_wp2_with fail
      go_loopw [6, 7, 8] (fun v lf kk wr => ∃ i : Nat, i ≤ P ∧ kk = .int .i64 ((P : Int) - (i : Int)) ∧ lf = .int .i64 (left n P i) ∧ OwnN wr w1.heap.size v ((parts n P).take i) ∧ Below w1.heap.size w1 wr) (fun _ _ kk _ => (intOf kk).toNat)
      case atStart =>
        refine ⟨0, by omega, by simp, ?_, own_empty w1 2 1, (Below.refl w1.heap.size w1).alloc (Nat.le_refl _) _⟩
        rw [left_zero n P ra0 (by omega)]
      case round =>
        obtain ⟨i, hi, rfl, rfl, hown, hbel⟩ := hrel
        have HO := Lib.hid hown
        have HB := Lib.hid hbel
        have HZ := hbel.size
        have hle := left_nonneg n P i ra0 hi (by omega)
        obtain ⟨hl0, hl1⟩ := hle
        clear hown hbel
        by_cases hlt : i < P
        · have hpu := part_up n P i ra0 hlt
          rw [show ((P - i : Nat) : Int) = (P : Int) - (i : Int) by omega] at hpu
          have hpr := part_range n P i ra0 hlt
          obtain ⟨hr0, hr1⟩ := hpr
          have HS := Lib.hid (left_step n P i)
          have HT := Lib.hid (take_snoc (parts n P) i _ (parts_at n P i hlt))
          have hlen : ((parts n P).take i).length = i := by rw [List.length_take, parts_length]; omega
          have hln := left_nonneg n P (i + 1) ra0 (by omega) (by omega)
          rw [HS.out] at hln
          obtain ⟨hln0, hln1⟩ := hln
          generalize Am.part n P i = x at *
          generalize left n P i = y at *
          generalize (parts n P).take i = L at *
          have hki : (0 : Int) < (P : Int) - (i : Int) := by omega
          have hnz : (((P : Int) - (i : Int)) == 0) = false := by simpa using (by omega : ¬ (P : Int) - (i : Int) = 0)
          go_wp2_with (at_builtin; refine wpList_appN rfl (.tmp 32) (.tmp 34) rfl w1.heap.size _ L rfl HO.out x _ rfl rfl HZ (by omega) ?_)
          intro v' w' ho' hb'
          have HO2 := Lib.hid ho'
          have HB2 := Lib.hid (HB.out.trans hb')
          clear ho' hb'
          go_wp2_with fail
          go_roundw
          case rel => exact ⟨i + 1, by omega, by go_num, by rw [HS.out], by rw [HT.out]; exact HO2.out, HB2.out⟩
          case measure => simp [intOf]; omega
        · obtain rfl : i = P := by omega
          rw [List.take_of_length_le (by rw [parts_length]; omega)] at HO
          go_wp2_with fail
          go_ret2
          exact ⟨_, by rw [HE.out]; rfl, by rw [HV.out]; exact HO.out, HB.out⟩
    · have HE : Hid (splitE n p = 42) := Lib.hid (by unfold splitE; rw [h1, if_pos rfl, if_neg hp])
      have HV : Hid (splitV n p = []) := Lib.hid (by unfold splitV; rw [HE.out]; rfl)
      rw [h1] at HA
      clear h1
      by_cases hp1 : p < 1
      · clear hp
        go_enter Try.func21, Try.ntmps21
        go_wp2_with fail
        refine (HA.out _).mono ?_
        rintro e w1 ⟨rfl, rfl⟩
        go_wp2_with fail
        go_ret2
        exact ⟨_, by rw [HE.out]; rfl, by rw [HV.out]; exact OwnN.none_ _ _, Below.refl _ _⟩
      · have hp2 : 1000 < p := by omega
        clear hp
        go_enter Try.func21, Try.ntmps21
        go_wp2_with fail
        refine (HA.out _).mono ?_
        rintro e w1 ⟨rfl, rfl⟩
        go_wp2_with fail
        go_ret2
        exact ⟨_, by rw [HE.out]; rfl, by rw [HV.out]; exact OwnN.none_ _ _, Below.refl _ _⟩

theorem same_len (A A' : Option Addr) (n m c c' : Nat) (h : n ≠ m) (w : World) :
    Calls Try.prog 19 #[.slice A n c, .slice A' m c'] w fun e w' => e = .returned (.bool false) ∧ Below w.heap.size w w' := by
  have h1 : ((n : Int) != (m : Int)) = true := by simpa using (by omega : ¬ (n : Int) = m)
  go_enter Try.func19, Try.ntmps19
  go_wp2_with fail
  go_ret
  exact ⟨rfl, Below.refl _ _⟩

theorem same_eq (B B' : Nat) (A A' : Option Addr) (c c' : Nat) (l m : List Int) (w : World) (hl : l.length = m.length) (hm : l.length ≤ 9223372036854775807)
    (hs : Sees w B 1 A l.length (vals l)) (hs' : Sees w B' 1 A' m.length (vals m)) (hB : B ≤ w.heap.size) (hB' : B' ≤ w.heap.size) :
    Calls Try.prog 19 #[.slice A l.length c, .slice A' m.length c'] w fun e w' => e = .returned (.bool (decide (l = m))) ∧ Below w.heap.size w w' := by
  have HS := Lib.hid hs
  have HS' := Lib.hid hs'
  have HL := Lib.hid hl
  have hne : ((l.length : Int) != (m.length : Int)) = false := by simpa using (by omega : (l.length : Int) = (m.length : Int))
  have hle : l.length ≤ m.length := by omega
  have hge : m.length ≤ l.length := by omega
  clear hs hs' hl
  go_enter Try.func19, Try.ntmps19
  go_wp2_with fail
  go_loopw [5] (fun i wr => ∃ k : Nat, k ≤ l.length ∧ i = .int .i64 (k : Int) ∧ Below w.heap.size w wr ∧ l.take k = m.take k) (fun i _ => l.length - (intOf i).toNat)
  case atStart => exact ⟨0, by omega, rfl, Below.refl _ _, rfl⟩
  case round =>
    obtain ⟨k, hk, rfl, hbel, hsm⟩ := hrel
    have HB := Lib.hid hbel
    have HM := Lib.hid hsm
    clear hsm
    by_cases hlt : k < l.length
    · obtain ⟨x, hx⟩ : ∃ x, l[k]? = some x := ⟨_, List.getElem?_eq_getElem hlt⟩
      obtain ⟨y, hy⟩ : ∃ y, m[k]? = some y := ⟨_, List.getElem?_eq_getElem (by omega)⟩
      obtain ⟨b0, off, rfl, hb, hc0⟩ := (HS.out.below (hbel.mono hB)).2 (by omega)
      obtain ⟨b0', off', rfl, hb', hc0'⟩ := (HS'.out.below (hbel.mono hB')).2 (by omega)
      have g0 := hc0 k _ (vals_at l k x hx)
      have g1 := hc0' k _ (vals_at m k y hy)
      have HX := Lib.hid hx
      have HY := Lib.hid hy
      have hkl : (k : Int) < (l.length : Int) := by omega
      have hkm : (k : Int) < (m.length : Int) := by omega
      clear hc0 hc0' hx hy hbel
      by_cases hxy : x = y
      · have hq : (x != y) = false := by rw [hxy]; simp
        have HT : Hid (l.take (k + 1) = m.take (k + 1)) := Lib.hid (by rw [take_snoc l k x HX.out, take_snoc m k y HY.out, HM.out, hxy])
        clear hxy
        go_wp2_with fail
        go_quiet (fail)
        go_wp2_with fail
        go_roundw
        case rel => exact ⟨k + 1, by omega, by go_num, HB.out.trans ((drew_below _ _).mono HB.out.size), HT.out⟩
        case measure => simp [intOf]; omega
      · have hq : (x != y) = true := by simpa using hxy
        have HT : Hid (decide (l = m) = false) := Lib.hid (by
          rw [decide_eq_false_iff_not]
          intro h
          rw [h] at HX
          have := HX.out.symm.trans HY.out
          injection this with this
          exact hxy this)
        clear hxy
        go_wp2_with fail
        go_quiet (fail)
        go_wp2_with fail
        go_ret
        exact ⟨by rw [HT.out]; rfl, HB.out.trans ((drew_below _ _).mono HB.out.size)⟩
    · have hkl : k = l.length := by omega
      have HT : Hid (decide (l = m) = true) := by
        have := HM.out
        rw [hkl, List.take_length, HL.out, List.take_length] at this
        exact Lib.hid (by rw [decide_eq_true_eq]; exact this)
      go_wp2_with fail
      go_ret
      exact ⟨by rw [HT.out]; rfl, HB.out⟩

theorem same_any (B B' : Nat) (A A' : Option Addr) (c c' : Nat) (l m : List Int) (w : World) (hm : l.length ≤ 9223372036854775807)
    (hs : Sees w B 1 A l.length (vals l)) (hs' : Sees w B' 1 A' m.length (vals m)) (hB : B ≤ w.heap.size) (hB' : B' ≤ w.heap.size) :
    Calls Try.prog 19 #[.slice A l.length c, .slice A' m.length c'] w fun e w' => e = .returned (.bool (decide (l = m))) ∧ Below w.heap.size w w' := by
  by_cases h : l.length = m.length
  · exact same_eq B B' A A' c c' l m w h hm hs hs' hB hB'
  · rw [show decide (l = m) = false by rw [decide_eq_false_iff_not]; intro e; exact h (by rw [e])]
    exact same_len A A' _ _ c c' h w

theorem rated_of (x : Nat) (hx : x < 18446744073709551616) : (cls x = 3 → rated x = true) ∧ (cls x = 4 → rated x = true) ∧
    (cls x = 5 → rated x = ((FloatKind.f64.format.order x 4607182418800017408 == some .lt) || (FloatKind.f64.format.order x 4607182418800017408 == some .eq))) ∧ (cls x ≠ 3 → cls x ≠ 4 → cls x ≠ 5 → rated x = false) := by
  have hr : rated x = decide (x ≤ 4607182418800017408 ∨ x = 9223372036854775808) := rfl
  refine ⟨fun h => ?_, fun h => ?_, fun h => ?_, fun h3 h4 h5 => ?_⟩
  · rw [hr, decide_eq_true_eq]; unfold cls at h; (repeat' split at h) <;> omega
  · rw [hr, decide_eq_true_eq]; unfold cls at h; (repeat' split at h) <;> omega
  · have hb : 0 < x ∧ x < 9218868437227405312 := by unfold cls at h; (repeat' split at h) <;> omega
    have hn : nan x = false := by rw [nan_dec x hx, decide_eq_false_iff_not]; omega
    have h1 : nan 4607182418800017408 = false := by rw [nan_dec _ (by omega), decide_eq_false_iff_not]; omega
    rw [order_lt, order_eqs, hn, h1, val_lt (x := x) (by omega), val_lt (x := 4607182418800017408) (by omega), hr]
    simp only [Bool.not_false, Bool.true_and]
    rw [← Bool.decide_or, decide_eq_decide]
    omega
  · rw [hr, decide_eq_false_iff_not]; unfold cls at h3 h4 h5; (repeat' split at h3) <;> omega
theorem rrated_any (x : Nat) (hx : x < 18446744073709551616) (w : World) : Calls Try.prog 25 #[.float .f64 x] w fun e w' => e = .returned (.bool (rated x)) ∧ w' = w := by
  obtain ⟨r3, r4, r5, r0⟩ := rated_of x hx
  have HC := Lib.hid (fun w0 => rcls_any x hx w0)
  by_cases h3 : cls x = 3
  · have HR := Lib.hid (r3 h3)
    rw [h3] at HC
    clear r3 r4 r5 r0 h3
    go_enter Try.func25, Try.ntmps25
    go_wp2_with fail
    refine (HC.out _).mono ?_
    rintro e w1 ⟨rfl, rfl⟩
    go_wp2_with fail
    go_ret
    exact ⟨by rw [HR.out]; rfl, rfl⟩
  · by_cases h4 : cls x = 4
    · have HR := Lib.hid (r4 h4)
      rw [h4] at HC
      clear r3 r4 r5 r0 h3 h4
      go_enter Try.func25, Try.ntmps25
      go_wp2_with fail
      refine (HC.out _).mono ?_
      rintro e w1 ⟨rfl, rfl⟩
      go_wp2_with fail
      go_ret
      exact ⟨by rw [HR.out]; rfl, rfl⟩
    · by_cases h5 : cls x = 5
      · have HR := Lib.hid (r5 h5)
        rw [h5] at HC
        clear r3 r4 r5 r0 h3 h4 h5
        go_enter Try.func25, Try.ntmps25
        go_wp2_with fail
        refine (HC.out _).mono ?_
        rintro e w1 ⟨rfl, rfl⟩
        go_wp2_with fail
        go_ret
        exact ⟨by rw [HR.out]; rfl, rfl⟩
      · have HR := Lib.hid (r0 h3 h4 h5)
        clear r3 r4 r5 r0
        generalize cls x = q at *
        have e3 : (q == 3) = false := by simpa using h3
        have e4 : (q == 4) = false := by simpa using h4
        have e5 : (q == 5) = false := by simpa using h5
        clear h3 h4 h5
        go_enter Try.func25, Try.ntmps25
        go_wp2_with fail
        refine (HC.out _).mono ?_
        rintro e w1 ⟨rfl, rfl⟩
        go_wp2_with fail
        go_ret
        exact ⟨by rw [HR.out]; rfl, rfl⟩

/-- What a fee is as a value. -/
theorem fee_value {n : Int} {x : Nat} (hn : isA n = true) (hr : rated x = true) : timesR n x = .tuple #[.int .i64 (feeV n x), .int .i64 (feeE n x)] := by
  obtain ⟨h1, h2⟩ := (isA_iff n).1 hn
  obtain ⟨h3, h4⟩ := fee_range n x h1 hr
  rw [timesR_num (rated_nan hr).1 (rated_nan hr).2]
  have hf : fits (prodF n x) = true := by unfold fits; simp only [decide_eq_true_eq]; omega
  unfold feeV feeE fitV
  simp [hn, hr, hf]
theorem rfee_any (n : Int) (x : Nat) (hx : x < 18446744073709551616) (w : World) : Calls Try.prog 23 #[.int .i64 n, .float .f64 x] w fun e w' => e = .returned (.tuple #[.int .i64 (feeV n x), .int .i64 (feeE n x)]) ∧ Below w.heap.size w w' := by
  have HA := Lib.hid (fun w0 => ris_any n w0)
  have HR := Lib.hid (fun w0 => rrated_any x hx w0)
  cases h1 : isA n with
  | false =>
    have HE : Hid (feeE n x = 40 ∧ feeV n x = 0) := Lib.hid (by unfold feeE feeV; rw [h1]; exact ⟨rfl, rfl⟩)
    rw [h1] at HA
    clear h1
    go_enter Try.func23, Try.ntmps23
    go_wp2_with fail
    refine (HA.out _).mono ?_
    rintro e w1 ⟨rfl, rfl⟩
    go_wp2_with fail
    go_ret2
    exact ⟨by rw [HE.out.1, HE.out.2]; rfl, Below.refl _ _⟩
  | true =>
    cases h2 : rated x with
    | false =>
      have HE : Hid (feeE n x = 43 ∧ feeV n x = 0) := Lib.hid (by unfold feeE feeV; rw [h1, h2]; exact ⟨rfl, rfl⟩)
      rw [h1] at HA
      rw [h2] at HR
      clear h1 h2
      go_enter Try.func23, Try.ntmps23
      go_wp2_with fail
      refine (HA.out _).mono ?_
      rintro e w1 ⟨rfl, rfl⟩
      go_wp2_with fail
      refine (HR.out _).mono ?_
      rintro e w1 ⟨rfl, rfl⟩
      go_wp2_with fail
      go_ret2
      exact ⟨by rw [HE.out.1, HE.out.2]; rfl, Below.refl _ _⟩
    | true =>
      have ra := (isA_iff n).1 h1
      have HP := Lib.hid (fun w0 => rprod_any n x false hx (by omega) (by omega) w0)
      rw [prodR_times, fee_value h1 h2] at HP
      rw [h1] at HA
      rw [h2] at HR
      clear h1 h2
      generalize feeV n x = V at *
      generalize feeE n x = E at *
      go_enter Try.func23, Try.ntmps23
      go_wp2_with fail
      refine (HA.out _).mono ?_
      rintro e w1 ⟨rfl, rfl⟩
      go_wp2_with fail
      refine (HR.out _).mono ?_
      rintro e w1 ⟨rfl, rfl⟩
      go_wp2_with fail
      refine (HP.out _).mono ?_
      rintro e w2 ⟨rfl, hb⟩
      go_wp2_with fail
      go_ret2
      exact ⟨rfl, hb⟩
end Go.Proofs.Ytggmbkmkjkllkaa
