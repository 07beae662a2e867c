/- The document's answer for num.Least. -/
import Derived.Test.YtjicdbkpklikfaaNumA
namespace Go.Proofs.Ytjicdbkpklikfaa
open Go.RowKit Go.Fl
def okAt (xs : List Nat) (i k : Nat) : Bool := decide (0 ≤ ord (xs.getD k 0) (xs.getD i 0)) && (decide (i ≤ k) || decide (0 < ord (xs.getD k 0) (xs.getD i 0)))
def okTo (xs : List Nat) (i : Nat) : Nat → Bool
  | 0 => true
  | k + 1 => okTo xs i k && okAt xs i k
theorem okTo_iff (xs : List Nat) (i n : Nat) : okTo xs i n = true ↔ ∀ k, k < n → okAt xs i k = true := by
  induction n with
  | zero => simp [okTo]
  | succ n ih =>
    rw [okTo, Bool.and_eq_true, ih]
    constructor
    · intro h k hk
      by_cases g : k = n
      · subst g; exact h.2
      · exact h.1 k (by omega)
    · intro h; exact ⟨fun k hk => h k (by omega), h n (by omega)⟩
theorem okAt_iff (xs : List Nat) (i k : Nat) : okAt xs i k = true ↔ key (xs.getD i 0) ≤ key (xs.getD k 0) ∧ (k < i → key (xs.getD i 0) < key (xs.getD k 0)) := by
  unfold okAt ord
  generalize key (xs.getD k 0) = a
  generalize key (xs.getD i 0) = b
  simp only [Bool.and_eq_true, Bool.or_eq_true, decide_eq_true_eq]
  by_cases h1 : a < b
  · simp [h1]; omega
  · by_cases h2 : b < a
    · simp [h1, h2]; omega
    · simp [h1, h2]; omega
/-- The first of the least ones has a place, and only one. -/
theorem leastF_place (y : Nat) (l : List Nat) : ∃ i, i < (y :: l).length ∧ (y :: l).getD i 0 = leastF y l ∧ okTo (y :: l) i (y :: l).length = true := by
  have key0 : ∀ n, n ≤ l.length → ∃ i, i < n + 1 ∧ (y :: l).getD i 0 = leastF y (l.take n) ∧ okTo (y :: l) i (n + 1) = true := by
    intro n
    induction n with
    | zero =>
      intro _
      refine ⟨0, by omega, rfl, ?_⟩
      rw [okTo_iff]; intro k hk
      obtain rfl : k = 0 := by omega
      rw [okAt_iff]; omega
    | succ n ih =>
      intro h
      obtain ⟨i, hi, e, ok⟩ := ih (by omega)
      rw [take_snoc_nat l n (by omega), leastF_snoc]
      have ge : (y :: l).getD (n + 1) 0 = l.getD n 0 := by simp
      split
      · rename_i hlt
        refine ⟨n + 1, by omega, ge, ?_⟩
        rw [okTo_iff] at ok ⊢
        intro k hk
        rw [okAt_iff, ge]
        by_cases g : k = n + 1
        · subst g; rw [ge]; omega
        · have := (okAt_iff _ _ _).1 (ok k (by omega))
          rw [e] at this
          omega
      · rename_i hlt
        refine ⟨i, by omega, e, ?_⟩
        rw [okTo_iff] at ok ⊢
        intro k hk
        by_cases g : k = n + 1
        · subst g; rw [okAt_iff, ge, e]; omega
        · exact ok k (by omega)
  obtain ⟨i, hi, e, ok⟩ := key0 l.length (Nat.le_refl _)
  rw [List.take_length] at e
  exact ⟨i, hi, e, ok⟩
theorem ok_only (xs : List Nat) (i j : Nat) (hi : i < xs.length) (hj : j < xs.length) (a : okTo xs i xs.length = true) (b : okTo xs j xs.length = true) : i = j := by
  rw [okTo_iff] at a b
  have a1 := (okAt_iff _ _ _).1 (a j hj)
  have b1 := (okAt_iff _ _ _).1 (b i hi)
  omega

theorem quiet_more {P : Program} {f : FuncId} {args : Array Value} {w : World} {a n : Nat} {v : Value}
    (h : Calls P f args (w.drewN (a + n)) fun e w' => e = .returned v ∧ w' = w.drewN (a + n)) :
    Calls P f args (w.drewN (a + n)) fun e w'' => e = .returned v ∧ ∃ m, w'' = w.drewN (a + m) :=
  h.mono fun _ _ ⟨he, hm⟩ => ⟨he, n, hm⟩
theorem rleast_none (a : Option Addr) (cap : Nat) (w : World) :
    Calls Try.prog 30 #[.slice a 0 cap] w fun e w' => e = .returned (.tuple #[.float .f64 0, .bool false]) ∧ Kp w w' := by
  go_enter Try.func30, Try.ntmps30
  go_wp2
  go_loop [4] (fun i => i = .int .i64 (0 : Nat)) (fun _ => 0)
  case atStart => rfl
  case round =>
    obtain rfl := hrel
    go_wp2
    go_ret2
    exact ⟨rfl, Below.refl _ _⟩

theorem rleast_some (b off cap : Nat) (y : Nat) (l : List Nat) (w : World) (hb : FRow w b off (y :: l)) (hc : l.length + 1 ≤ cap) (hm : cap ≤ 9223372036854775807)
    (hl : ∀ x, x ∈ y :: l → x < 18446744073709551616) :
    Calls Try.prog 30 #[.slice (some ⟨b, off, none⟩) (l.length + 1) cap] w fun e w' => e = .returned (.tuple #[.float .f64 (leastF y l), .bool true]) ∧ Kp w w' := by
  obtain ⟨i0, h0, he, hok⟩ := leastF_place y l
  have hu := fun i (hi : i < (y :: l).length) (h : okTo (y :: l) i (y :: l).length = true) => ok_only (y :: l) i i0 hi h0 h hok
  generalize hxs : y :: l = xs at *
  have hlen : l.length + 1 = xs.length := by rw [← hxs]; rfl
  rw [hlen] at hc ⊢
  have HX := Lib.hid hxs
  have HE := Lib.hid he
  have HK := Lib.hid hok
  have HU := Lib.hid hu
  have HB := Lib.hid hb
  have HL := Lib.hid hl
  clear hxs he hok hu hb hl hlen
  go_enter Try.func30, Try.ntmps30
  go_wp2
  go_loopw [4] (fun i wr => ∃ k n : Nat, k ≤ i0 ∧ i = .int .i64 k ∧ wr = w.drewN n) (fun i _ => xs.length - (intOf i).toNat)
  case atStart => exact ⟨0, 0, by omega, rfl, rfl⟩
  case round =>
    obtain ⟨i, n, hi, rfl, rfl⟩ := hrel
    go_wp2
    obtain ⟨wo, hwo⟩ : ∃ wo : World, wo = w.drewN n := ⟨_, rfl⟩
    go_loopw [5, 6] (fun o k wr => ∃ j m : Nat, j ≤ xs.length ∧ k = .int .i64 j ∧ o = .bool (okTo xs i j) ∧ wr = w.drewN m) (fun _ k _ => xs.length - (intOf k).toNat)
    case atStart => exact ⟨0, n, by omega, rfl, rfl, rfl⟩
    case round =>
      obtain ⟨j, m, hj, rfl, rfl, rfl⟩ := hrel
      have hii : (i : Int) < (xs.length : Int) := by omega
      have hx : xs.getD i 0 < 18446744073709551616 := HL.out _ (by
          rw [List.getD_eq_getElem?_getD, List.getElem?_eq_getElem (by omega)]; exact List.getElem_mem (by omega))
      have c1 : w.cell? ⟨b, off + i, none⟩ = some (.float .f64 (xs.getD i 0)) := HB.out i (by omega)
      by_cases hlt : j < xs.length
      · have hjj : (j : Int) < (xs.length : Int) := by omega
        have hy : xs.getD j 0 < 18446744073709551616 := HL.out _ (by
          rw [List.getD_eq_getElem?_getD, List.getElem?_eq_getElem (by omega)]; exact List.getElem_mem (by omega))
        have c2 : w.cell? ⟨b, off + j, none⟩ = some (.float .f64 (xs.getD j 0)) := HB.out j (by omega)
        have HS : Hid (okTo xs i (j + 1) = (okTo xs i j && (decide (0 ≤ ord (xs.getD j 0) (xs.getD i 0)) && (decide (i ≤ j) || decide (0 < ord (xs.getD j 0) (xs.getD i 0)))))) := Lib.hid rfl
        generalize xs.getD i 0 = x at *
        generalize xs.getD j 0 = z at *
        go_wp2
        go_quiet ((go_at_call 17; exact quiet_more (rcmp_any _ _ (by assumption) (by assumption) _)))
        generalize okTo xs i j = bb at *
        generalize ord z x = o at *
        cases bb
        · go_wp2
          refine ⟨⟨j + 1, _, by omega, by go_num, ?_, rfl⟩, by simp [intOf]; omega⟩
          rw [HS.out, Bool.false_and]
        · by_cases o1 : 0 ≤ o
          · by_cases o2 : i ≤ j
            · have o2' : (i : Int) ≤ (j : Int) := by omega
              go_wp2
              refine ⟨⟨j + 1, _, by omega, by go_num, ?_, rfl⟩, by simp [intOf]; omega⟩
              rw [HS.out]; simp [o1, o2]
            · have o2' : (j : Int) < (i : Int) := by omega
              by_cases o3 : 0 < o
              · go_wp2
                refine ⟨⟨j + 1, _, by omega, by go_num, ?_, rfl⟩, by simp [intOf]; omega⟩
                rw [HS.out]; simp [o1, o3]
              · have o3' : o ≤ 0 := by omega
                go_wp2
                refine ⟨⟨j + 1, _, by omega, by go_num, ?_, rfl⟩, by simp [intOf]; omega⟩
                rw [HS.out]; simp [o2, o3]
          · have o1' : o < 0 := by omega
            go_wp2
            refine ⟨⟨j + 1, _, by omega, by go_num, ?_, rfl⟩, by simp [intOf]; omega⟩
            rw [HS.out]; simp [o1]
      · have hje : j = xs.length := by omega
        go_wp2
        · go_ret2
          rename_i hok
          refine ⟨ret_fb ?_ rfl, ?_⟩
          · rw [hje] at hok
            have : i = i0 := HU.out i (by omega) hok
            have e := HE.out
            rw [← this, List.getD_eq_getElem?_getD, List.getElem?_eq_getElem (by omega)] at e
            exact e
          · exact grown_drewN (Below.refl _ _) _
        · rename_i hno
          refine ⟨⟨i + 1, m, ?_, by go_num, rfl⟩, by simp [intOf]; omega⟩
          by_cases g : i = i0
          · rw [hje, g, HK.out] at hno; cases hno
          · omega
end Go.Proofs.Ytjicdbkpklikfaa
