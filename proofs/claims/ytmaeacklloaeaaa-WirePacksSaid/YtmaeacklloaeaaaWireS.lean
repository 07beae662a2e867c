/- Contracts of the document's Same and All, and of few. -/
import Derived.Test.YtmaeacklloaeaaaWireK
import Derived.Deep.QuietTactic
import Derived.BigQuiet
import Derived.StillTailTactics
namespace Go.Proofs.Ytmaeacklloaeaaa
open Go.RowKit Go.Fl Go.Wr
set_option linter.unusedVariables false
set_option linter.unusedSimpArgs false

theorem str_same (s t : ByteArray) : (s.toList == t.toList) = decide (s = t) := by
  rw [ByteArray.toList_eq, ByteArray.toList_eq, Bool.eq_iff_iff, beq_iff_eq, decide_eq_true_eq]
  constructor
  · intro h
    rw [← ba_eta s, ← ba_eta t, h]
  · intro h; rw [h]
theorem boxes (w : World) (o1 o2 : Obj) (n : Nat) : Below w.heap.size w (((w.alloc o1).alloc o2).drewN n) := by
  have h := ((Below.refl w.heap.size w).alloc (Nat.le_refl _) o1).alloc (by simp) o2
  exact ⟨h.os, h.tape, h.output, h.size, h.block⟩

set_option maxHeartbeats 1000000 in
theorem same_any (v x : Val) (hv : v.f < 18446744073709551616) (hx : x.f < 18446744073709551616) (w : World) :
    Calls Try.prog 19 #[aggV v, aggV x] w fun e w' => e = .returned (.bool (sameV v x)) ∧ Below w.heap.size w w' := by
  obtain ⟨k, u, i, f, s⟩ := v
  obtain ⟨k', u', i', f', s'⟩ := x
  simp only at hv hx
  by_cases h1 : k = k'
  · by_cases h2 : u = u'
    · by_cases h3 : i = i'
      · by_cases h4 : s = s'
        · have e1 : (k == k') = true := by simpa using h1
          have e2 : (u == u') = true := by simpa using h2
          have e3 : (i == i') = true := by simpa using h3
          have e4 : (s.toList == s'.toList) = true := by rw [str_same]; simpa using h4
          have HR : Hid (sameV ⟨k, u, i, f, s⟩ ⟨k', u', i', f', s'⟩ = (usu f == usu f')) := Lib.hid (by simp [sameV, h1, h2, h3, h4])
          have HF := Lib.hid (bits2_any f hv)
          have HG := Lib.hid (bits2_any f' hx)
          clear h1 h2 h3 h4
          generalize usu f = q at *
          generalize usu f' = q' at *
          go_enter Try.func19, Try.ntmps19
          go_wp2_with fail
          go_quiet ((go_at_call 26; first | exact Calls.quiet_of_same (HF.out _) | exact Calls.quiet_of_same (HG.out _)))
          go_wp2_with fail
          go_ret
          refine ⟨?_, boxes w _ _ _⟩
          rw [HR.out]
          show Ending.returned (.bool ((q : Int) == (q' : Int))) = _
          exact ret_bool (by rw [Bool.eq_iff_iff, beq_iff_eq, beq_iff_eq]; omega)
        · have e1 : (k == k') = true := by simpa using h1
          have e2 : (u == u') = true := by simpa using h2
          have e3 : (i == i') = true := by simpa using h3
          have e4 : (s.toList == s'.toList) = false := by rw [str_same]; simpa using h4
          have HR : Hid (sameV ⟨k, u, i, f, s⟩ ⟨k', u', i', f', s'⟩ = false) := Lib.hid (by simp [sameV, h4])
          clear h1 h2 h3 h4
          go_enter Try.func19, Try.ntmps19
          go_wp2_with fail
          go_quiet (fail)
          go_wp2_with fail
          go_ret
          exact ⟨by rw [HR.out]; rfl, boxes w _ _ _⟩
      · have e1 : (k == k') = true := by simpa using h1
        have e2 : (u == u') = true := by simpa using h2
        have e3 : (i == i') = false := by simpa using h3
        have HR : Hid (sameV ⟨k, u, i, f, s⟩ ⟨k', u', i', f', s'⟩ = false) := Lib.hid (by simp [sameV, h3])
        clear h1 h2 h3
        go_enter Try.func19, Try.ntmps19
        go_wp2_with fail
        go_quiet (fail)
        go_wp2_with fail
        go_ret
        exact ⟨by rw [HR.out]; rfl, boxes w _ _ _⟩
    · have e1 : (k == k') = true := by simpa using h1
      have e2 : (u == u') = false := by simpa using h2
      have HR : Hid (sameV ⟨k, u, i, f, s⟩ ⟨k', u', i', f', s'⟩ = false) := Lib.hid (by simp [sameV, h2])
      clear h1 h2
      go_enter Try.func19, Try.ntmps19
      go_wp2_with fail
      go_quiet (fail)
      go_wp2_with fail
      go_ret
      exact ⟨by rw [HR.out]; rfl, boxes w _ _ _⟩
  · have e1 : (k == k') = false := by simpa using h1
    have HR : Hid (sameV ⟨k, u, i, f, s⟩ ⟨k', u', i', f', s'⟩ = false) := Lib.hid (by simp [sameV, h1])
    clear h1
    go_enter Try.func19, Try.ntmps19
    go_wp2_with fail
    go_quiet (fail)
    go_wp2_with fail
    go_ret
    exact ⟨by rw [HR.out]; rfl, boxes w _ _ _⟩

theorem sameL_len (l : List Val) : ∀ m, l.length ≠ m.length → sameL l m = false := by
  induction l with
  | nil => intro m h; cases m <;> simp_all [sameL]
  | cons v l ih =>
    intro m h
    cases m with
    | nil => simp [sameL]
    | cons x m => simp [sameL, ih m (by simpa using h)]
theorem sameL_step (l : List Val) : ∀ (m : List Val) (k : Nat) (v x : Val), l.length = m.length → l[k]? = some v → m[k]? = some x → sameL (l.take k) (m.take k) = true →
    (sameV v x = true → sameL (l.take (k + 1)) (m.take (k + 1)) = true) ∧ (sameV v x = false → sameL l m = false) := by
  induction l with
  | nil => intro m k v x _ h; simp at h
  | cons a l ih =>
    intro m k v x hl h1 h2 h3
    cases m with
    | nil => simp at hl
    | cons b m =>
      cases k with
      | zero =>
        simp at h1 h2
        subst h1 h2
        refine ⟨fun h => by simp [sameL, h], fun h => by simp [sameL, h]⟩
      | succ k =>
        simp only [List.take_succ_cons, sameL, Bool.and_eq_true] at h3
        have := ih m k v x (by simpa using hl) (by simpa using h1) (by simpa using h2) h3.2
        refine ⟨fun h => by simp [sameL, h3.1, this.1 h], fun h => by simp [sameL, this.2 h]⟩

theorem all_len (A A' : Option Addr) (n m c c' : Nat) (h : n ≠ m) (w : World) :
    Calls Try.prog 15 #[.slice A n c, .slice A' m c'] w fun e w' => e = .returned (.bool false) ∧ Below w.heap.size w w' := by
  have h1 : ((n : Int) != (m : Int)) = true := by simpa using (by omega : ¬ (n : Int) = m)
  go_enter Try.func15, Try.ntmps15
  go_wp2_with fail
  go_ret
  exact ⟨rfl, Below.refl _ _⟩

theorem all_same (B B' : Nat) (A A' : Option Addr) (c c' : Nat) (l m : List Val) (w : World) (hl : l.length = m.length) (hlm : l.length ≤ 9223372036854775807) (hw1 : ∀ v ∈ l, v.f < 18446744073709551616) (hw2 : ∀ v ∈ m, v.f < 18446744073709551616)
    (hs : SeesV w B A l) (hs' : SeesV w B' A' m) (hB : B ≤ w.heap.size) (hB' : B' ≤ w.heap.size) (hc : l.length ≤ c) (hc' : m.length ≤ c') (hm : c ≤ 9223372036854775807) (hm' : c' ≤ 9223372036854775807) :
    Calls Try.prog 15 #[.slice A l.length c, .slice A' m.length c'] w fun e w' => e = .returned (.bool (sameL l m)) ∧ Below w.heap.size w w' := by
  have HS := Lib.hid hs
  have HS' := Lib.hid hs'
  have HW1 := Lib.hid hw1
  have HW2 := Lib.hid hw2
  have HL := Lib.hid hl
  have hne : ((l.length : Int) != (m.length : Int)) = false := by simpa using (by omega : (l.length : Int) = (m.length : Int))
  have hle : l.length ≤ m.length := by omega
  have hge : m.length ≤ l.length := by omega
  clear hs hs' hw1 hw2 hl
  go_enter Try.func15, Try.ntmps15
  go_wp2_with fail
  go_loopw [5] (fun i wr => ∃ k : Nat, k ≤ l.length ∧ i = .int .i64 (k : Int) ∧ Below w.heap.size w wr ∧ sameL (l.take k) (m.take k) = true) (fun i _ => l.length - (intOf i).toNat)
  case atStart => exact ⟨0, by omega, rfl, Below.refl _ _, rfl⟩
  case round =>
    obtain ⟨k, hk, rfl, hbel, hsm⟩ := hrel
    have HB := Lib.hid hbel
    have HM := Lib.hid hsm
    clear hbel hsm
    by_cases hlt : k < l.length
    · obtain ⟨v, hv⟩ : ∃ v, l[k]? = some v := ⟨_, List.getElem?_eq_getElem hlt⟩
      obtain ⟨x, hx⟩ : ∃ x, m[k]? = some x := ⟨_, List.getElem?_eq_getElem (by omega)⟩
      obtain ⟨b0, off, rfl, hb, hc0⟩ := HS.out.cell hv
      obtain ⟨b0', off', rfl, hb', hc0'⟩ := HS'.out.cell hx
      have cell : ∀ j u, j < 5 → (cellsV v)[j]? = some u → wr.cell? ⟨b0, off + k * 5 + j, none⟩ = some u := fun j u hj hu => (HB.out.cell (p := ⟨b0, _, none⟩) (show b0 < w.heap.size by omega)).trans (hc0 j u hj hu)
      have cell' : ∀ j u, j < 5 → (cellsV x)[j]? = some u → wr.cell? ⟨b0', off' + k * 5 + j, none⟩ = some u := fun j u hj hu => (HB.out.cell (p := ⟨b0', _, none⟩) (show b0' < w.heap.size by omega)).trans (hc0' j u hj hu)
      have c0 : wr.cell? ⟨b0, off + k * 5, none⟩ = _ := cell 0 _ (by omega) rfl
      have c1 := cell 1 _ (by omega) rfl
      have c2 := cell 2 _ (by omega) rfl
      have c3 := cell 3 _ (by omega) rfl
      have c4 := cell 4 _ (by omega) rfl
      have d0 : wr.cell? ⟨b0', off' + k * 5, none⟩ = _ := cell' 0 _ (by omega) rfl
      have d1 := cell' 1 _ (by omega) rfl
      have d2 := cell' 2 _ (by omega) rfl
      have d3 := cell' 3 _ (by omega) rfl
      have d4 := cell' 4 _ (by omega) rfl
      have hst := sameL_step l m k v x HL.out hv hx HM.out
      have HC := Lib.hid (same_any v x (HW1.out v (List.mem_of_getElem? hv)) (HW2.out x (List.mem_of_getElem? hx)))
      have HST := Lib.hid hst
      clear cell cell' hc0 hc0' hv hx hst
      have hkm : (k : Int) < (m.length : Int) := by omega
      have hkl : (k : Int) < (l.length : Int) := by omega
      go_wp2_with fail
      go_still_tail 8, (by kernel_rfl)
      have HB1 := Lib.hid HB.out.drew
      change wpList _ _ _ _ _ wr.drew
      generalize wr.drew = w1 at *
      cases hsv : sameV v x with
      | true =>
        have HT := Lib.hid (HST.out.1 hsv)
        rw [hsv] at HC
        clear hsv
        go_wp2_with fail
        refine (HC.out _).mono ?_
        rintro e w2 ⟨rfl, hb2⟩
        have HB2 := Lib.hid (HB1.out.trans (hb2.mono HB1.out.size))
        clear hb2
        go_wp2_with fail
        go_roundw
        case rel => exact ⟨k + 1, by omega, by go_num, HB2.out, HT.out⟩
        case measure => simp [intOf]; omega
      | false =>
        have HT := Lib.hid (HST.out.2 hsv)
        rw [hsv] at HC
        clear hsv
        go_wp2_with fail
        refine (HC.out _).mono ?_
        rintro e w2 ⟨rfl, hb2⟩
        have HB2 := Lib.hid (HB1.out.trans (hb2.mono HB1.out.size))
        clear hb2
        go_wp2_with fail
        go_ret
        exact ⟨by rw [HT.out]; rfl, HB2.out⟩
    · have hkl : k = l.length := by omega
      have HT : Hid (sameL l m = true) := by
        have := HM.out
        rw [hkl, List.take_length, HL.out, List.take_length] at this
        exact Lib.hid this
      go_wp2_with fail
      go_ret
      exact ⟨by rw [HT.out]; rfl, HB.out⟩

theorem all_any (B B' : Nat) (A A' : Option Addr) (c c' : Nat) (l m : List Val) (w : World) (hlm : l.length ≤ 9223372036854775807) (hw1 : ∀ v ∈ l, v.f < 18446744073709551616) (hw2 : ∀ v ∈ m, v.f < 18446744073709551616)
    (hs : SeesV w B A l) (hs' : SeesV w B' A' m) (hB : B ≤ w.heap.size) (hB' : B' ≤ w.heap.size) (hc : l.length ≤ c) (hc' : m.length ≤ c') (hm : c ≤ 9223372036854775807) (hm' : c' ≤ 9223372036854775807) :
    Calls Try.prog 15 #[.slice A l.length c, .slice A' m.length c'] w fun e w' => e = .returned (.bool (sameL l m)) ∧ Below w.heap.size w w' := by
  by_cases h : l.length = m.length
  · exact all_same B B' A A' c c' l m w h hlm hw1 hw2 hs hs' hB hB' hc hc' hm hm'
  · rw [sameL_len l m h]; exact all_len A A' _ _ c c' h w

/-- Not too many values, with not too long texts. -/
def fewB (l : List Val) : Bool := decide (l.length ≤ 2000) && l.all fun v => decide (v.s.size ≤ 3000)
theorem few_any (B : Nat) (A : Option Addr) (c : Nat) (l : List Val) (w : World) (hs : SeesV w B A l) (hB : B ≤ w.heap.size) (hc : l.length ≤ c) (hm : c ≤ 9223372036854775807) :
    Calls Try.prog 11 #[.slice A l.length c] w fun e w' => e = .returned (.bool (fewB l)) ∧ w' = w := by
  by_cases h : l.length ≤ 2000
  · have hd : decide ((2000 : Int) < (l.length : Int)) = false := by simpa using (by omega : (l.length : Int) ≤ 2000)
    have HS := Lib.hid hs
    clear hs
    go_enter Try.func11, Try.ntmps11
    go_wp2_with fail
    go_loop [3] (fun i => ∃ k : Nat, k ≤ l.length ∧ i = .int .i64 (k : Int) ∧ (l.take k).all (fun v => decide (v.s.size ≤ 3000)) = true) (fun i => l.length - (intOf i).toNat)
    case atStart => exact ⟨0, by omega, rfl, rfl⟩
    case round =>
      obtain ⟨k, hk, rfl, hall⟩ := hrel
      have HA := Lib.hid hall
      clear hall
      by_cases hlt : k < l.length
      · obtain ⟨v, hv⟩ : ∃ v, l[k]? = some v := ⟨_, List.getElem?_eq_getElem hlt⟩
        obtain ⟨b0, off, rfl, hb, hc0⟩ := HS.out.cell hv
        have c4 := hc0 4 _ (by omega) rfl
        have HV := Lib.hid hv
        clear hc0 hv
        by_cases h3 : v.s.size ≤ 3000
        · have HT : Hid ((l.take (k + 1)).all (fun v => decide (v.s.size ≤ 3000)) = true) := by
            refine Lib.hid ?_
            have hl := List.getElem?_eq_some_iff.1 HV.out
            rw [List.take_succ_eq_append_getElem hl.1, hl.2, List.all_append, HA.out]
            simp [h3]
          go_wp2_with fail
          go_round
          case rel => exact ⟨k + 1, by omega, by go_num, HT.out⟩
          case measure => simp [intOf]; omega
        · have HF : Hid (fewB l = false) := by
            refine Lib.hid ?_
            unfold fewB
            rw [Bool.and_eq_false_iff]
            right
            rw [List.all_eq_false]
            exact ⟨v, List.mem_of_getElem? HV.out, by simpa using h3⟩
          go_wp2_with fail
          go_ret
          exact ⟨by rw [HF.out]; rfl, rfl⟩
      · have hkl : k = l.length := by omega
        have HF : Hid (fewB l = true) := by
          refine Lib.hid ?_
          have := HA.out
          rw [hkl, List.take_length] at this
          unfold fewB
          rw [this]; simpa using h
        go_wp2_with fail
        go_ret
        exact ⟨by rw [HF.out]; rfl, rfl⟩
  · have HF : Hid (fewB l = false) := Lib.hid (by unfold fewB; simp [h])
    go_enter Try.func11, Try.ntmps11
    go_wp2_with fail
    go_ret
    exact ⟨by rw [HF.out]; rfl, rfl⟩
end Go.Proofs.Ytmaeacklloaeaaa
