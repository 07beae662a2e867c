/- Contracts at layer 13, of the program's calls on one key's row: keeps, eldest, younger, give. -/
import Derived.Test.YtcjefigcaifmeaaLokR
namespace Go.Proofs.Ytcjefigcaifmeaa
open Go.RowKit Go.Lk
set_option linter.unusedVariables false
set_option linter.unusedSimpArgs false
set_option maxRecDepth 100000

theorem hF_at {f : Lk.Fn} {x : Int} {c : Hd} (h : hF f x = some c) : c.tx = x ∧ f x = some c.b ∧ fl f x = c.b := by
  unfold hF at h
  unfold fl
  cases hc : f x with
  | none => rw [hc] at h; cases h
  | some b => rw [hc] at h; injection h with h; subst h; exact ⟨rfl, rfl, rfl⟩
theorem apB_iff {f : Lk.Fn} {x : Int} {b : Bool} {y : Int} {c : Bool} (h : f y = some c) : apB x b y c = true → Blk f x b := fun e => by
  unfold apB at e
  simp only [Bool.and_eq_true, bne_iff_ne, ne_eq, Bool.or_eq_true] at e
  exact ⟨y, c, e.1, h, e.2⟩
theorem below_off {b0 r : Nat} {w w' : World} (h : Off (fun b => b = r) w w') (hb : b0 ≤ w.heap.size) (hr : b0 ≤ r) : Below b0 w w' := h.below hb fun k hk => by subst hk; exact hr
set_option maxHeartbeats 2000000 in
theorem keeps_any (p : Option Nat × Option Nat) (f : Lk.Fn) (x : Int) (b : Bool) (w : World) (h : Moh w p.1 f) :
    Calls Try.prog 42 #[rE p, hE ⟨x, b⟩] w fun e w' => ∃ v : Bool, e = .returned (.bool v) ∧ (v = true ↔ Blk f x b) ∧ Below w.heap.size w w' := by
  obtain ⟨o1, o2⟩ := p
  have HM := Lib.hid h
  have HF := Lib.hid (fin_hF h.fin)
  have HAP := Lib.hid (fun w0 => apart_any x b w0)
  have HA1 := Lib.hid (fun p y c w0 hp => apart1_any x b p y c w0 hp)
  clear h
  go_enter Try.func42, Try.ntmps42
  go_wp2_with fail
  refine (HAP.out _).mono ?_
  rintro e w1 ⟨rfl, hw1⟩
  obtain ⟨p9, hp9⟩ : ∃ p9, p9 = ((w.alloc (.cells #[.map o1, .map o2] 63)).alloc (.cells #[.int .i64 x, .bool b] 60)).heap.size := ⟨_, rfl⟩
  have HK0 : Hid (Whole w1 w.heap.size 63 #[.map o1, .map o2] ∧ Whole w1 p9 60 #[.int .i64 x, .bool b] ∧ Below w.heap.size w w1 ∧ w.heap.size ≤ p9) := Lib.hid (by
    rw [hw1]
    refine ⟨((Whole.fresh w _ _).alloc _).alloc _, hp9 ▸ Whole.fresh _ _ _, (((Below.refl _ _).alloc (Nat.le_refl _) _).alloc (by simp) _).alloc (by simp; omega) _, by rw [hp9]; simp; omega⟩)
  rw [← hp9]
  clear hw1 hp9
  obtain ⟨hk1, hk2, hb1, hpl⟩ := HK0.out
  have HP := Lib.hid hk2
  have HB1 := Lib.hid hb1
  have c0 := hk1.cell 0
  have c1 := hk1.cell 1
  have cz := hk1.lt
  simp only [List.getElem?_toArray, List.getElem?_cons_zero, List.getElem?_cons_succ] at c0 c1
  have HM1 := Lib.hid (HM.out.call hb1)
  clear hk1 hk2 hb1 HK0
  go_wp2_with (first
    | (at_range; refine wpList_range_mo _ rfl _ 61 rfl 60 Try.underlying61 rfl HM1.out ?_; intro w0 hrg0 hb0 hs0)
    | go_in)
  go_frame
  go_loopw [7] (fun v wr => ∃ (cnt : Nat) (L : List Int), Ro hE wr o1 w1.heap.size (hF f) L cnt ∧ (∀ y ∈ L, ∀ c, f y = some c → apB x b y c = false) ∧ Below w.heap.size w wr ∧ Whole wr p9 60 #[.int .i64 x, .bool b])
    (fun _ wr => leftO o1 w1.heap.size wr)
  case atStart => exact ⟨_, [], hrg0, (fun y hy => by cases hy), HB1.out.trans (hb0.mono HB1.out.size), HP.out.below hb0 HP.out.lt⟩
  case round =>
    obtain ⟨cnt, L, hrg, hno, hb, hpw⟩ := hrel
    have HB := Lib.hid hb
    have HR := Lib.hid hrg
    have HNO := Lib.hid hno
    have HPW := Lib.hid hpw
    clear hrg hb hrg0 hb0 hs0 hno hpw c0 c1 cz HP
    go_wp2_with (first
      | (at_next; refine wpList_next_mo _ hE_inj rfl _ rfl w1.heap.size cnt L rfl HR.out ?_ ?_)
      | go_in)
    · intro hc0 hnd hmem
      have HME := Lib.hid hmem
      clear hmem hnd
      go_wp2_with fail
      go_ret
      refine ⟨false, rfl, ⟨fun h => (by cases h), fun ⟨y, c, h1, h2, h3⟩ => ?_⟩, HB.out⟩
      have hy := (HME.out y).2 (by rw [hF_some, h2]; rfl)
      have := HNO.out y hy c h2
      unfold apB at this
      simp only [Bool.and_eq_false_iff, bne_eq_false_iff_eq, Bool.or_eq_false_iff] at this
      rcases this with h4 | ⟨h4, h5⟩
      · exact absurd h4 h1
      · rcases h3 with h3 | h3
        · rw [h4] at h3; cases h3
        · rw [h5] at h3; cases h3
    · intro y c w2 cnt2 hfx hx hx64 hrg2 hlt hof hsz hen
      obtain ⟨ht, hfy, -⟩ := hF_at hfx
      obtain ⟨y0, c⟩ := c
      simp only at ht hfy
      subst ht
      have HFY := Lib.hid hfy
      have hge : w.heap.size ≤ w1.heap.size := HB1.out.size
      have hb2 : Below w.heap.size w w2 := HB.out.trans (below_off hof HB.out.size hge)
      have HB3 := Lib.hid (hb2.alloc hb2.size (.cells #[.int .i64 y0, .bool c] 60))
      have HR3 := Lib.hid (hrg2.call ((Below.refl _ _).alloc (Nat.le_refl _) (.cells #[.int .i64 y0, .bool c] 60)))
      have HP3 : Hid (Whole (w2.alloc (.cells #[.int .i64 y0, .bool c] 60)) p9 60 #[.int .i64 x, .bool b]) := Lib.hid ((hof.whole HPW.out fun e => HR.out.notCells HPW.out e.symm).alloc _)
      have HC := Lib.hid (HA1.out p9 y0 c _ HP3.out)
      have hs2 := hb2.size
      clear hfx hof hsz hb2 hrg2 hfy
      cases hap : apB x b y0 c with
      | true =>
        rw [hap] at HC
        have HAP2 := Lib.hid hap
        clear hap
        go_wp2_with fail
        refine HC.out.mono ?_
        rintro e w3 ⟨rfl, hb3⟩
        have HB4 := Lib.hid (HB3.out.trans (hb3.mono HB3.out.size))
        clear hb3
        go_wp2_with fail
        go_ret
        exact ⟨true, rfl, ⟨fun _ => apB_iff HFY.out HAP2.out, fun _ => rfl⟩, HB4.out⟩
      | false =>
        rw [hap] at HC
        have HAP2 := Lib.hid hap
        clear hap
        go_wp2_with fail
        refine HC.out.mono ?_
        rintro e w3 ⟨rfl, hb3⟩
        have HB4 := Lib.hid (HB3.out.trans (hb3.mono HB3.out.size))
        have HR4 := Lib.hid (HR3.out.call hb3)
        have HP4 := Lib.hid (HP3.out.below hb3 HP3.out.lt)
        clear hb3
        go_wp2_with fail
        go_roundw
        case rel => exact ⟨cnt2, L ++ [y0], HR4.out, fun z hz c2 hc2 => (by
          rcases List.mem_append.1 hz with hz | hz
          · exact HNO.out z hz c2 hc2
          · rw [List.mem_singleton.1 hz] at hc2 ⊢
            rw [HFY.out] at hc2
            injection hc2 with hc2
            rw [← hc2]
            exact HAP2.out), HB4.out, HP4.out⟩
        case measure => rw [HR4.out.measure, HR.out.measure]; exact hlt

/-! ### The eldest one -/
theorem eld_head {f : Lk.Fn} (hf : Fin1 f) {m : Int} (hm : (f m).isSome = true) (hmin : ∀ y, (f y).isSome = true → m ≤ y) : ∃ l, rowOf f = (m, fl f m) :: l := by
  have hmem := (supp_mem hf m).2 hm
  have hr := supp_rises hf
  unfold rowOf
  cases hs : supp f with
  | nil => rw [hs] at hmem; cases hmem
  | cons a l =>
    rw [hs] at hmem hr
    have ha : (f a).isSome = true := (supp_mem hf a).1 (by rw [hs]; exact List.mem_cons_self ..)
    have h1 := hmin a ha
    have : a = m := by
      rcases List.mem_cons.1 hmem with e | e
      · exact e.symm
      · have := (List.pairwise_cons.1 hr).1 m e; omega
    subst this
    exact ⟨_, rfl⟩
def hd0 : List (Int × Bool) → Hd
  | [] => ⟨0, false⟩
  | p :: _ => ⟨p.1, p.2⟩
def ne0 : List (Int × Bool) → Bool
  | [] => false
  | _ :: _ => true
/-- The least one so far. -/
def Least (L : List Int) (m : Int) : Prop := (L = [] ∧ m = 0) ∨ (m ∈ L ∧ ∀ y ∈ L, m ≤ y)
theorem Least.step {L : List Int} {m y : Int} (h : Least L m) (h1 : ∀ z ∈ L, 1 ≤ z) : Least (L ++ [y]) (if m = 0 ∨ y < m then y else m) := by
  rcases h with ⟨rfl, rfl⟩ | ⟨h2, h3⟩
  · rw [if_pos (.inl rfl)]
    exact .inr ⟨by simp, fun z hz => by simp at hz; omega⟩
  · have := h1 m h2
    by_cases c : y < m
    · rw [if_pos (.inr c)]
      exact .inr ⟨by simp, fun z hz => by
        rcases List.mem_append.1 hz with hz | hz
        · have := h3 z hz; omega
        · rw [List.mem_singleton.1 hz]; omega⟩
    · rw [if_neg (by omega)]
      exact .inr ⟨List.mem_append.2 (.inl h2), fun z hz => by
        rcases List.mem_append.1 hz with hz | hz
        · exact h3 z hz
        · rw [List.mem_singleton.1 hz]; omega⟩
set_option maxHeartbeats 2000000 in
theorem eldest_any (p : Option Nat × Option Nat) (f : Lk.Fn) (w : World) (h : Moh w p.2 f) (h1 : ∀ x, (f x).isSome = true → 1 ≤ x) :
    Calls Try.prog 41 #[rE p] w fun e w' => e = .returned (.tuple #[hE (hd0 (rowOf f)), .bool (ne0 (rowOf f))]) ∧ Below w.heap.size w w' := by
  obtain ⟨o1, o2⟩ := p
  have HM := Lib.hid h
  have HF := Lib.hid (fin_hF h.fin)
  have HB0 := Lib.hid (((Below.refl w.heap.size w).alloc (Nat.le_refl _) (.cells #[.map o1, .map o2] 63)).alloc (by simp) (.cells #[.int .i64 0, .bool false] 60))
  have HKR : Hid (Whole ((w.alloc (.cells #[.map o1, .map o2] 63)).alloc (.cells #[.int .i64 0, .bool false] 60)) w.heap.size 63 #[.map o1, .map o2]) := Lib.hid ((Whole.fresh w _ _).alloc _)
  have HKA : Hid (Whole ((w.alloc (.cells #[.map o1, .map o2] 63)).alloc (.cells #[.int .i64 0, .bool false] 60)) (w.heap.size + 1) 60 #[.int .i64 0, .bool false]) := Lib.hid (by simpa using Whole.fresh (w.alloc (.cells #[.map o1, .map o2] 63)) 60 #[.int .i64 0, .bool false])
  have HM1 := Lib.hid (HM.out.call HB0.out)
  clear h
  go_enter Try.func41, Try.ntmps41
  have hr0 : ((w.alloc (.cells #[.map o1, .map o2] 63)).alloc (.cells #[.int .i64 0, .bool false] 60)).heap.size = w.heap.size + 1 + 1 := by simp
  go_wp2_with (first
    | (at_range; refine wpList_range_mo _ rfl _ 61 rfl 60 Try.underlying61 rfl HM1.out ?_; intro w0 hrg0 hb0 hs0; rw [hr0] at hrg0)
    | go_in)
  clear hs0
  try go_frame
  go_loopw [4] (fun v wr => ∃ (cnt : Nat) (L : List Int) (m : Int), v = .int .i64 m ∧ Least L m ∧ Ro hE wr o2 (w.heap.size + 1 + 1) (hF f) L cnt ∧ Below w.heap.size w wr ∧ Whole wr w.heap.size 63 #[.map o1, .map o2] ∧ Whole wr (w.heap.size + 1) 60 #[.int .i64 0, .bool false])
    (fun _ wr => leftO o2 (w.heap.size + 1 + 1) wr)
  case atStart => exact ⟨_, [], 0, rfl, .inl ⟨rfl, rfl⟩, hrg0, HB0.out.trans (hb0.mono HB0.out.size), HKR.out.below hb0 HKR.out.lt, HKA.out.below hb0 HKA.out.lt⟩
  case round =>
    obtain ⟨cnt, L, m, rfl, hle, hrg, hb, hk, hka⟩ := hrel
    have HB := Lib.hid hb
    have HR := Lib.hid hrg
    have HLE := Lib.hid hle
    have HK := Lib.hid hk
    have HA := Lib.hid hka
    have H1 : Hid (∀ z ∈ L, 1 ≤ z) := Lib.hid fun z hz => h1 z (by rw [← hF_some]; exact hrg.sub.2 z hz)
    have H64 : Hid (∀ z ∈ L, W64 z) := Lib.hid fun z hz => HM.out.key64 (hrg.sub.2 z hz)
    clear hrg hb hrg0 hb0 hle hk hka HKR HKA HM1
    go_wp2_with (first
      | (at_next; refine wpList_next_mo _ hE_inj rfl _ rfl (w.heap.size + 1 + 1) cnt L rfl HR.out ?_ ?_)
      | go_in)
    · intro hc0 hnd hmem
      have k0 := HK.out.cell 0
      have k1 := HK.out.cell 1
      have kz := HK.out.lt
      have a0 := HA.out.cell 0
      have a1 := HA.out.cell 1
      have af0 := HA.out.free 0
      have af1 := HA.out.free 1
      have az := HA.out.lt
      simp only [List.getElem?_toArray, List.getElem?_cons_zero, List.getElem?_cons_succ] at k0 k1 a0 a1
      have hm64 : W64 m := by
        rcases HLE.out with ⟨-, rfl⟩ | ⟨h, -⟩
        · unfold W64; omega
        · exact H64.out m h
      have HMW := Lib.hid (HM.out.call HB.out)
      have hl := (HMW.out.look hE_inj Try.underlying61 (zero_hE _) hm64).1
      have hres : (hF f m).getD ⟨0, false⟩ = hd0 (rowOf f) ∧ (hF f m).isSome = ne0 (rowOf f) := by
        rcases HLE.out with ⟨rfl, rfl⟩ | ⟨hm, hmin⟩
        · have hs : supp f = [] := supp_eq List.Pairwise.nil fun x => by rw [← hF_some, ← hmem]
          have h0 : hF f 0 = none := none_of fun h => by
            have := h1 0 (by rw [← hF_some]; exact h)
            omega
          unfold rowOf
          rw [hs, h0]
          exact ⟨rfl, rfl⟩
        · have hs := (hmem m).1 hm
          obtain ⟨l, hl⟩ := eld_head HF.out (by rw [← hF_some]; exact hs) fun y hy => hmin y ((hmem y).2 (by rw [hF_some]; exact hy))
          rw [hl, hs]
          obtain ⟨c, hc⟩ := some_of hs
          obtain ⟨e1, -, e3⟩ := hF_at hc
          rw [hc]
          refine ⟨?_, rfl⟩
          show c = ⟨m, fl f m⟩
          rw [e3, ← e1]
      rw [hres.1, hres.2] at hl
      obtain ⟨hd, hhd⟩ : ∃ hd, hd0 (rowOf f) = hd := ⟨_, rfl⟩
      obtain ⟨nb, hnb⟩ : ∃ nb, ne0 (rowOf f) = nb := ⟨_, rfl⟩
      rw [hhd, hnb] at hl
      have HHD := Lib.hid hhd
      have HNB := Lib.hid hnb
      clear hres hmem hnd HK HMW hhd hnb
      obtain ⟨tx, bb⟩ := hd
      have HB9 := Lib.hid (((HB.out.setCell (p := ⟨w.heap.size + 1, 0, none⟩) (Nat.le_succ _) (.int .i64 tx)).setCell (p := ⟨w.heap.size + 1, 1, none⟩) (Nat.le_succ _) (.bool bb)).alloc (by have := HB.out.size; simp; omega) (.cells #[.int .i64 tx, .bool bb] 60))
      go_wp2_with fail
      refine bodyPost_ret (by simp [results, Try.results41, go_sem, a0, a1, af0, af1, az]; try rfl) rfl ?_
      rw [HHD.out, HNB.out]
      exact ⟨rfl, HB9.out⟩
    · intro y c w2 cnt2 hfx hx hx64 hrg2 hlt hof hsz hen
      obtain ⟨ht, hfy, -⟩ := hF_at hfx
      obtain ⟨y0, c⟩ := c
      simp only at ht hfy
      subst ht
      have HB3 := Lib.hid (HB.out.trans (below_off hof HB.out.size (by omega)))
      have HR3 := Lib.hid hrg2
      have HK3 : Hid (Whole w2 w.heap.size 63 #[.map o1, .map o2]) := Lib.hid (hof.whole HK.out fun e => by omega)
      have HA3 : Hid (Whole w2 (w.heap.size + 1) 60 #[.int .i64 0, .bool false]) := Lib.hid (hof.whole HA.out fun e => by omega)
      have HLE3 := Lib.hid (HLE.out.step (y := y0) H1.out)
      clear hfx hof hsz hrg2 hfy
      by_cases hm0 : m = 0
      · rw [if_pos (.inl hm0)] at HLE3
        subst hm0
        go_wp2_with fail
        go_roundw
        case rel => exact ⟨cnt2, L ++ [y0], y0, rfl, HLE3.out, HR3.out, HB3.out, HK3.out, HA3.out⟩
        case measure => rw [HR3.out.measure, HR.out.measure]; exact hlt
      · have q0 : (m == 0) = false := by simpa using hm0
        by_cases hlt2 : y0 < m
        · rw [if_pos (.inr hlt2)] at HLE3
          go_wp2_with fail
          go_roundw
          case rel => exact ⟨cnt2, L ++ [y0], y0, rfl, HLE3.out, HR3.out, HB3.out, HK3.out, HA3.out⟩
          case measure => rw [HR3.out.measure, HR.out.measure]; exact hlt
        · rw [if_neg (by omega)] at HLE3
          go_wp2_with fail
          go_roundw
          case rel => exact ⟨cnt2, L ++ [y0], m, rfl, HLE3.out, HR3.out, HB3.out, HK3.out, HA3.out⟩
          case measure => rw [HR3.out.measure, HR.out.measure]; exact hlt
end Go.Proofs.Ytcjefigcaifmeaa
