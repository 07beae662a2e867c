/- Contracts at layer 10: the document's Is; the program's isStamp, raise, New, Keep, Last, Next, Wait. A source in memory. -/
import Derived.Test.YtjpalcolhagpcaaClkX
import Derived.Test.YtjpalcolhagpcaaOpen
import Derived.Test.YtjpalcolhagpcaaStmpM
namespace Go.Proofs.Ytjpalcolhagpcaa
open Go.RowKit Go.Sp Go.Fl Go.Ck Go.Tp
set_option linter.unusedVariables false
set_option linter.unusedSimpArgs false
set_option maxRecDepth 100000

/-! ### Whole numbers in a row -/
def encI (v : Int) : List Value := [.int .i64 v]
theorem encI_len (v : Int) : (encI v).length = 1 := rfl
def ints (l : List Int) : List Value := l.map fun n => .int .i64 n
theorem ints_length (l : List Int) : (ints l).length = l.length := by unfold ints; simp
theorem ints_at (l : List Int) (k : Nat) (n : Int) (h : l[k]? = some n) : (ints l)[k]? = some (.int .i64 n) := by unfold ints; simp [h]
theorem ints_append (l m : List Int) : ints (l ++ m) = ints l ++ ints m := by unfold ints; simp
theorem ints_take (l : List Int) (k : Nat) : (ints l).take k = ints (l.take k) := by unfold ints; simp [List.map_take]
theorem ints_one (l : List Int) : ∀ u ∈ ints l, u.oneCell' = true := by
  intro u hu
  unfold ints at hu
  obtain ⟨n, -, rfl⟩ := List.mem_map.1 hu
  rfl
theorem flat_ints (l : List Int) : flat encI l = ints l := by
  unfold flat encI ints
  induction l with
  | nil => rfl
  | cons a l ih => rw [List.flatMap_cons, ih]; rfl
/-- A row of whole numbers: what a slice shows. -/
structure Rw (w : World) (A : Option Addr) (cap : Nat) (l : List Int) : Prop where
  sees : Sees w w.heap.size 1 A l.length (ints l)
  room : l.length ≤ cap
  top : cap ≤ 9223372036854775807
  nil : A = none → cap = 0
theorem Rw.call {w w' : World} {A : Option Addr} {cap : Nat} {l : List Int} (h : Rw w A cap l) (hb : Below w.heap.size w w') : Rw w' A cap l := ⟨(h.sees.below hb).more hb.size, h.room, h.top, h.nil⟩
theorem Rw.none (w : World) : Rw w none 0 [] := ⟨Sees.nothing _ _ _ _, Nat.le_refl _, by omega, fun _ => rfl⟩
theorem Rw.cell {w : World} {A : Option Addr} {cap : Nat} {l : List Int} (h : Rw w A cap l) (k : Nat) (n : Int) (hn : l[k]? = some n) : ∃ b off, A = some ⟨b, off, Option.none⟩ ∧ b < w.heap.size ∧ w.cell? ⟨b, off + k, Option.none⟩ = some (.int .i64 n) := by
  have hk := (List.getElem?_eq_some_iff.1 hn).1
  obtain ⟨b, off, h1, h2, h3⟩ := h.sees.2 (by omega)
  exact ⟨b, off, h1, h2, h3 k _ (ints_at l k n hn)⟩
theorem Rw.first {w : World} {A : Option Addr} {cap : Nat} {l : List Int} (h : Rw w A cap l) (k : Nat) (hk : k ≤ l.length) : Rw w A cap (l.take k) := by
  have hz : (l.take k).length = k := by rw [List.length_take]; omega
  refine ⟨?_, by rw [hz]; have := h.room; omega, h.top, h.nil⟩
  have := h.sees.first hk
  rw [Nat.mul_one, ints_take] at this
  rw [hz]
  exact this

/-! ### The document's -/
theorem ris_any (lo hi : Int) (w : World) : Calls Try.prog 25 #[.agg #[.int .i64 lo, .int .i64 hi]] w fun e w' => e = .returned (.bool (isS lo hi)) ∧ Below w.heap.size w w' := by
  have HA := Lib.hid (fun w0 => rtime_any lo w0)
  have HB := Lib.hid (fun w0 => rtime_any hi w0)
  have HK := Lib.hid ((Knows.nil w).alloc w.heap.size rfl 28 #[.int .i64 lo, .int .i64 hi])
  have HZ := Lib.hid ((Below.refl w.heap.size w).alloc (Nat.le_refl _) (.cells #[.int .i64 lo, .int .i64 hi] 28))
  cases h1 : isT lo with
  | false =>
    have HE : Hid (isS lo hi = false) := Lib.hid ((isS_no lo hi).2 (by have := (isT_no lo).1 h1; omega))
    rw [h1] at HA
    clear h1
    go_enter Try.func25, Try.ntmps25
    go_wp2_with fail
    refine (HA.out _).mono ?_
    rintro e w1 ⟨rfl, rfl⟩
    go_wp2_with fail
    go_ret
    exact ⟨by rw [HE.out]; rfl, HZ.out⟩
  | true =>
    rw [h1] at HA
    cases h2 : isT hi with
    | false =>
      have HE : Hid (isS lo hi = false) := Lib.hid ((isS_no lo hi).2 (by have := (isT_no hi).1 h2; have := (isT_iff lo).1 h1; omega))
      rw [h2] at HB
      clear h1 h2
      go_enter Try.func25, Try.ntmps25
      go_wp2_with fail
      refine (HA.out _).mono ?_
      rintro e w1 ⟨rfl, rfl⟩
      go_wp2_with fail
      refine (HB.out _).mono ?_
      rintro e w1 ⟨rfl, rfl⟩
      go_wp2_with fail
      go_ret
      exact ⟨by rw [HE.out]; rfl, HZ.out⟩
    | true =>
      rw [h2] at HB
      have HE : Hid (isS lo hi = decide (lo ≤ hi)) := Lib.hid (by
        have := (isT_iff hi).1 h2
        have := (isT_iff lo).1 h1
        unfold isS; rw [decide_eq_decide]; omega)
      clear h1 h2
      go_enter Try.func25, Try.ntmps25
      go_wp2_with fail
      refine (HA.out _).mono ?_
      rintro e w1 ⟨rfl, rfl⟩
      go_wp2_with fail
      refine (HB.out _).mono ?_
      rintro e w1 ⟨rfl, rfl⟩
      go_wp2_with fail
      go_ret
      exact ⟨by rw [HE.out]; first | rfl | (simp; done) | (simp; omega), HZ.out⟩
theorem risk_any (t : Int) (w : World) : Calls Try.prog 26 #[.int .i64 t] w fun e w' => e = .returned (.bool (isK t)) ∧ w' = w := by
  have HT := Lib.hid (fun w0 => rtime_any t w0)
  have HE := Lib.hid (isK_T t)
  by_cases h : 0 < t
  · have HE2 : Hid (isK t = isT t) := Lib.hid (by rw [HE.out]; simp [h])
    clear HE
    cases h1 : isT t with
    | true =>
      rw [h1] at HT HE2
      clear h1
      go_enter Try.func26, Try.ntmps26
      go_wp2_with fail
      refine (HT.out _).mono ?_
      rintro e w1 ⟨rfl, rfl⟩
      go_wp2_with fail
      go_ret
      exact ⟨by rw [HE2.out]; rfl, rfl⟩
    | false =>
      rw [h1] at HT HE2
      clear h1
      go_enter Try.func26, Try.ntmps26
      go_wp2_with fail
      refine (HT.out _).mono ?_
      rintro e w1 ⟨rfl, rfl⟩
      go_wp2_with fail
      go_ret
      exact ⟨by rw [HE2.out]; rfl, rfl⟩
  · have HE2 : Hid (isK t = false) := Lib.hid (by rw [HE.out]; simp [h])
    clear HE
    go_enter Try.func26, Try.ntmps26
    go_wp2_with fail
    go_ret
    exact ⟨by rw [HE2.out]; rfl, rfl⟩
theorem isstamp_any (t : Int) (w : World) : Calls Try.prog 27 #[.int .i64 t] w fun e w' => e = .returned (.bool (isK t)) ∧ w' = w := by
  cases h : isK t with
  | true =>
    obtain ⟨h0, h1⟩ := (isK_iff t).1 h
    clear h
    go_enter Try.func27, Try.ntmps27
    go_wp2_with fail
    go_ret
    exact ⟨by first | rfl | (simp [*]; try omega), rfl⟩
  | false =>
    have h1 := (isK_no t).1 h
    clear h
    by_cases h0 : 1 ≤ t
    · have h2 : 1125899906842624 < t := by omega
      clear h1
      go_enter Try.func27, Try.ntmps27
      go_wp2_with fail
      all_goals
        go_ret
        exact ⟨by first | rfl | (simp [*]; try omega), rfl⟩
    · have h2 : t < 1 := by omega
      clear h1
      go_enter Try.func27, Try.ntmps27
      go_wp2_with fail
      all_goals
        go_ret
        exact ⟨by first | rfl | (simp [*]; try omega), rfl⟩

/-! ### Raising a number above others -/
/-- Block p, which is new, was changed. -/
theorem St.but {W w w' : World} {p : Nat} {t : TypeId} {cs cs' : Array Value} {L : List Row} (h : St W w ((p, t, cs) :: L)) (hp : W.heap.size ≤ p) (hd : ∀ r ∈ L, r.1 ≠ p) (hb : But p w w') (hw : Whole w' p t cs') : St W w' ((p, t, cs') :: L) :=
  ⟨h.below.trans (hb.below h.below.size hp), fun r hr => by
    rcases List.mem_cons.1 hr with rfl | hr
    · exact hw
    · exact hb.whole (h.knows r (List.mem_cons_of_mem _ hr)) (hd r hr)⟩
theorem Rw.but {W w w' : World} {p : Nat} {A : Option Addr} {cap : Nat} {l : List Int} (h : Rw W A cap l) (hb : Below W.heap.size W w) (hp : W.heap.size ≤ p) (k : But p w w') : Rw w' A cap l := h.call (hb.trans (k.below hb.size hp))
theorem Rw.low {w : World} {A : Option Addr} {cap : Nat} {l : List Int} (h : Rw w A cap l) (a : Addr) (hl : 0 < l.length) (hA : A = some a) : a.block < w.heap.size := by
  obtain ⟨b, off, h1, h2, -⟩ := h.sees.2 hl
  rw [h1] at hA
  injection hA with hA
  subst hA
  exact h2
theorem Rw.one {w : World} {q : Nat} {t : TypeId} {n : Int} (h : Whole w q t #[.int .i64 n]) : Rw w (some ⟨q, 0, Option.none⟩) 1 [n] := by
  refine ⟨⟨rfl, fun _ => ⟨q, 0, rfl, h.lt, fun j u hu => ?_⟩⟩, Nat.le_refl _, by omega, fun e => by cases e⟩
  rw [Nat.zero_add, h.cell j]
  simpa [ints] using hu
theorem raise_any (p : Nat) (r : Int) (A : Option Addr) (cap : Nat) (l : List Int) (w : World) (hp : Whole w p 2 #[.int .i64 r]) (hr : Rw w A cap l) (hA : ∀ a, 0 < l.length → A = some a → a.block ≠ p) :
    Calls Try.prog 24 #[.slice A l.length cap, ptr p] w fun e w' => e = .returned (.tuple #[]) ∧ But p w w' ∧ Whole w' p 2 #[.int .i64 (top r l)] := by
  have HR := Lib.hid hr
  have HA := Lib.hid hA
  have htop := hr.top
  have hroom := hr.room
  have HP := Lib.hid hp
  clear hr hA hp
  go_enter Try.func24, Try.ntmps24
  go_wp2_with fail
  go_loopw [4, 7] (fun _ i wr => ∃ k : Nat, k ≤ l.length ∧ i = .int .i64 (k : Int) ∧ But p w wr ∧ Whole wr p 2 #[.int .i64 (top r (l.take k))]) (fun _ i _ => l.length - (intOf i).toNat)
  case atStart => exact ⟨0, by omega, rfl, But.refl _ _, HP.out⟩
  case round =>
    obtain ⟨k, hk, rfl, hb, hw⟩ := hrel
    have HB := Lib.hid hb
    have HW := Lib.hid hw
    clear hb hw
    by_cases hlt : k < l.length
    · obtain ⟨n, hn⟩ : ∃ n, l[k]? = some n := ⟨_, List.getElem?_eq_getElem hlt⟩
      obtain ⟨b0, off, rfl, hb0, g0⟩ := HR.out.cell k n hn
      have hne : b0 ≠ p := HA.out _ (by omega) rfl
      have g1 : wr.cell? ⟨b0, off + k, none⟩ = some (.int .i64 n) := by
        have e : wr.heap[b0]? = w.heap[b0]? := HB.out.block b0 hb0 hne
        rw [← g0]
        simp only [World.cell?, e]
      have HT := Lib.hid (top_take r l k n hn)
      have hkl : (k : Int) < (l.length : Int) := by omega
      have hm := mx_cases (top r (l.take k)) n
      have c0 := HW.out.cell 0
      have f0 := HW.out.free 0
      have z0 := HW.out.lt
      clear g0 hn
      generalize top r (l.take k) = S at *
      simp only [List.getElem?_toArray, List.getElem?_cons_zero] at c0
      rcases hm with ⟨m1, m2⟩ | ⟨m1, m2⟩
      all_goals
        rw [m2] at HT
        go_wp2_with fail
        go_roundw
        case rel => exact ⟨k + 1, by omega, by go_num, HB.out.set 0 _, by rw [HT.out]; exact HW.out.set 0 _⟩
        case measure => simp [intOf]; omega
    · obtain rfl : k = l.length := by omega
      rw [List.take_length] at HW
      go_wp2_with fail
      go_end0
      exact ⟨rfl, HB.out, HW.out⟩

/-! ### A source -/
/-- Block g is a source whose last stamp is n. -/
def Src (w : World) (g : Nat) (n : Int) : Prop := Whole w g 61 #[.int .i64 n]
theorem snew_any (w : World) : Calls Try.prog 8 #[] w fun e w' => e = .returned (ptr w.heap.size) ∧ Below w.heap.size w w' ∧ Src w' w.heap.size 0 := by
  go_enter Try.func8, Try.ntmps8
  go_wp2_with fail
  go_ret
  exact ⟨rfl, (Below.refl _ _).alloc (Nat.le_refl _) _, Whole.fresh w _ _⟩
theorem last_any (g : Nat) (n : Int) (w : World) (h : Src w g n) : Calls Try.prog 14 #[ptr g] w fun e w' => e = .returned (.int .i64 n) ∧ w' = w := by
  have c0 := Whole.cell h 0
  have z0 := Whole.lt h
  simp only [List.getElem?_toArray, List.getElem?_cons_zero] at c0
  clear h
  go_enter Try.func14, Try.ntmps14
  go_wp2_with fail
  go_ret
  exact ⟨rfl, rfl⟩
theorem keep_any (g : Nat) (n t : Int) (w : World) (h : Src w g n) : Calls Try.prog 13 #[ptr g, .int .i64 t] w fun e w' => e = .returned (.int .i64 (keepE t)) ∧ But g w w' ∧ Src w' g (keepN n t) := by
  have HS := Lib.hid h
  have HI := Lib.hid (fun w0 => isstamp_any t w0)
  have c0 := Whole.cell h 0
  have z0 := Whole.lt h
  have f0 := Whole.free h 0
  simp only [List.getElem?_toArray, List.getElem?_cons_zero] at c0
  clear h
  rcases keep_cases n t with ⟨e1, -, e2, e3⟩ | ⟨e1, -, e2, e3⟩
  · rw [e1] at HI
    rw [e2, e3]
    clear e1 e2 e3
    rcases mx_cases n t with ⟨m1, m2⟩ | ⟨m1, m2⟩
    all_goals
      rw [m2]
      clear m2
      go_enter Try.func13, Try.ntmps13
      go_wp2_with fail
      refine (HI.out _).mono ?_
      rintro e w1 ⟨rfl, rfl⟩
      go_wp2_with fail
      go_ret
      exact ⟨rfl, (But.refl _ _).set 0 _, HS.out.set 0 _⟩
  · rw [e1] at HI
    rw [e2, e3]
    clear e1 e2 e3
    go_enter Try.func13, Try.ntmps13
    go_wp2_with fail
    refine (HI.out _).mono ?_
    rintro e w1 ⟨rfl, rfl⟩
    go_wp2_with fail
    go_ret
    exact ⟨rfl, But.refl _ _, HS.out⟩
theorem St.source {w : World} {g : Nat} {n : Int} (h : Src w g n) : St w w [(g, 61, #[.int .i64 n])] := ⟨Below.refl _ _, fun r hr => by rw [List.mem_singleton.1 hr]; exact h⟩
set_option maxHeartbeats 4000000 in
theorem wait_any (t lo hi : Int) (hlo : R64 lo) (hhi : R64 hi) (w : World) : Calls Try.prog 16 #[.int .i64 t, .agg #[.int .i64 lo, .int .i64 hi]] w fun e w' => e = .returned (.tuple #[.int .i64 (waitV t lo hi), .int .i64 (waitE t lo hi)]) ∧ Below w.heap.size w w' := by
  have HI := Lib.hid (fun w0 => isstamp_any t w0)
  have HC := Lib.hid (fun w0 => scheck_any lo hi w0 hlo hhi)
  have H := Lib.hid ((St.start w).alloc w.heap.size rfl 28 #[.int .i64 lo, .int .i64 hi])
  clear hlo hhi
  rcases wait_cases t lo hi with ⟨e1, e2, e3, e4⟩ | ⟨e1, e2, e3, e4⟩ | ⟨e1, e3, e4⟩
  · have hS := (isS_iff _ _).1 e2
    have hK := (isK_iff _).1 e1
    have e5 : chkS lo hi = 0 := by
      rcases chk_cases lo hi with ⟨_, e, _⟩ | ⟨h, _⟩
      · exact e
      · rw [e2] at h; cases h
    rw [e1] at HI
    rw [e5] at HC
    rw [e3]
    clear e1 e2 e3 e5
    rcases e4 with ⟨k1, k2⟩ | ⟨k1, k2⟩
    all_goals
      rw [k2]
      clear k2
      go_enter Try.func16, Try.ntmps16
      go_wp2_with fail
      refine (HI.out _).mono ?_
      rintro e w1 ⟨rfl, e1⟩
      subst w1
      obtain ⟨c0, c1, d0, d1, z0⟩ := H.out.two 0 w.heap.size rfl
      go_wp2_with fail
      refine (HC.out _).mono ?_
      rintro e w1 ⟨rfl, hb⟩
      have H1 := Lib.hid (H.out.call hb)
      clear hb c0 c1 d0 d1 z0
      obtain ⟨c0, c1, d0, d1, z0⟩ := H1.out.two 0 w.heap.size rfl
      go_wp2_with fail
      go_ret2
      exact ⟨by first | rfl | (simp; done) | (simp; omega), H1.out.below⟩
  · have e5 : chkS lo hi = 50 := by
      rcases chk_cases lo hi with ⟨h, _⟩ | ⟨_, e, _⟩
      · rw [e2] at h; cases h
      · exact e
    rw [e1] at HI
    rw [e5] at HC
    rw [e3, e4]
    clear e1 e2 e3 e4 e5
    go_enter Try.func16, Try.ntmps16
    go_wp2_with fail
    refine (HI.out _).mono ?_
    rintro e w1 ⟨rfl, e1⟩
    subst w1
    obtain ⟨c0, c1, d0, d1, z0⟩ := H.out.two 0 w.heap.size rfl
    go_wp2_with fail
    refine (HC.out _).mono ?_
    rintro e w1 ⟨rfl, hb⟩
    have H1 := Lib.hid (H.out.call hb)
    clear hb c0 c1 d0 d1 z0
    go_wp2_with fail
    go_ret2
    exact ⟨rfl, H1.out.below⟩
  · rw [e1] at HI
    rw [e3, e4]
    clear e1 e3 e4
    go_enter Try.func16, Try.ntmps16
    go_wp2_with fail
    refine (HI.out _).mono ?_
    rintro e w1 ⟨rfl, e1⟩
    subst w1
    go_wp2_with fail
    go_ret2
    exact ⟨rfl, H.out.below⟩
set_option maxHeartbeats 8000000 in
theorem next_any (g : Nat) (n lo hi : Int) (hn : 0 ≤ n ∧ n ≤ 1125899906842624) (hlo : R64 lo) (hhi : R64 hi) (A : Option Addr) (cap : Nat) (l : List Int) (w : World) (h : Src w g n) (hr : Rw w A cap l) :
    Calls Try.prog 10 #[ptr g, .agg #[.int .i64 lo, .int .i64 hi], .slice A l.length cap] w fun e w' => e = .returned (.tuple #[.int .i64 (nextV n lo hi l), .int .i64 (nextE n lo hi l)]) ∧ But g w w' ∧ Src w' g (nextN n lo hi l) := by
  have HS := Lib.hid h
  have HR := Lib.hid hr
  have HC := Lib.hid (fun w0 => scheck_any lo hi w0 hlo hhi)
  have H := Lib.hid ((St.source h).alloc w.heap.size rfl 28 #[.int .i64 lo, .int .i64 hi])
  have hg := Whole.lt h
  have hge := (reach_ge n hi l).1
  clear hlo hhi h hr
  rcases next_cases n lo hi l with ⟨e1, e2, e3, e4, e5⟩ | ⟨e1, e2, e3, e4, e5⟩ | ⟨e1, e3, e4, e5⟩
  case' inr.inr =>
    have e6 : chkS lo hi = 50 := by
      rcases chk_cases lo hi with ⟨h, _⟩ | ⟨_, e, _⟩
      · rw [e1] at h; cases h
      · exact e
    rw [e6] at HC
    rw [e3, e4, e5]
    clear e1 e3 e4 e5 e6
    obtain ⟨c0, c1, d0, d1, z0⟩ := H.out.two 0 w.heap.size rfl
    go_enter Try.func10, Try.ntmps10
    go_wp2_with fail
    refine (HC.out _).mono ?_
    rintro e w1 ⟨rfl, hb⟩
    have H1 := Lib.hid (H.out.call hb)
    clear hb c0 c1 d0 d1 z0
    go_wp2_with fail
    go_ret2
    exact ⟨rfl, .of H1.out.below g, H1.out.knows.at 1 rfl⟩
  all_goals
    have e6 : chkS lo hi = 0 := by
      rcases chk_cases lo hi with ⟨_, e, _⟩ | ⟨h, _⟩
      · exact e
      · rw [e1] at h; cases h
    rw [e6] at HC
    rw [e3, e4, e5]
    clear e1 e3 e4 e5 e6
    have HT := Lib.hid (show top (mx n hi) l = reach n hi l from rfl)
    generalize reach n hi l = R at *
    obtain ⟨c0, c1, d0, d1, z0⟩ := H.out.two 0 w.heap.size rfl
    go_enter Try.func10, Try.ntmps10
    go_wp2_with fail
    refine (HC.out _).mono ?_
    rintro e w1 ⟨rfl, hb⟩
    have H1 := Lib.hid (H.out.call hb)
    clear hb c0 c1 d0 d1 z0
    obtain ⟨c0, c1, d0, d1, z0⟩ := H1.out.two 0 w.heap.size rfl
    obtain ⟨s0, t0, y0⟩ := H1.out.one 1 g rfl
    have hw1 := H1.out.below.size
    go_wp2_with fail
    have H2 := Lib.hid (((H1.out.alloc w1.heap.size rfl 2 #[.int .i64 n]).alloc (w1.heap.size + 1) (by simp) 2 #[.int .i64 hi]).few (L' := [(w1.heap.size, 2, #[.int .i64 n]), (w1.heap.size + 1, 2, #[.int .i64 hi]), (w.heap.size, 28, #[.int .i64 lo, .int .i64 hi]), (g, 61, #[.int .i64 n])]) (by simp))
    have hfar : ∀ r ∈ ([(w1.heap.size + 1, 2, #[.int .i64 hi]), (w.heap.size, 28, #[.int .i64 lo, .int .i64 hi]), (g, 61, #[.int .i64 n])] : List Row), r.1 ≠ w1.heap.size := by
      intro r hr
      simp at hr
      rcases hr with rfl | rfl | rfl <;> (show _ ≠ _; simp <;> omega)
    have HF := Lib.hid hfar
    clear hfar c0 c1 d0 d1 z0 s0 t0 y0
    refine (raise_any w1.heap.size n (some ⟨w1.heap.size + 1, 0, none⟩) 1 [hi] _ (H2.out.knows.at 0 rfl) (Rw.one (H2.out.knows.at 1 rfl)) (fun a _ e => by injection e with e; subst e; simp)).mono ?_
    rintro e w2 ⟨rfl, hb, hw⟩
    replace H2 := Lib.hid (H2.out.but hw1 HF.out hb hw)
    rw [top_one] at H2
    clear hb hw
    go_wp2_with fail
    refine (raise_any w1.heap.size (mx n hi) A cap l _ (H2.out.knows.at 0 rfl) (HR.out.call H2.out.below) (fun a h1 h2 => by have := HR.out.low a h1 h2; omega)).mono ?_
    rintro e w3 ⟨rfl, hb, hw⟩
    replace H2 := Lib.hid (H2.out.but hw1 HF.out hb hw)
    rw [HT.out] at H2
    clear hb hw
    obtain ⟨s0, t0, y0⟩ := H2.out.one 0 w1.heap.size rfl
    obtain ⟨s1, t1, y1⟩ := H2.out.one 3 g rfl
    go_wp2_with fail
    go_ret2
    first
      | exact ⟨rfl, .of H2.out.below g, H2.out.knows.at 3 rfl⟩
      | exact ⟨rfl, (But.of H2.out.below g).set 0 _, (H2.out.knows.at 3 rfl).set 0 _⟩
end Go.Proofs.Ytjpalcolhagpcaa
