/- Contracts at layer 11, of the program's calls that only read: isTime, New, Mark, Last, List, upTo, Get. -/
import Derived.Test.YtckhddndeojobaaGreatChnW
namespace Go.Proofs.YtckhddndeojobaaGreat
open Go.RowKit Go.Cn
set_option linter.unusedVariables false
set_option linter.unusedSimpArgs false
set_option maxRecDepth 100000

theorem ctime_any (n : Int) (w : World) : Calls Tryz.prog 76 #[.int .i64 n] w fun e w' => e = .returned (.bool (isT n)) ∧ w' = w := by
  cases h : isT n with
  | true =>
    obtain ⟨h0, h1⟩ := (isT_iff n).1 h
    clear h
    go_enter Tryz.func76, Tryz.ntmps76
    go_wp2_with fail
    go_ret
    exact ⟨by first | rfl | (simp [*]; try omega), rfl⟩
  | false =>
    have h1 := (isT_no n).1 h
    clear h
    by_cases h0 : 0 ≤ n
    · have h2 : 1125899906842624 < n := by omega
      clear h1
      go_enter Tryz.func76, Tryz.ntmps76
      go_wp2_with fail
      all_goals
        go_ret
        exact ⟨by first | rfl | (simp [*]; try omega), rfl⟩
    · have h2 : n < 0 := by omega
      clear h1
      go_enter Tryz.func76, Tryz.ntmps76
      go_wp2_with fail
      all_goals
        go_ret
        exact ⟨by first | rfl | (simp [*]; try omega), rfl⟩
theorem cnew_any (w : World) : Calls Tryz.prog 80 #[] w fun e w' => e = .returned (ptr w.heap.size) ∧ Below w.heap.size w w' ∧ Cx w' w.heap.size (.slice none 0 0) ⟨[], 0⟩ fun b => b = w.heap.size := by
  go_enter Tryz.func80, Tryz.ntmps80
  go_wp2_with fail
  go_ret
  exact ⟨rfl, (Below.refl _ _).alloc (Nat.le_refl _) _, Ok.new.zero, Whole.fresh w _ _, ⟨rfl, .inl ⟨rfl, rfl⟩⟩, ⟨rfl, fun b hb => by simp [Value.ownBlock] at hb⟩, fun b hb => by subst hb; simp⟩
theorem two_zero (w : World) : St w (w.alloc (.cells #[.int .i64 0, .int .i64 0] 81)) [(w.heap.size, 81, #[.int .i64 0, .int .i64 0])] := (St.start w).alloc w.heap.size rfl _ _
set_option maxHeartbeats 1000000 in
theorem clast_any (g : Nat) (A : Option Addr) (cap : Nat) (c : Cs) (w : World) (h : Rc w g A cap c) :
    Calls Tryz.prog 55 #[ptr g] w fun e w' => e = .returned (.tuple #[aggV (lastV c.l), .bool (decide (0 < c.l.length))]) ∧ Below w.heap.size w w' := by
  have H := Lib.hid (two_zero w)
  obtain ⟨d0, d1, f0, f1, z0⟩ := H.out.two 0 w.heap.size rfl
  obtain ⟨c0, c1, z⟩ := (h.call (H.out.below)).cells
  have HR := Lib.hid h.row
  have hfew := h.ok.few
  have hbel := H.out.below
  clear h
  by_cases h0 : c.l.length = 0
  · have e1 : lastV c.l = (0, 0) := lastV_none h0
    have e2 : decide (0 < c.l.length) = false := by simp [h0]
    rw [e1, e2]
    rw [h0] at c0
    clear e1 e2
    go_enter Tryz.func55, Tryz.ntmps55
    go_wp2_with fail
    refine bodyPost_ret (by simp [results, Tryz.results55, go_sem, d0, d1, f0, f1, z0]; try rfl) rfl ?_
    refine ⟨rfl, ?_⟩
    go_grown
  · have e2 : decide (0 < c.l.length) = true := by simp; omega
    rw [e2]
    obtain ⟨n, hn⟩ : ∃ n, c.l.length = n + 1 := ⟨c.l.length - 1, by omega⟩
    have hat := lastV_at (l := c.l) (by omega)
    rw [hn] at hat
    generalize lastV c.l = v at *
    obtain ⟨b0, off, rfl, hb0, g0, g1⟩ := (HR.out.call hbel).cell n v (by simpa using hat)
    clear hat hbel e2 h0
    generalize c.l.length = N at *
    subst hn
    go_enter Tryz.func55, Tryz.ntmps55
    go_wp2_with fail
    refine bodyPost_ret (by simp [results, Tryz.results55, go_sem, d0, d1, f0, f1, z0]; try rfl) rfl ?_
    refine ⟨rfl, ?_⟩
    have hb := H.out.below
    go_grown

/-! ### All versions, copied -/
theorem cclone_any (A : Option Addr) (cap : Nat) (l : List Ve) (w : World) (hr : Rv w A cap l) (hl : l.length ≤ 1000000) :
    Calls Tryz.prog 96 #[.slice A l.length cap] w fun e w' => ∃ A' cap', e = .returned (.slice A' l.length cap') ∧ Below w.heap.size w w' ∧ w'.ownsRow w.heap.size 81 2 (.slice A' l.length cap') l.length (flat encV l) := by
  have HR := Lib.hid hr
  have hroom := hr.room
  have htop := hr.top
  have hnil := hr.nil
  have qT : ∀ (w : World) (a : Option Addr) (n c n' c' : Nat), (binOp .eql 123 (.slice a n c) (.slice none n' c')).run Tryz.prog w = .ok (.bool a.isNone) w := fun w a n c n' c' => Lib.run_eql_slice_nil w _ _ a n c n' c' Tryz.underlying123
  clear hr
  cases A with
  | none =>
    obtain rfl := hnil rfl
    have h0 : l.length = 0 := by omega
    obtain rfl := List.eq_nil_of_length_eq_zero h0
    clear HR hroom htop hnil h0 hl
    simp only [List.length_nil]
    go_enter Tryz.func96, Tryz.ntmps96
    go_wp2_with fail
    go_ret
    exact ⟨none, 0, rfl, Below.refl _ _, ⟨rfl, .inl ⟨rfl, rfl⟩⟩⟩
  | some ad =>
    have HNL := Lib.hid hnil
    clear hnil
    go_enter Tryz.func96, Tryz.ntmps96
    go_wp2_with (at_builtin; refine wpList_appG rfl (.tmp 5) (.tmp 6) _ 81 _ 2 16 rfl info_ver Tryz.underlying123 rfl (by decide) w.heap.size _ 0 [] rfl (ow_new _ 81 2 _ rfl) w.heap.size _ _ cap (flat encV l) rfl (HR.out.sees.alloc (Nat.le_refl _) _) HNL.out (encV_one l) (by omega) (by omega) (by simp) ?_)
    intro v1 y1 ho1 hg1
    try rw [Nat.zero_add] at ho1
    try rw [List.nil_append] at ho1
    have hb1 : Below w.heap.size w y1 := ((Below.refl _ _).alloc (Nat.le_refl _) _).grown hg1 (by simp) (fun k hk => by
      have : some w.heap.size = some k := hk
      injection this with this
      omega)
    have HO1 := Lib.hid ho1
    have HB1 := Lib.hid hb1
    obtain ⟨A1, cp1, rfl, -, -, -⟩ := own_slice0 ho1
    clear ho1 hg1 hb1
    go_wp2_with fail
    go_ret
    exact ⟨A1, cp1, rfl, HB1.out, HO1.out⟩
theorem clist_any (g : Nat) (A : Option Addr) (cap : Nat) (c : Cs) (w : World) (h : Rc w g A cap c) :
    Calls Tryz.prog 74 #[ptr g] w fun e w' => ∃ A' cap', e = .returned (.slice A' c.l.length cap') ∧ Below w.heap.size w w' ∧ w'.ownsRow w.heap.size 81 2 (.slice A' c.l.length cap') c.l.length (flat encV c.l) := by
  obtain ⟨c0, c1, z⟩ := h.cells
  have HC := Lib.hid (cclone_any A cap c.l w h.row (by have := h.ok.few; omega))
  clear h
  go_enter Tryz.func74, Tryz.ntmps74
  go_wp2_with fail
  refine HC.out.mono ?_
  rintro e w1 ⟨A1, cp1, rfl, hb, ho⟩
  have HB := Lib.hid hb
  have HO := Lib.hid ho
  clear hb ho
  go_wp2_with fail
  go_ret
  exact ⟨A1, cp1, rfl, HB.out, HO.out⟩

/-! ### The version that counts is searched for -/
set_option maxHeartbeats 1000000 in
theorem above_any (g : Nat) (A : Option Addr) (cap : Nat) (c : Cs) (p q : Nat) (t : Int) (k : Nat) (v : Ve) (w : World) (h : Rc w g A cap c) (hp : Whole w p 103 #[ptr g]) (hq : Whole w q 2 #[.int .i64 t]) (hk : c.l[k]? = some v) :
    Calls Tryz.prog 107 #[.int .i64 (k : Int), ptr p, ptr q] w fun e w' => e = .returned (.bool (decide (t < v.1))) ∧ Below w.heap.size w w' := by
  obtain ⟨c0, c1, z⟩ := h.cells
  obtain ⟨b0, off, rfl, hb0, g0, -⟩ := h.row.cell k v hk
  have p0 := hp.cell 0
  have q0 := hq.cell 0
  have pz := hp.lt
  have qz := hq.lt
  have hlt := (List.getElem?_eq_some_iff.1 hk).1
  have hfew := h.ok.few
  simp only [List.getElem?_toArray, List.getElem?_cons_zero] at p0 q0
  clear h hp hq hk c1
  have hi : (k : Int) < (c.l.length : Int) := by omega
  go_enter Tryz.func107, Tryz.ntmps107
  go_wp2_with fail
  go_quiet (fail)
  go_wp2_with fail
  go_ret
  exact ⟨rfl, drew_below w _⟩

/-- What the closure over the chain and the time says. -/
structure Cl (w : World) (g : Nat) (A : Option Addr) (cap : Nat) (c : Cs) (p q : Nat) (t : Int) : Prop where
  read : Rc w g A cap c
  box : Whole w p 103 #[ptr g]
  time : Whole w q 2 #[.int .i64 t]
theorem Cl.call {w w' : World} {g : Nat} {A : Option Addr} {cap : Nat} {c : Cs} {p q : Nat} {t : Int} (h : Cl w g A cap c p q t) (hb : Below w.heap.size w w') : Cl w' g A cap c p q t := ⟨h.read.call hb, h.box.below hb h.box.lt, h.time.below hb h.time.lt⟩
set_option maxHeartbeats 2000000 in
theorem search_any (g : Nat) (A : Option Addr) (cap : Nat) (c : Cs) (p q : Nat) (t : Int) (w : World) (h : Cl w g A cap c p q t) :
    Calls Tryz.prog 106 #[.int .i64 (c.l.length : Int), .func (.func 107) #[] #[ptr p, ptr q]] w fun e w' => e = .returned (.int .i64 (upTo c.l t : Nat)) ∧ Below w.heap.size w w' := by
  have HL := Lib.hid h
  have hfew := h.read.ok.few
  have hup := upTo_le c.l t
  have HT := Lib.hid (fun k v hk => lt_upTo h.read.ok.rise t k v hk)
  clear h
  generalize hu : upTo c.l t = u at *
  clear hu
  go_enter Tryz.func106, Tryz.ntmps106
  go_wp2_with fail
  go_loopw [5, 6] (fun i j wr => ∃ lo hi : Nat, i = .int .i64 (lo : Int) ∧ j = .int .i64 (hi : Int) ∧ lo ≤ u ∧ u ≤ hi ∧ hi ≤ c.l.length ∧ Below w.heap.size w wr) (fun i j _ => (intOf j).toNat - (intOf i).toNat)
  case atStart => exact ⟨0, c.l.length, rfl, rfl, by omega, hup, by omega, Below.refl _ _⟩
  case round =>
    obtain ⟨lo, hi, rfl, rfl, h1, h2, h3, hb⟩ := hrel
    have HB := Lib.hid hb
    clear hb
    by_cases hlt : lo < hi
    · obtain ⟨v, hv⟩ : ∃ v, c.l[(lo + hi) / 2]? = some v := ⟨_, List.getElem?_eq_getElem (by omega)⟩
      have HC := Lib.hid (fun w0 (h : Cl w0 g A cap c p q t) => above_any g A cap c p q t ((lo + hi) / 2) v w0 h.read h.box h.time hv)
      have hk := HT.out _ v hv
      rw [show (((lo + hi) / 2 : Nat) : Int) = ((lo : Int) + (hi : Int)) / 2 by omega] at HC
      have i1 : (lo : Int) < (hi : Int) := by omega
      have i2 : (hi : Int) ≤ 10000 := by omega
      clear hv
      by_cases hp : t < v.1
      · have hd : decide (t < v.1) = true := by simpa using hp
        rw [hd] at HC
        have h4 : u ≤ (lo + hi) / 2 := by omega
        clear hp hd hk
        go_wp2_with fail
        refine (HC.out _ (HL.out.call HB.out)).mono ?_
        rintro e w1 ⟨rfl, hb1⟩
        have HB1 := Lib.hid (HB.out.trans (hb1.mono HB.out.size))
        clear hb1
        go_wp2_with fail
        go_roundw
        case rel => exact ⟨lo, (lo + hi) / 2, rfl, by go_num, by omega, by omega, by omega, HB1.out⟩
        case measure => simp [intOf]; omega
      · have hd : decide (t < v.1) = false := by simpa using hp
        rw [hd] at HC
        have h4 : (lo + hi) / 2 < u := by omega
        clear hp hd hk
        go_wp2_with fail
        refine (HC.out _ (HL.out.call HB.out)).mono ?_
        rintro e w1 ⟨rfl, hb1⟩
        have HB1 := Lib.hid (HB.out.trans (hb1.mono HB.out.size))
        clear hb1
        go_wp2_with fail
        go_roundw
        case rel => exact ⟨(lo + hi) / 2 + 1, hi, by go_num, rfl, by omega, by omega, by omega, HB1.out⟩
        case measure => simp [intOf]; omega
    · obtain rfl : lo = hi := by omega
      obtain rfl : lo = u := by omega
      go_wp2_with fail
      go_ret
      exact ⟨rfl, HB.out⟩
set_option maxHeartbeats 1000000 in
theorem upto_any (g : Nat) (A : Option Addr) (cap : Nat) (c : Cs) (t : Int) (w : World) (h : Rc w g A cap c) :
    Calls Tryz.prog 77 #[ptr g, .int .i64 t] w fun e w' => e = .returned (.int .i64 (upTo c.l t : Nat)) ∧ Below w.heap.size w w' := by
  have H := Lib.hid (((St.start w).alloc w.heap.size rfl 103 #[ptr g]).alloc (w.heap.size + 1) (by simp) 2 #[.int .i64 t])
  have HL := Lib.hid (search_any g A cap c w.heap.size (w.heap.size + 1) t _ ⟨h.call H.out.below, H.out.knows.at 1 rfl, H.out.knows.at 0 rfl⟩)
  obtain ⟨c0, c1, z⟩ := (h.call H.out.below).cells
  obtain ⟨p0, f0, z0⟩ := H.out.one 1 w.heap.size rfl
  clear h c1
  go_enter Tryz.func77, Tryz.ntmps77
  go_wp2_with fail
  refine HL.out.mono ?_
  rintro e w1 ⟨rfl, hb⟩
  have HB := Lib.hid (H.out.call hb)
  clear hb
  go_wp2_with fail
  go_ret
  exact ⟨rfl, HB.out.below⟩
set_option maxHeartbeats 2000000 in
theorem cget_any (g : Nat) (A : Option Addr) (cap : Nat) (c : Cs) (t : Int) (w : World) (h : Rc w g A cap c) :
    Calls Tryz.prog 59 #[ptr g, .int .i64 t] w fun e w' => e = .returned (.tuple #[aggV (getV c t), .int .i64 (getE c t)]) ∧ Below w.heap.size w w' := by
  have H := Lib.hid (two_zero w)
  have HR := Lib.hid h
  have HT := Lib.hid (fun w0 => ctime_any t w0)
  have HU := Lib.hid (fun w0 (h0 : Rc w0 g A cap c) => upto_any g A cap c t w0 h0)
  obtain ⟨d0, d1, f0, f1, z0⟩ := H.out.two 0 w.heap.size rfl
  obtain ⟨c0, c1, z⟩ := (h.call (H.out.below)).cells
  have hfew := h.ok.few
  clear h
  rcases get_cases c t with ⟨e1, e2, e3⟩ | ⟨e1, e4, e2, e3⟩ | ⟨e1, e4, e5, e2, e3⟩ | ⟨e1, e4, n, e5, e6, e7, e2⟩
  · rw [e1] at HT
    rw [e2, e3]
    clear e1 e2 e3
    go_enter Tryz.func59, Tryz.ntmps59
    go_wp2_with fail
    refine (HT.out _).mono ?_
    rintro e w1 ⟨rfl, e1⟩
    subst w1
    go_wp2_with fail
    refine bodyPost_ret (by simp [results, Tryz.results59, go_sem, d0, d1, f0, f1, z0]; try rfl) rfl ?_
    refine ⟨rfl, ?_⟩
    have hb := H.out.below
    go_grown
  · rw [e1] at HT
    rw [e2, e3]
    clear e1 e2 e3
    go_enter Tryz.func59, Tryz.ntmps59
    go_wp2_with fail
    refine (HT.out _).mono ?_
    rintro e w1 ⟨rfl, e1⟩
    subst w1
    go_wp2_with fail
    refine bodyPost_ret (by simp [results, Tryz.results59, go_sem, d0, d1, f0, f1, z0]; try rfl) rfl ?_
    refine ⟨rfl, ?_⟩
    have hb := H.out.below
    go_grown
  · rw [e1] at HT
    rw [e2, e3]
    rw [e5] at HU
    have i1 : ¬ t < c.mark := by omega
    clear e1 e2 e3 e4 e5
    go_enter Tryz.func59, Tryz.ntmps59
    go_wp2_with fail
    refine (HT.out _).mono ?_
    rintro e w1 ⟨rfl, e1⟩
    subst w1
    go_wp2_with fail
    refine (HU.out _ (HR.out.call H.out.below)).mono ?_
    rintro e w1 ⟨rfl, hb⟩
    replace H := Lib.hid (H.out.call hb)
    clear hb d0 d1 f0 f1 z0 c0 c1 z
    obtain ⟨d0, d1, f0, f1, z0⟩ := H.out.two 0 w.heap.size rfl
    go_wp2_with fail
    refine bodyPost_ret (by simp [results, Tryz.results59, go_sem, d0, d1, f0, f1, z0]; try rfl) rfl ?_
    refine ⟨rfl, ?_⟩
    have hb := H.out.below
    go_grown
  · rw [e1] at HT
    rw [e2]
    rw [e5] at HU
    have i1 : ¬ t < c.mark := by omega
    generalize getV c t = v at *
    clear e1 e2 e4 e5
    go_enter Tryz.func59, Tryz.ntmps59
    go_wp2_with fail
    refine (HT.out _).mono ?_
    rintro e w1 ⟨rfl, e1⟩
    subst w1
    go_wp2_with fail
    refine (HU.out _ (HR.out.call H.out.below)).mono ?_
    rintro e w1 ⟨rfl, hb⟩
    replace H := Lib.hid (H.out.call hb)
    clear hb d0 d1 f0 f1 z0 c0 c1 z
    obtain ⟨d0, d1, f0, f1, z0⟩ := H.out.two 0 w.heap.size rfl
    obtain ⟨b0, off, rfl, hb0, g0, g1⟩ := (HR.out.call H.out.below).row.cell n v e7
    obtain ⟨c0, c1, z⟩ := (HR.out.call H.out.below).cells
    have i2 : (n : Int) < (c.l.length : Int) := by omega
    clear e7
    go_wp2_with fail
    refine bodyPost_ret (by simp [results, Tryz.results59, go_sem, d0, d1, f0, f1, z0]; try rfl) rfl ?_
    refine ⟨rfl, ?_⟩
    have hb := H.out.below
    go_grown
end Go.Proofs.YtckhddndeojobaaGreat
