/- Contracts at layer 13, of the program's calls on one key's row that only read: listed, apart, has, keeps, eldest. -/
import Derived.Test.YtcjefigcaifmeaaLokW
namespace Go.Proofs.Ytcjefigcaifmeaa
open Go.RowKit Go.Lk
set_option linter.unusedVariables false
set_option linter.unusedSimpArgs false
set_option maxRecDepth 100000

theorem info_hold : (Try.prog.info? 60).map (fun i => (i.zero, i.size, i.bytes)) = some (some (hE ⟨0, false⟩), 2, 16) := by kernel_rfl
theorem info_num : (Try.prog.info? 3).map (fun i => (i.zero, i.size, i.bytes)) = some (some (.int .i64 0), 1, 8) := by kernel_rfl
def fl (f : Lk.Fn) (x : Int) : Bool := (f x).getD false
theorem flat_encH_one (wr : Int → Bool) (l : List Int) : ∀ u ∈ flat (encH wr) l, u.oneCell' = true := by
  intro u hu
  unfold flat at hu
  obtain ⟨a, _, hu⟩ := List.mem_flatMap.1 hu
  exact encH_one wr a u hu
theorem sees_hold (wr : Int → Bool) (w : World) (g : Nat) (hg : g = w.heap.size) (x : Int) (b : Bool) (hb : wr x = b) : Sees (w.alloc (.cells #[.int .i64 x, .bool b] 60)) (g + 1) 2 (some ⟨g, 0, none⟩) 1 (flat (encH wr) [x]) := by
  subst hg
  subst hb
  refine ⟨rfl, fun _ => ⟨w.heap.size, 0, rfl, by omega, fun j u hu => ?_⟩⟩
  rw [Nat.zero_add, (Whole.fresh w _ _).cell j, ← Array.getElem?_toList]
  exact hu
theorem len_le {α : Type} {f : Int → Option α} {L : List Int} (hf : Fin1 f) (hn : L.Nodup) (hs : ∀ x ∈ L, (f x).isSome = true) : L.length ≤ (supp f).length := len_sub hn fun x hx => (supp_mem hf x).2 (hs x hx)
theorem not_mine {w0 wr : World} {B n size : Nat} {e : TypeId} {v : Value} {xs : List Value} {b : Nat} (h : wr.ownsRow B e size v n xs) (hb : ∀ t cs, wr.heap[b]? ≠ some (.cells cs t (0, 0))) : some b ≠ v.ownBlock := by
  intro e2
  rcases h.2 with ⟨rfl, _⟩ | ⟨g, cap, cur, rfl, _, hh, _⟩
  · simp [Value.ownBlock] at e2
  · have : b = g := by simpa [Value.ownBlock] using e2
    subst this
    exact hb _ _ hh
theorem off_of_grown {a b : World} {row : Option Nat} (h : a.grownBy b row) : Off (fun x => row = some x) a b := ⟨h.os, h.tape, h.output, h.size, fun i hi hn => h.block i hi fun e => hn e.symm⟩
theorem Ro.off_row {α : Type} {enc : α → Value} {w w' : World} {mo : Option Nat} {r cnt : Nat} {f : Int → Option α} {L : List Int} {B n size : Nat} {e : TypeId} {v : Value} {xs : List Value}
    (h : Ro enc w mo r f L cnt) (ho : w.ownsRow B e size v n xs) (hg : w.grownBy w' v.ownBlock) : Ro enc w' mo r f L cnt := by
  refine h.off (off_of_grown hg) (fun mb hm hb => ?_) fun hb => ?_
  · have hne := not_mine (w0 := w) (b := mb) ho fun t cs hc => by
      rcases h with ⟨h1, -⟩ | ⟨mb', h1, h2⟩
      · rw [h1] at hm; cases hm
      · rw [h1] at hm
        injection hm with hm
        subst hm
        exact h2.mv.notCells hc rfl
    exact hne hb.symm
  · have hne := not_mine (w0 := w) (b := r) ho fun t cs hc => h.notCells hc rfl
    exact hne hb.symm
set_option maxHeartbeats 2000000 in
theorem listed_any (mo : Option Nat) (f : Lk.Fn) (w : World) (h : Moh w mo f) (hn : (supp f).length ≤ 1000000) :
    Calls Try.prog 29 #[.map mo] w fun e w' => ∃ A cap, e = .returned (.slice A (supp f).length cap) ∧ Below w.heap.size w w' ∧ w'.ownsRow w.heap.size 60 2 (.slice A (supp f).length cap) (supp f).length (flat (encH (fl f)) (supp f)) := by
  have HM := Lib.hid h
  have HF := Lib.hid h.fin
  have HF2 := Lib.hid (fin_hF h.fin)
  have HS := Lib.hid (supp_hF f (fin_hF h.fin))
  clear h
  go_enter Try.func29, Try.ntmps29
  go_wp2_with (first
    | (at_range; refine wpList_range_mo _ rfl _ 61 rfl 60 Try.underlying61 rfl HM.out ?_; intro w0 hrg0 hb0 hs0)
    | go_in)
  go_frame
  go_loopw [3] (fun v wr => ∃ (cnt : Nat) (L : List Int), Ro hE wr mo w.heap.size (hF f) L cnt ∧ wr.ownsRow w.heap.size 60 2 v L.length (flat (encH (fl f)) L) ∧ Below w.heap.size w wr)
    (fun _ wr => leftO mo w.heap.size wr)
  case atStart => exact ⟨_, [], hrg0, World.ownsRow_nil _ _ _ _, hb0⟩
  case round =>
    obtain ⟨cnt, L, hrg, hrow, hb⟩ := hrel
    have HLL := Lib.hid (len_le HF.out hrg.sub.1 hrg.sub.2)
    rw [HS.out] at HLL
    have hll := HLL.out
    have HB := Lib.hid hb
    have HO := Lib.hid hrow
    have HR := Lib.hid hrg
    clear hrg hrow hb hrg0 hb0 hs0
    go_wp2_with (first
      | (at_next; refine wpList_next_mo _ hE_inj rfl _ rfl w.heap.size cnt L rfl HR.out ?_ ?_)
      | go_in)
    · intro hc0 hnd hmem
      obtain ⟨A, cp, rfl, r1, r2, r3⟩ := own_slice0 HO.out
      have hsort : (L.mergeSort fun x y => decide (x ≤ y)) = supp f := sort_supp hnd fun x => by rw [hmem x, hF_some]
      have hlen : L.length = (supp f).length := by rw [← hsort]; simp
      have HSO := Lib.hid hsort
      have HLN := Lib.hid hlen
      have HO2 := Lib.hid HO.out
      rcases A with _ | ⟨gk, off, sp⟩
      · have hl0 : L.length = 0 := by have := r3 rfl; omega
        have hs0 : (supp f).length = 0 := by omega
        have hsn : supp f = [] := List.eq_nil_of_length_eq_zero hs0
        have HSN := Lib.hid hsn
        rw [hl0, r3 rfl]
        clear hsn hs0
        have HN := Lib.hid (sortF_none none 0 (.func (.func 36) #[] #[]))
        clear hsort hlen hmem hnd
        go_wp2_with fail
        refine (HN.out wr).mono ?_
        rintro e w2 ⟨rfl, e2⟩
        subst w2
        go_wp2_with fail
        go_ret
        refine ⟨none, 0, by rw [HSN.out]; rfl, HB.out, ?_⟩
        rw [HSN.out]
        exact World.ownsRow_nil _ _ _ _
      · have hat : off = 0 ∧ sp = none := by
          rcases HO.out.2 with ⟨h, _⟩ | ⟨g', c', cur, h, _⟩
          · simp at h
          · simp only [Value.slice.injEq, Option.some.injEq, Addr.mk.injEq] at h
            exact ⟨h.1.2.1, h.1.2.2⟩
        obtain ⟨rfl, rfl⟩ := hat
        have HC := Lib.hid (sortF_own (fl f) w.heap.size gk L.length cp L wr rfl HO.out (by omega))
        have HLOW := Lib.hid (fun k (hk : some gk = some k) => (HO.out.lt k (by rw [show (Value.slice (some ⟨gk, 0, none⟩) L.length cp).ownBlock = some gk from rfl]; exact hk)).1)
        rw [HSO.out] at HC
        clear hsort hmem hnd HO HO2 HLL hll HR
        generalize L.length = n at *
        subst hlen
        go_wp2_with fail
        refine HC.out.mono ?_
        rintro e w2 ⟨rfl, ho, hg2⟩
        have HOO := Lib.hid ho
        have HBB := Lib.hid (HB.out.grown hg2 HB.out.size fun k hk => HLOW.out k hk)
        clear ho hg2
        go_wp2_with fail
        go_ret
        exact ⟨_, _, rfl, HBB.out, HOO.out⟩
    · intro x c w2 cnt2 hfx hx hx64 hrg2 hlt hof hsz hen
      obtain ⟨x0, b⟩ := c
      have hx0 : x0 = x ∧ fl f x = b := by
        unfold hF at hfx
        unfold fl
        cases hc : f x with
        | none => rw [hc] at hfx; cases hfx
        | some c => rw [hc] at hfx; injection hfx with hfx; injection hfx with e1 e2; exact ⟨e1.symm, e2⟩
      obtain ⟨rfl, hfl⟩ := hx0
      have HFL := Lib.hid hfl
      have hrow2 : w2.ownsRow w.heap.size 60 2 _ L.length (flat (encH (fl f)) L) := HO.out.kept (row := some w.heap.size) ⟨hof.os, hof.tape, hof.output, hof.size, fun i hi hne => hof.block i hi fun e => hne (by rw [e])⟩ (Or.inr (not_mine (w0 := wr) HO.out fun t cs hc => HR.out.notCells hc rfl).symm)
      have hb2 : Below w.heap.size w w2 := HB.out.trans (hof.below HB.out.size fun k hk => by omega)
      have HO3 := Lib.hid ((hrow2.alloc (.cells #[.int .i64 x0, .bool b] 60)).alloc (.cells #[.int .i64 x0, .bool b] 60))
      have HB3 := Lib.hid ((hb2.alloc (hb2.size) (.cells #[.int .i64 x0, .bool b] 60)).alloc (by have := hb2.size; simp; omega) (.cells #[.int .i64 x0, .bool b] 60))
      have HR3 := Lib.hid ((hrg2.call ((Below.refl _ _).alloc (Nat.le_refl _) (.cells #[.int .i64 x0, .bool b] 60))).call ((Below.refl _ _).alloc (Nat.le_refl _) (.cells #[.int .i64 x0, .bool b] 60)))
      have HSE := Lib.hid (sees_hold (fl f) (w2.alloc (.cells #[.int .i64 x0, .bool b] 60)) (w2.heap.size + 1) (by simp) x0 b HFL.out)
      have hc2 := len_le HF.out hrg2.sub.1 hrg2.sub.2
      rw [HS.out] at hc2
      simp only [List.length_append, List.length_cons, List.length_nil] at hc2
      have hsz2 := hb2.size
      clear hfx hof hsz hrow2 hb2 HO hrg2
      go_wp2_with (at_builtin; refine wpList_appG rfl (.tmp 12) (.tmp 14) _ 60 _ 2 16 rfl info_hold Try.underlying54 rfl (by decide) w.heap.size _ L.length (flat (encH (fl f)) L) rfl HO3.out _ _ 1 1 (flat (encH (fl f)) [x0]) rfl HSE.out (fun h => by cases h) (flat_encH_one _ _) (by omega) (by omega) (by simp; omega) ?_)
      intro v1 y1 ho1 hg1
      have HR4 := Lib.hid (HR3.out.off_row HO3.out hg1)
      have HB4 := Lib.hid (HB3.out.grown hg1 (by simp; omega) fun k hk => ((HO3.out.lt k hk).1))
      have HO4 := Lib.hid ho1
      clear ho1 hg1
      go_wp2_with fail
      go_roundw
      case rel => exact ⟨cnt2, L ++ [x0], HR4.out, by rw [List.length_append, flat_append]; exact HO4.out, HB4.out⟩
      case measure => rw [HR4.out.measure, HR.out.measure]; exact hlt

/-! ### Who doesn't go together with one -/
def apB (x : Int) (b : Bool) (y : Int) (c : Bool) : Bool := (y != x) && (c || b)
theorem apart_any (x : Int) (b : Bool) (w : World) : Calls Try.prog 30 #[hE ⟨x, b⟩] w fun e w' => e = .returned (.func (.func 38) #[] #[ptr w.heap.size]) ∧ w' = w.alloc (.cells #[.int .i64 x, .bool b] 60) := by
  go_enter Try.func30, Try.ntmps30
  go_wp2_with fail
  go_ret
  exact ⟨rfl, rfl⟩
set_option maxHeartbeats 1000000 in
theorem apart1_any (x : Int) (b : Bool) (p : Nat) (y : Int) (c : Bool) (w : World) (hp : Whole w p 60 #[.int .i64 x, .bool b]) :
    Calls Try.prog 38 #[hE ⟨y, c⟩, ptr p] w fun e w' => e = .returned (.bool (apB x b y c)) ∧ Below w.heap.size w w' := by
  have p0 := hp.cell 0
  have p1 := hp.cell 1
  have pz := hp.lt
  simp only [List.getElem?_toArray, List.getElem?_cons_zero, List.getElem?_cons_succ] at p0 p1
  clear hp
  unfold apB
  by_cases he : y = x
  · have q : (y != x) = false := by simpa using he
    rw [q]
    go_enter Try.func38, Try.ntmps38
    go_wp2_with fail
    go_ret
    exact ⟨rfl, (Below.refl _ _).alloc (Nat.le_refl _) _⟩
  · have q : (y != x) = true := by simpa using he
    rw [q]
    cases c with
    | true =>
      go_enter Try.func38, Try.ntmps38
      go_wp2_with fail
      go_ret
      exact ⟨rfl, (Below.refl _ _).alloc (Nat.le_refl _) _⟩
    | false =>
      go_enter Try.func38, Try.ntmps38
      go_wp2_with fail
      go_ret
      exact ⟨by simp, (Below.refl _ _).alloc (Nat.le_refl _) _⟩
def hasF (f : Lk.Fn) (x : Int) (b : Bool) : Bool := match f x with
  | some c => c || !b
  | none => false
set_option maxHeartbeats 1000000 in
theorem has_any (p : Option Nat × Option Nat) (f : Lk.Fn) (x : Int) (b : Bool) (w : World) (h : Moh w p.1 f) (hx : W64 x) :
    Calls Try.prog 18 #[rE p, hE ⟨x, b⟩] w fun e w' => e = .returned (.bool (hasF f x b)) ∧ Below w.heap.size w w' := by
  obtain ⟨o1, o2⟩ := p
  have HB := Lib.hid (((Below.refl w.heap.size w).alloc (Nat.le_refl _) (.cells #[.map o1, .map o2] 63)).alloc (by simp) (.cells #[.int .i64 x, .bool b] 60))
  have hl := ((h.call HB.out).look hE_inj Try.underlying61 (zero_hE _) hx).1
  unfold hasF
  cases hc : f x with
  | none =>
    have e1 : hF f x = none := by unfold hF; rw [hc]; rfl
    rw [e1] at hl
    simp only [Option.getD_none, Option.isSome_none] at hl
    clear h e1 hc
    go_enter Try.func18, Try.ntmps18
    go_wp2_with fail
    go_ret
    exact ⟨rfl, (HB.out).alloc (by simp; omega) _⟩
  | some c =>
    have e1 : hF f x = some ⟨x, c⟩ := by unfold hF; rw [hc]; rfl
    rw [e1] at hl
    simp only [Option.getD_some, Option.isSome_some] at hl
    clear h e1 hc
    cases c with
    | true =>
      go_enter Try.func18, Try.ntmps18
      go_wp2_with fail
      go_ret
      exact ⟨rfl, (HB.out).alloc (by simp; omega) _⟩
    | false =>
      go_enter Try.func18, Try.ntmps18
      go_wp2_with fail
      go_ret
      exact ⟨by simp, (HB.out).alloc (by simp; omega) _⟩
end Go.Proofs.Ytcjefigcaifmeaa
