/- A book in memory, and contracts of the program's calls on it at layer 14: isAccount, New, Open, Has, Paid. -/
import Derived.Test.YtmemfbdikinegaaMapG
import Derived.Test.YtmemfbdikinegaaLedM
import Derived.Test.YtmemfbdikinegaaFee
namespace Go.Proofs.Ytmemfbdikinegaa
open Go.RowKit Go.Lk Go.Am Go.Ld
set_option linter.unusedVariables false
set_option linter.unusedSimpArgs false
set_option maxRecDepth 100000

abbrev pu (p : Pu) : Value := .agg #[.int .i64 p.has, .int .i64 p.paid]
theorem pu_inj : Inj pu := fun a b h => by
  obtain ⟨a1, a2⟩ := a
  obtain ⟨b1, b2⟩ := b
  simpa [pu] using h
theorem zero_pu (w : World) : (zeroValue 58).run Try.prog w = .ok (pu ⟨0, 0⟩) w := by kernel_rfl
/-- Block g is a book's face, over the map mb, with the rate x. -/
structure Bk (w : World) (g mb x : Nat) (f : Acc) : Prop where
  face : Whole w g 56 #[.float .f64 x, .map (some mb)]
  mv : Mv pu w mb f
section
variable {w w' : World} {g mb x : Nat} {f f' : Acc}
theorem Bk.call (h : Bk w g mb x f) (hb : Below w.heap.size w w') : Bk w' g mb x f := ⟨h.face.below hb h.face.lt, h.mv.call hb⟩
theorem Bk.ne (h : Bk w g mb x f) : mb ≠ g := h.mv.notCells h.face
theorem Bk.cells (h : Bk w g mb x f) : w.cell? ⟨g, 0, none⟩ = some (.float .f64 x) ∧ w.cell? ⟨g, 1, none⟩ = some (.map (some mb)) ∧ g < w.heap.size := ⟨h.face.cell 0, h.face.cell 1, h.face.lt⟩
theorem Bk.look (h : Bk w g mb x f) {a : Int} (ha : W64 a) :
    (Instr.lookup 54 (.map (some mb)) (.int .i64 a) true).run Try.prog w = .ok (.tuple #[pu ((f a).getD ⟨0, 0⟩), .bool (f a).isSome]) w ∧ (Instr.lookup 54 (.map (some mb)) (.int .i64 a) false).run Try.prog w = .ok (pu ((f a).getD ⟨0, 0⟩)) w :=
  h.mv.look pu_inj Try.underlying54 (zero_pu w) ha
theorem Bk.off {F : Nat → Prop} (h : Bk w g mb x f) (ho : Off F w w') (hg : ¬ F g) (hm : ¬ F mb) : Bk w' g mb x f := ⟨ho.whole h.face hg, h.mv.at (ho.block mb h.mv.lt hm)⟩
theorem Bk.put (h : Bk w g mb x f) (ho : Off (fun b => b = mb) w w') (hm : Mv pu w' mb f') : Bk w' g mb x f' := ⟨ho.whole h.face fun e => h.ne e.symm, hm⟩
end

/-- The worlds in which nothing old has changed. -/
theorem below_class (w : World) : ∃ C : World → Prop, C w.drew ∧ Hid (∀ a b, C a → Below a.heap.size a b → C b) ∧ Hid (∀ a, C a → Below w.heap.size w a) :=
  ⟨fun a => Below w.heap.size w a, drew_below w 1, Lib.hid fun a b ha hb => ha.trans (hb.mono ha.size), Lib.hid fun a ha => ha⟩
theorem isacc_any (a : Int) (w : World) : Calls Try.prog 24 #[.int .i64 a] w fun e w' => e = .returned (.bool (acc a)) ∧ w' = w := by
  by_cases h0 : 0 ≤ a
  · by_cases h1 : a < 4096
    · have H : Hid (acc a = true) := Lib.hid ((acc_iff a).2 ⟨h0, h1⟩)
      go_enter Try.func24, Try.ntmps24
      go_wp2_with fail
      go_ret
      exact ⟨by rw [H.out]; rfl, rfl⟩
    · have H : Hid (acc a = false) := Lib.hid (by unfold acc; rw [decide_eq_false_iff_not]; omega)
      go_enter Try.func24, Try.ntmps24
      go_wp2_with fail
      go_ret
      exact ⟨by rw [H.out]; rfl, rfl⟩
  · have H : Hid (acc a = false) := Lib.hid (by unfold acc; rw [decide_eq_false_iff_not]; omega)
    go_enter Try.func24, Try.ntmps24
    go_wp2_with fail
    go_ret
    exact ⟨by rw [H.out]; rfl, rfl⟩

/-- New: a book with the rate, or none. -/
theorem new_any (x : Nat) (hx : x < 18446744073709551616) (w : World) : Calls Try.prog 18 #[.float .f64 x] w fun e w' => Below w.heap.size w w' ∧
    ((rated x = false ∧ e = .returned (.tuple #[.pointer none, .int .i64 140])) ∨ ∃ g mb, rated x = true ∧ e = .returned (.tuple #[ptr g, .int .i64 0]) ∧ Bk w' g mb x (fun _ => none) ∧ w.heap.size ≤ g ∧ w.heap.size ≤ mb) := by
  have HR := Lib.hid (fun w0 => rate_same x hx w0)
  have hmm := @run_makeMap Try.prog
  cases h : rated x with
  | false =>
    have e1 : rateE x = 43 := by unfold rateE; rw [h]; rfl
    rw [e1] at HR
    clear h e1 hx
    go_enter Try.func18, Try.ntmps18
    go_wp2_with fail
    refine (HR.out _).mono ?_
    rintro e w1 ⟨rfl, rfl⟩
    go_wp2_with fail
    go_ret2
    exact ⟨Below.refl _ _, .inl ⟨trivial, rfl⟩⟩
  | true =>
    have e1 : rateE x = 0 := by unfold rateE; rw [h]; rfl
    rw [e1] at HR
    clear h e1 hx
    go_enter Try.func18, Try.ntmps18
    go_wp2_with fail
    refine (HR.out _).mono ?_
    rintro e w1 ⟨rfl, rfl⟩
    go_wp2_with fail
    go_ret2
    have h1 : (w1.alloc (.map #[] 0)).heap.size = w1.heap.size + 1 := by simp
    have hb := ((Below.refl w1.heap.size w1).alloc (Nat.le_refl _) (.map #[] 0)).alloc (by simp) (.cells #[.float .f64 x, .map (some w1.heap.size)] 56)
    refine ⟨hb, .inr ⟨w1.heap.size + 1, w1.heap.size, trivial, rfl, ⟨?_, ?_⟩, by omega, Nat.le_refl _⟩⟩
    · have := Whole.fresh (w1.alloc (.map #[] 0)) 56 #[.float .f64 x, .map (some w1.heap.size)]
      rw [h1] at this
      exact this
    · have := (Mv.made (enc := pu) w1).call ((Below.refl _ _).alloc (Nat.le_refl _) (.cells #[.float .f64 x, .map (some w1.heap.size)] 56))
      exact this

section
variable {w : World} {g mb x : Nat} {f : Acc}
theorem has_any (a : Int) (ha : W64 a) (h : Bk w g mb x f) : Calls Try.prog 15 #[ptr g, .int .i64 a] w fun e w' => e = .returned (.tuple #[.int .i64 ((f a).getD ⟨0, 0⟩).has, .bool (f a).isSome]) ∧ Below w.heap.size w w' := by
  obtain ⟨c0, c1, cz⟩ := h.cells
  have hl := (h.look ha).1
  generalize (f a).getD ⟨0, 0⟩ = p at *
  generalize (f a).isSome = s at *
  obtain ⟨ph, pp⟩ := p
  clear h ha
  go_enter Try.func15, Try.ntmps15
  go_wp2_with fail
  go_ret2
  exact ⟨rfl, (Below.refl _ _).alloc (Nat.le_refl _) _⟩
theorem paid_any (a : Int) (ha : W64 a) (h : Bk w g mb x f) : Calls Try.prog 16 #[ptr g, .int .i64 a] w fun e w' => e = .returned (.int .i64 ((f a).getD ⟨0, 0⟩).paid) ∧ w' = w := by
  obtain ⟨c0, c1, cz⟩ := h.cells
  have hl := (h.look ha).2
  have hf : ∀ (p : Pu) (z : World), (Instr.field 58 (pu p) 1).run Try.prog z = .ok (.int .i64 p.paid) z := fun p z => by kernel_rfl
  have hf := hf ((f a).getD ⟨0, 0⟩) w
  generalize (f a).getD ⟨0, 0⟩ = p at *
  obtain ⟨ph, pp⟩ := p
  clear h ha
  go_enter Try.func16, Try.ntmps16
  go_wp2_with fail
  go_ret
  exact ⟨rfl, rfl⟩
set_option maxHeartbeats 1000000 in
theorem open_any (a n : Int) (ha : W64 a) (h : Bk w g mb x f) (hF : Fine f) :
    Calls Try.prog 19 #[ptr g, .int .i64 a, .int .i64 n] w fun e w' => e = .returned (.int .i64 (openE f a n)) ∧ Off (fun b => b = mb) w w' ∧ Bk w' g mb x (openF f a n) := by
  have HA := Lib.hid (fun w0 => isacc_any a w0)
  have HC := Lib.hid (fun w0 => check_same n w0)
  have HK := Lib.hid h
  have HN := Lib.hid (acc_len hF)
  obtain ⟨c0, c1, cz⟩ := h.cells
  have hl := (h.look ha).1
  have bad : ∀ e : Int, openE f a n = e → e ≠ 0 → Hid (openE f a n = e ∧ openF f a n = f) := fun e h1 h2 => Lib.hid ⟨h1, by unfold openF; rw [h1, if_neg h2]⟩
  cases ea : acc a with
  | false =>
    have HE := bad 141 (by unfold openE; rw [if_pos ea]) (by decide)
    rw [ea] at HA
    generalize (f a).getD ⟨0, 0⟩ = p at *
    generalize (f a).isSome = s at *
    obtain ⟨ph, pp⟩ := p
    clear h ha ea bad hF
    go_enter Try.func19, Try.ntmps19
    go_wp2_with fail
    refine (HA.out _).mono ?_
    rintro e w1 ⟨rfl, rfl⟩
    go_wp2_with fail
    go_ret
    rw [HE.out.1, HE.out.2]
    exact ⟨rfl, (Off.refl _ _).alloc _, HK.out.call ((Below.refl _ _).alloc (Nat.le_refl _) _)⟩
  | true =>
    rw [ea] at HA
    cases es : f a with
    | some p =>
      have HE := bad 142 (by unfold openE; rw [if_neg (by rw [ea]; decide), es]; rfl) (by decide)
      rw [es] at hl
      simp only [Option.getD_some, Option.isSome_some] at hl
      obtain ⟨ph, pp⟩ := p
      clear h ha ea es bad hF
      go_enter Try.func19, Try.ntmps19
      go_wp2_with fail
      refine (HA.out _).mono ?_
      rintro e w1 ⟨rfl, rfl⟩
      go_wp2_with fail
      go_ret
      rw [HE.out.1, HE.out.2]
      exact ⟨rfl, (Off.refl _ _).alloc _, HK.out.call ((Below.refl _ _).alloc (Nat.le_refl _) _)⟩
    | none =>
      rw [es] at hl
      simp only [Option.getD_none, Option.isSome_none] at hl
      rcases chk_cases n with ⟨i1, e1, -, -⟩ | ⟨i1, e1, -⟩
      · have HE : Hid (openE f a n = 0 ∧ openF f a n = upd f a (some ⟨n, 0⟩)) := by
          have : openE f a n = 0 := by unfold openE; rw [if_neg (by rw [ea]; decide), es, if_neg (by decide), if_neg (by rw [i1]; decide)]
          exact Lib.hid ⟨this, by unfold openF; rw [this, if_pos rfl]⟩
        rw [e1] at HC
        have hb := (Below.refl w.heap.size w).alloc (Nat.le_refl _) (.cells #[.int .i64 0, .int .i64 0] 58)
        have HB := Lib.hid hb
        have HM := Lib.hid (h.mv.call hb)
        have HW := Lib.hid ha
        have hn9 : (supp f).length ≤ 1000000000 := by have := HN.out; omega
        have HN9 := Lib.hid hn9
        clear h ha ea es bad hF i1 e1 hb hn9
        go_enter Try.func19, Try.ntmps19
        go_wp2_with fail
        refine (HA.out _).mono ?_
        rintro e w1 ⟨rfl, e2⟩
        subst w1
        go_wp2_with fail
        refine (HC.out _).mono ?_
        rintro e w1 ⟨rfl, e2⟩
        subst w1
        go_wp2_with (at_mapUpdate; refine wpList_put_mv _ pu_inj rfl _ _ _ 54 rfl 58 Try.underlying54 mb f rfl HM.out a rfl HW.out ⟨n, 0⟩ rfl HN9.out ?_)
        intro w5 hm5 ho5 hs5
        have HM5 := Lib.hid hm5
        have HO5 := Lib.hid ho5
        clear hm5 ho5 hs5
        go_wp2_with fail
        go_ret
        rw [HE.out.1, HE.out.2]
        exact ⟨rfl, ((Off.refl _ _).alloc _).trans HO5.out, (HK.out.call HB.out).put HO5.out HM5.out⟩
      · have HE := bad 143 (by unfold openE; rw [if_neg (by rw [ea]; decide), es, if_neg (by decide), if_pos i1]) (by decide)
        rw [e1] at HC
        clear h ha ea es bad hF i1 e1
        go_enter Try.func19, Try.ntmps19
        go_wp2_with fail
        refine (HA.out _).mono ?_
        rintro e w1 ⟨rfl, e2⟩
        subst w1
        go_wp2_with fail
        refine (HC.out _).mono ?_
        rintro e w1 ⟨rfl, e2⟩
        subst w1
        go_wp2_with fail
        go_ret
        rw [HE.out.1, HE.out.2]
        exact ⟨rfl, (Off.refl _ _).alloc _, HK.out.call ((Below.refl _ _).alloc (Nat.le_refl _) _)⟩
end
end Go.Proofs.Ytmemfbdikinegaa
