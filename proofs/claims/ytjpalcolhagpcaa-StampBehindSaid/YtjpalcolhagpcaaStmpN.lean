/- Contracts at layer 10: the document's Next. -/
import Derived.Test.YtjpalcolhagpcaaStmpD
import Derived.Test.YtjpalcolhagpcaaInv
namespace Go.Proofs.Ytjpalcolhagpcaa
open Go.RowKit Go.Sp Go.Fl Go.Ck Go.Tp
set_option linter.unusedVariables false
set_option linter.unusedSimpArgs false
set_option maxRecDepth 100000

/-! ### Three appends in whatever order -/
theorem St.callB {W w w' : World} {L : List Row} {B : Nat} (h : St W w L) (hb : Below B w w') (hB : W.heap.size ≤ B) (hr : ∀ r ∈ L, r.1 < B) : St W w' L :=
  ⟨h.below.trans (hb.mono hB), fun r hr' => (h.knows r hr').below hb (hr r hr')⟩
/-- Where that region stands: B is above all blocks that are known; a: the empty row is made, b: the list was put behind it, d: the item is made, e: it was put behind the list, c: the others were put behind that. -/
structure Ag (w y : World) (L : List Row) (B p0 p8 : Nat) (v1 v2 v3 : Value) (l m : List Int) (n : Int) (a b d e c : Bool) : Prop where
  st : St w y L
  low : w.heap.size ≤ B ∧ B ≤ y.heap.size ∧ ∀ r ∈ L, r.1 < B
  own0 : a = true → b = false → y.ownsRow B 2 1 (.slice (some ⟨p0, 0, none⟩) 0 0) 0 []
  own1 : b = true → e = false → y.ownsRow B 2 1 v1 l.length (ints l)
  item : d = true → e = false → Whole y p8 2 #[.int .i64 n] ∧ B ≤ p8
  own2 : e = true → c = false → y.ownsRow B 2 1 v2 (l.length + 1) (ints (l ++ [n]))
  own3 : c = true → y.ownsRow B 2 1 v3 (l.length + 1 + m.length) (ints (l ++ [n] ++ m))
  far : a = true → b = false → d = true → e = false → p0 ≠ p8
  ord : (b = true → a = true) ∧ (e = true → b = true ∧ d = true) ∧ (c = true → e = true)
  lt0 : a = true → b = false → p0 < y.heap.size
section
variable {w y : World} {L : List Row} {B p0 p8 : Nat} {v1 v2 v3 : Value} {l m : List Int} {n : Int} {a b d e c : Bool}
theorem Ag.start (hs : St w y L) (hB : B = y.heap.size) (p0 p8 : Nat) (v1 v2 v3 : Value) (l m : List Int) (n : Int) : Ag w y L B p0 p8 v1 v2 v3 l m n false false false false false :=
  ⟨hs, ⟨by rw [hB]; exact hs.below.size, by omega, fun r hr => by rw [hB]; exact (hs.knows r hr).lt⟩, (fun h => by cases h), (fun h => by cases h), (fun h => by cases h), (fun h => by cases h), (fun h => by cases h), (fun h => by cases h), ⟨(fun h => by cases h), (fun h => by cases h), fun h => by cases h⟩, fun h => by cases h⟩
theorem Ag.noC (k : Ag w y L B p0 p8 v1 v2 v3 l m n a b d e c) (h : e = false) : c = false := by
  cases c with
  | false => rfl
  | true => have := k.ord.2.2 rfl; rw [h] at this; cases this
theorem Ag.noE (k : Ag w y L B p0 p8 v1 v2 v3 l m n a b d e c) (h : b = false ∨ d = false) : e = false := by
  cases e with
  | false => rfl
  | true =>
    have := k.ord.2.1 rfl
    rcases h with h | h
    · rw [h] at this; cases this.1
    · rw [h] at this; cases this.2
theorem Ag.noB (k : Ag w y L B p0 p8 v1 v2 v3 l m n a b d e c) (h : a = false) : b = false := by
  cases b with
  | false => rfl
  | true => have := k.ord.1 rfl; rw [h] at this; cases this
theorem own_lessB {y : World} {B g size n : Nat} {e : TypeId} {v : Value} {xs : List Value} (h : y.ownsRow g e size v n xs) (hB : B ≤ g) : y.ownsRow B e size v n xs := by
  refine ⟨h.1, ?_⟩
  rcases h.2 with hn | ⟨g', cap, cur, e1, hb, r⟩
  · exact .inl hn
  · exact .inr ⟨g', cap, cur, e1, Nat.le_trans hB hb, r⟩
theorem Ag.made (k : Ag w y L B p0 p8 v1 v2 v3 l m n false b d e c) : Ag w (y.alloc (.cells #[] 2)) L B y.heap.size p8 v1 v2 v3 l m n true b d e c := by
  have hb := k.noB rfl
  subst hb
  have he := k.noE (.inl rfl)
  subst he
  have hc := k.noC rfl
  subst hc
  refine ⟨k.st.other _, ⟨k.low.1, by have := k.low.2.1; simp; omega, k.low.2.2⟩, fun _ _ => own_lessB (own_at0 y 2 1 y.heap.size rfl) k.low.2.1, (fun h => by cases h), fun h1 h2 => ⟨(k.item h1 h2).1.alloc _, (k.item h1 h2).2⟩, (fun h => by cases h), (fun h => by cases h), fun _ _ h1 h2 => ?_, ⟨(fun h => by cases h), (fun h => by cases h), fun h => by cases h⟩, fun _ _ => by simp⟩
  have := (k.item h1 h2).1.lt
  omega
theorem Ag.item8 (k : Ag w y L B p0 p8 v1 v2 v3 l m n a b false e c) : Ag w (y.alloc (.cells #[.int .i64 n] 2)) L B p0 y.heap.size v1 v2 v3 l m n a b true e c := by
  have he := k.noE (.inr rfl)
  subst he
  have hc := k.noC rfl
  subst hc
  refine ⟨k.st.other _, ⟨k.low.1, by have := k.low.2.1; simp; omega, k.low.2.2⟩, fun h1 h2 => (k.own0 h1 h2).alloc _, fun h1 h2 => (k.own1 h1 h2).alloc _, fun _ _ => ⟨Whole.fresh y _ _, k.low.2.1⟩, (fun h => by cases h), (fun h => by cases h), fun h1 h2 _ _ => by have := k.lt0 h1 h2; omega, ⟨k.ord.1, (fun h => by cases h), fun h => by cases h⟩, fun h1 h2 => by have := k.lt0 h1 h2; simp; omega⟩
theorem Ag.app1 (k : Ag w y L B p0 p8 v1 v2 v3 l m n true false d e c) {v : Value} {y2 : World} (ho : y2.ownsRow B 2 1 v l.length (ints l)) (hg : y.grownBy y2 (some p0)) : Ag w y2 L B p0 p8 v v2 v3 l m n true true d e c := by
  have he := k.noE (.inl rfl)
  subst he
  have hc := k.noC rfl
  subst hc
  have hp : B ≤ p0 := own_block_ge (k.own0 rfl rfl) rfl
  have hb : Below B y y2 := (Below.refl _ _).grown hg k.low.2.1 (fun q hq => by injection hq with hq; omega)
  exact ⟨k.st.callB hb k.low.1 k.low.2.2, ⟨k.low.1, Nat.le_trans k.low.2.1 hb.size, k.low.2.2⟩, (fun _ h => by cases h), fun _ _ => ho, fun h1 h2 => ⟨(k.item h1 h2).1.grown hg (fun e => k.far rfl rfl h1 h2 (by injection e with e; exact e.symm)), (k.item h1 h2).2⟩, (fun h => by cases h), (fun h => by cases h), (fun _ h => by cases h), ⟨(fun _ => rfl), (fun h => by cases h), fun h => by cases h⟩, fun _ h => by cases h⟩
theorem Ag.app2 (k : Ag w y L B p0 p8 v1 v2 v3 l m n a true true false c) {v : Value} {y2 : World} (ho : y2.ownsRow B 2 1 v (l.length + 1) (ints (l ++ [n]))) (hg : y.grownBy y2 v1.ownBlock) : Ag w y2 L B p0 p8 v1 v v3 l m n a true true true c := by
  have hc := k.noC rfl
  subst hc
  have ho1 := k.own1 rfl rfl
  have hb : Below B y y2 := (Below.refl _ _).grown hg k.low.2.1 (fun q hq => own_block_ge ho1 hq)
  exact ⟨k.st.callB hb k.low.1 k.low.2.2, ⟨k.low.1, Nat.le_trans k.low.2.1 hb.size, k.low.2.2⟩, (fun _ h => by cases h), (fun _ h => by cases h), (fun _ h => by cases h), fun _ _ => ho, (fun h => by cases h), (fun _ h => by cases h), ⟨k.ord.1, (fun _ => ⟨rfl, rfl⟩), fun h => by cases h⟩, fun _ h => by cases h⟩
theorem Ag.app3 (k : Ag w y L B p0 p8 v1 v2 v3 l m n a b d true false) {v : Value} {y2 : World} (ho : y2.ownsRow B 2 1 v (l.length + 1 + m.length) (ints (l ++ [n] ++ m))) (hg : y.grownBy y2 v2.ownBlock) : Ag w y2 L B p0 p8 v1 v2 v l m n a b d true true := by
  have h1 := (k.ord.2.1 rfl).1
  subst h1
  have ho1 := k.own2 rfl rfl
  have hb : Below B y y2 := (Below.refl _ _).grown hg k.low.2.1 (fun q hq => own_block_ge ho1 hq)
  exact ⟨k.st.callB hb k.low.1 k.low.2.2, ⟨k.low.1, Nat.le_trans k.low.2.1 hb.size, k.low.2.2⟩, (fun _ h => by cases h), (fun _ h => by cases h), (fun _ h => by cases h), (fun _ h => by cases h), fun _ => ho, (fun _ h => by cases h), ⟨k.ord.1, k.ord.2.1, fun _ => rfl⟩, fun _ h => by cases h⟩
theorem Ag.sees (k : Ag w y L B p0 p8 v1 v2 v3 l m n a b true false c) : Sees y (p8 + 1) 1 (some ⟨p8, 0, none⟩) 1 (ints [n]) := by
  have hw := (k.item rfl rfl).1
  refine ⟨rfl, fun _ => ⟨p8, 0, rfl, by omega, fun j u hu => ?_⟩⟩
  rw [Nat.zero_add, hw.cell j, ← Array.getElem?_toList]
  exact hu
end

def given (m : List Int) (lo ub : Int) (l : List Int) : List Int := if nextE (top 0 m) lo ub l = 0 then m ++ [nextV (top 0 m) lo ub l] else m
set_option maxHeartbeats 8000000 in
theorem rnext_any (A : Option Addr) (cap : Nat) (m : List Int) (lo ub : Int) (A' : Option Addr) (cap' : Nat) (l : List Int) (w : World) (hr : Rw w A cap m) (hm : m.length ≤ 1000) (hr' : Rw w A' cap' l) (hl : l.length ≤ 1000) :
    Calls Try.prog 11 #[.slice A m.length cap, .agg #[.int .i64 lo, .int .i64 ub], .slice A' l.length cap'] w fun e w' => ∃ A2 cap2, e = .returned (.tuple #[.slice A2 (given m lo ub l).length cap2, .int .i64 (nextV (top 0 m) lo ub l), .int .i64 (nextE (top 0 m) lo ub l)]) ∧ Below w.heap.size w w' ∧ Rw w' A2 cap2 (given m lo ub l) ∧ (A2 = A ∨ ∀ a, A2 = some a → w.heap.size ≤ a.block) := by
  have HR := Lib.hid hr
  have HR' := Lib.hid hr'
  have HC := Lib.hid (fun w0 => ris_any lo ub w0)
  have H := Lib.hid ((St.start w).alloc w.heap.size rfl 28 #[.int .i64 lo, .int .i64 ub])
  have htop := hr.top
  have hroom := hr.room
  have htop' := hr'.top
  have hroom' := hr'.room
  have hnil := Lib.hid hr.nil
  have hnil' := Lib.hid hr'.nil
  have HV : Hid (nextE (top 0 m) lo ub l = 0 → given m lo ub l = m ++ [nextV (top 0 m) lo ub l]) := Lib.hid (fun h => by unfold given; rw [if_pos h])
  have HW : Hid (nextE (top 0 m) lo ub l ≠ 0 → given m lo ub l = m) := Lib.hid (fun h => by unfold given; rw [if_neg h])
  have HD := Lib.hid (reach_doc m lo ub l)
  clear hr hr'
  rcases next_cases (top 0 m) lo ub l with ⟨e1, e2, e3, e4, e5⟩ | ⟨e1, e2, e3, e4, e5⟩ | ⟨e1, e3, e4, e5⟩
  case' inr.inr =>
    rw [HW.out (by rw [e3]; decide), e3, e4]
    rw [e1] at HC
    clear e1 e3 e4 e5 HV HW
    obtain ⟨c0, c1, d0, d1, z0⟩ := H.out.two 0 w.heap.size rfl
    go_enter Try.func11, Try.ntmps11
    go_wp2_with fail
    refine (HC.out _).mono ?_
    rintro e w1 ⟨rfl, hb⟩
    have H1 := Lib.hid (H.out.call hb)
    clear hb c0 c1 d0 d1 z0
    go_wp2_with fail
    refine bodyPost_ret (by simp [results, Try.results11, go_sem]; try rfl) rfl ?_
    exact ⟨A, cap, rfl, H1.out.below, HR.out.call H1.out.below, .inl rfl⟩
  · rw [HV.out e3]
    rw [e3, e4]
    rw [e1] at HC
    clear e1 e3 e4 e5 HV HW
    generalize reach (top 0 m) ub l = R at *
    obtain ⟨c0, c1, d0, d1, z0⟩ := H.out.two 0 w.heap.size rfl
    go_enter Try.func11, Try.ntmps11
    go_wp2_with fail
    refine (HC.out _).mono ?_
    rintro e w1 ⟨rfl, hb⟩
    have H1 := Lib.hid (H.out.call hb)
    clear hb c0 c1 d0 d1 z0
    obtain ⟨c0, c1, d0, d1, z0⟩ := H1.out.two 0 w.heap.size rfl
    go_wp2_with fail
    refine Iv.region (fun f aa y => ∃ p0 v1 p8 v2 v3, aa = ⟨#[.slice A m.length cap, .agg #[.int .i64 lo, .int .i64 ub], .slice A' l.length cap', undef, .pointer (some ⟨w.heap.size, 0, none⟩), undef, .slice none 0 0, .int .i64 0, .int .i64 0, sl (f 9) (v3), undef, undef, .agg #[.int .i64 lo, .int .i64 ub], .bool true, .bool false, undef, sl (f 0) (.slice (some ⟨p0, 0, none⟩) 0 0), sl (f 1) (.slice A m.length cap), sl (f 2) (v1), sl (f 3) (.pointer (some ⟨w.heap.size, 1, none⟩)), sl (f 4) (.int .i64 ub), sl (f 5) (.slice (some ⟨p8, 0, none⟩) 1 1), sl (f 6) (v2), sl (f 7) (.slice A' l.length cap'), sl (f 8) (v3), undef, undef, undef, undef, undef, undef, undef, undef, undef, undef, undef, undef, undef, undef, undef, undef, undef, undef, undef, undef, undef, undef, undef, undef, undef, undef, undef, undef], []⟩ ∧ Ag w y [(w.heap.size, 28, #[.int .i64 lo, .int .i64 ub])] w1.heap.size p0 p8 v1 v2 v3 m l ub (f 0) (f 2) (f 5) (f 6) (f 8) ∧ (f 9 = true → f 8 = true)) (by kernel_rfl) (by kernel_rfl) ?_ ?_ ?_
    · exact ⟨0, undef, 0, undef, undef, rfl, ⟨Ag.start (H1.out.drewN 1) rfl 0 0 undef undef undef m l ub, fun h => by cases h⟩⟩
    · refine ⟨?_, ?_, ?_, ?_, ?_, ?_, ?_, ?_, ?_, ?_, trivial⟩
      · rintro f a0 y Q' ⟨p0, v1, p8, v2, v3, rfl, hw⟩ hi hd hQ
        replace hQ := Lib.hid hQ
        simp [Iv.depsB, Region.binds] at hd
        try simp only [hi, hd, sl_true, sl_false]
        try simp only [hi, sl_true, sl_false]
        have hw2 := hw
        rw [hi] at hw2
        go_wp2_with fail
        refine hQ.out _ _ ⟨y.heap.size, v1, p8, v2, v3, ?_, ?_⟩
        · simp [Iv.upd, hi, hd, sl_true, sl_false]
        · simpa [Iv.upd, hi, hd] using (show _ ∧ _ from ⟨hw2.1.made, hw2.2⟩)
      · rintro f a0 y Q' ⟨p0, v1, p8, v2, v3, rfl, hw⟩ hi hd hQ
        replace hQ := Lib.hid hQ
        simp [Iv.depsB, Region.binds] at hd
        try simp only [hi, hd, sl_true, sl_false]
        try simp only [hi, sl_true, sl_false]
        go_wp2_with fail
        refine hQ.out _ _ ⟨p0, v1, p8, v2, v3, ?_, ?_⟩
        · simp [Iv.upd, hi, hd, sl_true, sl_false]
        · simpa [Iv.upd, hi, hd] using hw
      · rintro f a0 y Q' ⟨p0, v1, p8, v2, v3, rfl, hw⟩ hi hd hQ
        replace hQ := Lib.hid hQ
        simp [Iv.depsB, Region.binds] at hd
        try simp only [hi, hd, sl_true, sl_false]
        try simp only [hi, sl_true, sl_false]
        have ea : f 0 = true := by simp [hd]
        have eb : f 1 = true := by simp [hd]
        have hw2 := hw
        rw [hi, ea] at hw2
        have HW2 := Lib.hid hw2
        clear hw2
        try simp only [ea, eb, sl_true]
        refine wpList_appG rfl (.tmp 16) (.tmp 17) _ 2 _ 1 8 rfl info_i64 Try.underlying26 rfl (by decide) w1.heap.size _ 0 ([]) rfl (HW2.out.1.own0 rfl rfl) w.heap.size _ _ cap (ints m) rfl (HR.out.sees.below HW2.out.1.st.below) hnil.out (ints_one m) (by omega) (by omega) HW2.out.1.low.2.1 ?_
        intro vn yn ho hg
        try rw [Nat.zero_add] at ho
        try rw [List.nil_append] at ho
        go_wp2_with fail
        refine hQ.out _ _ ⟨p0, vn, p8, v2, v3, ?_, ?_⟩
        · simp [Iv.upd, hi, hd, sl_true, sl_false, ea, eb]
        · simpa [Iv.upd, hi, hd, ea, eb] using (show _ ∧ _ from ⟨HW2.out.1.app1 ho hg, HW2.out.2⟩)
      · rintro f a0 y Q' ⟨p0, v1, p8, v2, v3, rfl, hw⟩ hi hd hQ
        replace hQ := Lib.hid hQ
        simp [Iv.depsB, Region.binds] at hd
        try simp only [hi, hd, sl_true, sl_false]
        try simp only [hi, sl_true, sl_false]
        go_wp2_with fail
        refine hQ.out _ _ ⟨p0, v1, p8, v2, v3, ?_, ?_⟩
        · simp [Iv.upd, hi, hd, sl_true, sl_false]
        · simpa [Iv.upd, hi, hd] using hw
      · rintro f a0 y Q' ⟨p0, v1, p8, v2, v3, rfl, hw⟩ hi hd hQ
        replace hQ := Lib.hid hQ
        simp [Iv.depsB, Region.binds] at hd
        try simp only [hi, hd, sl_true, sl_false]
        try simp only [hi, sl_true, sl_false]
        obtain ⟨c0, c1, d0, d1, z0⟩ := hw.1.st.two 0 w.heap.size rfl
        go_wp2_with fail
        refine hQ.out _ _ ⟨p0, v1, p8, v2, v3, ?_, ?_⟩
        · simp [Iv.upd, hi, hd, sl_true, sl_false]
        · simpa [Iv.upd, hi, hd] using hw
      · rintro f a0 y Q' ⟨p0, v1, p8, v2, v3, rfl, hw⟩ hi hd hQ
        replace hQ := Lib.hid hQ
        simp [Iv.depsB, Region.binds] at hd
        try simp only [hi, hd, sl_true, sl_false]
        try simp only [hi, sl_true, sl_false]
        have hw2 := hw
        rw [hi] at hw2
        go_wp2_with fail
        refine hQ.out _ _ ⟨p0, v1, y.heap.size, v2, v3, ?_, ?_⟩
        · simp [Iv.upd, hi, hd, sl_true, sl_false]
        · simpa [Iv.upd, hi, hd] using (show _ ∧ _ from ⟨hw2.1.item8, hw2.2⟩)
      · rintro f a0 y Q' ⟨p0, v1, p8, v2, v3, rfl, hw⟩ hi hd hQ
        replace hQ := Lib.hid hQ
        simp [Iv.depsB, Region.binds] at hd
        try simp only [hi, hd, sl_true, sl_false]
        try simp only [hi, sl_true, sl_false]
        have ea : f 2 = true := by simp [hd]
        have eb : f 5 = true := by simp [hd]
        have hw2 := hw
        rw [hi, ea, eb] at hw2
        have HW2 := Lib.hid hw2
        clear hw2
        try simp only [ea, eb, sl_true]
        refine wpList_appG rfl (.tmp 18) (.tmp 21) _ 2 _ 1 8 rfl info_i64 Try.underlying26 rfl (by decide) w1.heap.size _ m.length (ints m) rfl (HW2.out.1.own1 rfl rfl) (p8 + 1) (some ⟨p8, 0, none⟩) 1 1 (ints [ub]) rfl HW2.out.1.sees (fun h => by cases h) (ints_one [ub]) (by omega) (by omega) HW2.out.1.low.2.1 ?_
        intro vn yn ho hg
        rw [← ints_append] at ho
        go_wp2_with fail
        refine hQ.out _ _ ⟨p0, v1, p8, vn, v3, ?_, ?_⟩
        · simp [Iv.upd, hi, hd, sl_true, sl_false, ea, eb]
        · simpa [Iv.upd, hi, hd, ea, eb] using (show _ ∧ _ from ⟨HW2.out.1.app2 ho hg, HW2.out.2⟩)
      · rintro f a0 y Q' ⟨p0, v1, p8, v2, v3, rfl, hw⟩ hi hd hQ
        replace hQ := Lib.hid hQ
        simp [Iv.depsB, Region.binds] at hd
        try simp only [hi, hd, sl_true, sl_false]
        try simp only [hi, sl_true, sl_false]
        go_wp2_with fail
        refine hQ.out _ _ ⟨p0, v1, p8, v2, v3, ?_, ?_⟩
        · simp [Iv.upd, hi, hd, sl_true, sl_false]
        · simpa [Iv.upd, hi, hd] using hw
      · rintro f a0 y Q' ⟨p0, v1, p8, v2, v3, rfl, hw⟩ hi hd hQ
        replace hQ := Lib.hid hQ
        simp [Iv.depsB, Region.binds] at hd
        try simp only [hi, hd, sl_true, sl_false]
        try simp only [hi, sl_true, sl_false]
        have e9 : f 9 = false := by
          cases e : f 9 with
          | false => rfl
          | true => have := hw.2 e; simp_all
        have ea : f 6 = true := by simp [hd]
        have eb : f 7 = true := by simp [hd]
        have hw2 := hw
        rw [hi, ea] at hw2
        have HW2 := Lib.hid hw2
        clear hw2
        try simp only [ea, eb, sl_true]
        refine wpList_appG rfl (.tmp 22) (.tmp 23) _ 2 _ 1 8 rfl info_i64 Try.underlying26 rfl (by decide) w1.heap.size _ (m.length + 1) (ints (m ++ [ub])) rfl (HW2.out.1.own2 rfl rfl) w.heap.size _ _ cap' (ints l) rfl (HR'.out.sees.below HW2.out.1.st.below) hnil'.out (ints_one l) (by omega) (by omega) HW2.out.1.low.2.1 ?_
        intro vn yn ho hg
        rw [← ints_append] at ho
        go_wp2_with fail
        refine hQ.out _ _ ⟨p0, v1, p8, v2, vn, ?_, ?_⟩
        · simp [Iv.upd, hi, hd, sl_true, sl_false, ea, eb, e9]
        · simpa [Iv.upd, hi, hd, ea, eb, e9] using HW2.out.1.app3 ho hg
      · rintro f a0 y Q' ⟨p0, v1, p8, v2, v3, rfl, hw⟩ hi hd hQ
        replace hQ := Lib.hid hQ
        simp [Iv.depsB, Region.binds] at hd
        try simp only [hi, hd, sl_true, sl_false]
        try simp only [hi, sl_true, sl_false]
        have ea : f 8 = true := by simp [hd]
        try simp only [ea, sl_true]
        go_wp2_with fail
        refine hQ.out _ _ ⟨p0, v1, p8, v2, v3, ?_, ?_⟩
        · simp [Iv.upd, hi, hd, sl_true, sl_false, ea]
        · simpa [Iv.upd, hi, hd, ea] using hw.1
    · rintro f a0 y ⟨p0, v1, p8, v2, v3, rfl, hw⟩ hall
      simp only [hall 0 (by decide), hall 1 (by decide), hall 2 (by decide), hall 3 (by decide), hall 4 (by decide), hall 5 (by decide), hall 6 (by decide), hall 7 (by decide), hall 8 (by decide), hall 9 (by decide), sl_true, ↓reduceIte] at hw ⊢
      clear hall
      have HB := Lib.hid hw.1.st.below
      have HO := Lib.hid (hw.1.own3 rfl)
      clear hw H1 c0 c1 d0 d1 z0
      obtain ⟨A3, c3, rfl, -, -, -⟩ := own_slice0 HO.out
      have HX := Lib.hid (rw_of_own HO.out (by simp; omega))
      clear HO
      rw [show m.length + 1 + l.length = (m ++ [ub] ++ l).length by simp; omega]
      have hxl : (m ++ [ub] ++ l).length ≤ 2001 := by simp; omega
      generalize m ++ [ub] ++ l = xs at *
      go_wp2_with fail
      go_loopw [10, 11] (fun v i wr => ∃ k : Nat, k ≤ xs.length ∧ i = .int .i64 (k : Int) ∧ v = .int .i64 (top 0 (xs.take k)) ∧ wr = y) (fun _ i _ => xs.length - (intOf i).toNat)
      case atStart => exact ⟨0, by omega, rfl, rfl, rfl⟩
      case round =>
        obtain ⟨k, hk, rfl, rfl, e⟩ := hrel
        subst e
        by_cases hlt : k < xs.length
        · obtain ⟨n, hn⟩ : ∃ n, xs[k]? = some n := ⟨_, List.getElem?_eq_getElem hlt⟩
          obtain ⟨b0, off, rfl, hb0, g0⟩ := HX.out.cell k n hn
          have HT := Lib.hid (top_take 0 xs k n hn)
          have hkl : (k : Int) < (xs.length : Int) := by omega
          have hmx := mx_cases (top 0 (xs.take k)) n
          clear hn
          generalize top 0 (xs.take k) = S at *
          rcases hmx with ⟨m1, m2⟩ | ⟨m1, m2⟩
          all_goals
            rw [m2] at HT
            go_wp2_with fail
            go_roundw
            case rel => exact ⟨k + 1, by omega, by go_num, by rw [HT.out], by first | rfl | trivial⟩
            case measure => simp [intOf]; omega
        · obtain rfl : k = xs.length := by omega
          rw [List.take_length, HD.out]
          have hge := (le_top [ub] 0)
          have hge2 := le_top xs 0
          rw [HD.out] at hge2
          have hyw := HB.out.size
          have e9 : IntKind.i64.wrap (R + 1) = R + 1 := by rw [IntKind.wrap_i64]; omega
          go_wp2_with (at_builtin; refine wpList_appG rfl (.tmp 44) (.tmp 45) _ 2 _ 1 8 rfl info_i64 Try.underlying26 rfl (by decide) wr.heap.size _ 0 [] rfl (own_at0 _ 2 1 _ rfl) w.heap.size _ _ cap (ints m) rfl ((HR.out.sees.below HB.out).alloc hyw _) hnil.out (ints_one m) (by omega) (by omega) (by simp) ?_)
          intro v1 y1 ho1 hg1
          try rw [Nat.zero_add] at ho1
          try rw [List.nil_append] at ho1
          have hb1 : Below w.heap.size w y1 := (HB.out.alloc hyw _).grown hg1 (by simp; omega) (fun k hk => by
            have : some wr.heap.size = some k := hk
            injection this with this
            omega)
          have HO1 := Lib.hid ho1
          have HB1 := Lib.hid hb1
          have hy1 := hb1.size
          have hy2 : wr.heap.size ≤ y1.heap.size := by have := hg1.size; simp at this; omega
          obtain ⟨A1, cp1, rfl, -, -, -⟩ := own_slice0 ho1
          clear ho1 hg1 hb1
          go_wp2_with (at_builtin; refine wpList_appG rfl (.tmp 46) (.tmp 49) _ 2 _ 1 8 rfl info_i64 Try.underlying26 rfl (by decide) wr.heap.size _ m.length (ints m) rfl (HO1.out.alloc _) (y1.heap.size + 1) (some ⟨y1.heap.size, 0, none⟩) 1 1 (ints [R + 1]) rfl (sees_one y1 _ rfl (R + 1)) (fun h => by cases h) (ints_one [R + 1]) (by omega) (by omega) (by simp; omega) ?_)
          intro v2 y2 ho2 hg2
          rw [← ints_append] at ho2
          have hb2 : Below w.heap.size w y2 := (HB1.out.alloc hy1 _).grown hg2 (by simp; omega) (fun k hk => by have := own_block_ge HO1.out hk; omega)
          obtain ⟨A2, cp2, rfl, -, -, -⟩ := own_slice0 ho2
          go_wp2_with fail
          refine bodyPost_ret (by simp [results, Try.results11, go_sem]; try rfl) rfl ?_
          exact ⟨A2, cp2, by simp, hb2, rw_of_own (n := m.length + 1) ho2 (by simp), .inr (fun a ha => own_low ho2 ha hyw)⟩
  · rw [HW.out (by rw [e3]; decide)]
    rw [e3, e4]
    rw [e1] at HC
    clear e1 e3 e4 e5 HV HW
    generalize reach (top 0 m) ub l = R at *
    obtain ⟨c0, c1, d0, d1, z0⟩ := H.out.two 0 w.heap.size rfl
    go_enter Try.func11, Try.ntmps11
    go_wp2_with fail
    refine (HC.out _).mono ?_
    rintro e w1 ⟨rfl, hb⟩
    have H1 := Lib.hid (H.out.call hb)
    clear hb c0 c1 d0 d1 z0
    obtain ⟨c0, c1, d0, d1, z0⟩ := H1.out.two 0 w.heap.size rfl
    go_wp2_with fail
    refine Iv.region (fun f aa y => ∃ p0 v1 p8 v2 v3, aa = ⟨#[.slice A m.length cap, .agg #[.int .i64 lo, .int .i64 ub], .slice A' l.length cap', undef, .pointer (some ⟨w.heap.size, 0, none⟩), undef, .slice none 0 0, .int .i64 0, .int .i64 0, sl (f 9) (v3), undef, undef, .agg #[.int .i64 lo, .int .i64 ub], .bool true, .bool false, undef, sl (f 0) (.slice (some ⟨p0, 0, none⟩) 0 0), sl (f 1) (.slice A m.length cap), sl (f 2) (v1), sl (f 3) (.pointer (some ⟨w.heap.size, 1, none⟩)), sl (f 4) (.int .i64 ub), sl (f 5) (.slice (some ⟨p8, 0, none⟩) 1 1), sl (f 6) (v2), sl (f 7) (.slice A' l.length cap'), sl (f 8) (v3), undef, undef, undef, undef, undef, undef, undef, undef, undef, undef, undef, undef, undef, undef, undef, undef, undef, undef, undef, undef, undef, undef, undef, undef, undef, undef, undef, undef], []⟩ ∧ Ag w y [(w.heap.size, 28, #[.int .i64 lo, .int .i64 ub])] w1.heap.size p0 p8 v1 v2 v3 m l ub (f 0) (f 2) (f 5) (f 6) (f 8) ∧ (f 9 = true → f 8 = true)) (by kernel_rfl) (by kernel_rfl) ?_ ?_ ?_
    · exact ⟨0, undef, 0, undef, undef, rfl, ⟨Ag.start (H1.out.drewN 1) rfl 0 0 undef undef undef m l ub, fun h => by cases h⟩⟩
    · refine ⟨?_, ?_, ?_, ?_, ?_, ?_, ?_, ?_, ?_, ?_, trivial⟩
      · rintro f a0 y Q' ⟨p0, v1, p8, v2, v3, rfl, hw⟩ hi hd hQ
        replace hQ := Lib.hid hQ
        simp [Iv.depsB, Region.binds] at hd
        try simp only [hi, hd, sl_true, sl_false]
        try simp only [hi, sl_true, sl_false]
        have hw2 := hw
        rw [hi] at hw2
        go_wp2_with fail
        refine hQ.out _ _ ⟨y.heap.size, v1, p8, v2, v3, ?_, ?_⟩
        · simp [Iv.upd, hi, hd, sl_true, sl_false]
        · simpa [Iv.upd, hi, hd] using (show _ ∧ _ from ⟨hw2.1.made, hw2.2⟩)
      · rintro f a0 y Q' ⟨p0, v1, p8, v2, v3, rfl, hw⟩ hi hd hQ
        replace hQ := Lib.hid hQ
        simp [Iv.depsB, Region.binds] at hd
        try simp only [hi, hd, sl_true, sl_false]
        try simp only [hi, sl_true, sl_false]
        go_wp2_with fail
        refine hQ.out _ _ ⟨p0, v1, p8, v2, v3, ?_, ?_⟩
        · simp [Iv.upd, hi, hd, sl_true, sl_false]
        · simpa [Iv.upd, hi, hd] using hw
      · rintro f a0 y Q' ⟨p0, v1, p8, v2, v3, rfl, hw⟩ hi hd hQ
        replace hQ := Lib.hid hQ
        simp [Iv.depsB, Region.binds] at hd
        try simp only [hi, hd, sl_true, sl_false]
        try simp only [hi, sl_true, sl_false]
        have ea : f 0 = true := by simp [hd]
        have eb : f 1 = true := by simp [hd]
        have hw2 := hw
        rw [hi, ea] at hw2
        have HW2 := Lib.hid hw2
        clear hw2
        try simp only [ea, eb, sl_true]
        refine wpList_appG rfl (.tmp 16) (.tmp 17) _ 2 _ 1 8 rfl info_i64 Try.underlying26 rfl (by decide) w1.heap.size _ 0 ([]) rfl (HW2.out.1.own0 rfl rfl) w.heap.size _ _ cap (ints m) rfl (HR.out.sees.below HW2.out.1.st.below) hnil.out (ints_one m) (by omega) (by omega) HW2.out.1.low.2.1 ?_
        intro vn yn ho hg
        try rw [Nat.zero_add] at ho
        try rw [List.nil_append] at ho
        go_wp2_with fail
        refine hQ.out _ _ ⟨p0, vn, p8, v2, v3, ?_, ?_⟩
        · simp [Iv.upd, hi, hd, sl_true, sl_false, ea, eb]
        · simpa [Iv.upd, hi, hd, ea, eb] using (show _ ∧ _ from ⟨HW2.out.1.app1 ho hg, HW2.out.2⟩)
      · rintro f a0 y Q' ⟨p0, v1, p8, v2, v3, rfl, hw⟩ hi hd hQ
        replace hQ := Lib.hid hQ
        simp [Iv.depsB, Region.binds] at hd
        try simp only [hi, hd, sl_true, sl_false]
        try simp only [hi, sl_true, sl_false]
        go_wp2_with fail
        refine hQ.out _ _ ⟨p0, v1, p8, v2, v3, ?_, ?_⟩
        · simp [Iv.upd, hi, hd, sl_true, sl_false]
        · simpa [Iv.upd, hi, hd] using hw
      · rintro f a0 y Q' ⟨p0, v1, p8, v2, v3, rfl, hw⟩ hi hd hQ
        replace hQ := Lib.hid hQ
        simp [Iv.depsB, Region.binds] at hd
        try simp only [hi, hd, sl_true, sl_false]
        try simp only [hi, sl_true, sl_false]
        obtain ⟨c0, c1, d0, d1, z0⟩ := hw.1.st.two 0 w.heap.size rfl
        go_wp2_with fail
        refine hQ.out _ _ ⟨p0, v1, p8, v2, v3, ?_, ?_⟩
        · simp [Iv.upd, hi, hd, sl_true, sl_false]
        · simpa [Iv.upd, hi, hd] using hw
      · rintro f a0 y Q' ⟨p0, v1, p8, v2, v3, rfl, hw⟩ hi hd hQ
        replace hQ := Lib.hid hQ
        simp [Iv.depsB, Region.binds] at hd
        try simp only [hi, hd, sl_true, sl_false]
        try simp only [hi, sl_true, sl_false]
        have hw2 := hw
        rw [hi] at hw2
        go_wp2_with fail
        refine hQ.out _ _ ⟨p0, v1, y.heap.size, v2, v3, ?_, ?_⟩
        · simp [Iv.upd, hi, hd, sl_true, sl_false]
        · simpa [Iv.upd, hi, hd] using (show _ ∧ _ from ⟨hw2.1.item8, hw2.2⟩)
      · rintro f a0 y Q' ⟨p0, v1, p8, v2, v3, rfl, hw⟩ hi hd hQ
        replace hQ := Lib.hid hQ
        simp [Iv.depsB, Region.binds] at hd
        try simp only [hi, hd, sl_true, sl_false]
        try simp only [hi, sl_true, sl_false]
        have ea : f 2 = true := by simp [hd]
        have eb : f 5 = true := by simp [hd]
        have hw2 := hw
        rw [hi, ea, eb] at hw2
        have HW2 := Lib.hid hw2
        clear hw2
        try simp only [ea, eb, sl_true]
        refine wpList_appG rfl (.tmp 18) (.tmp 21) _ 2 _ 1 8 rfl info_i64 Try.underlying26 rfl (by decide) w1.heap.size _ m.length (ints m) rfl (HW2.out.1.own1 rfl rfl) (p8 + 1) (some ⟨p8, 0, none⟩) 1 1 (ints [ub]) rfl HW2.out.1.sees (fun h => by cases h) (ints_one [ub]) (by omega) (by omega) HW2.out.1.low.2.1 ?_
        intro vn yn ho hg
        rw [← ints_append] at ho
        go_wp2_with fail
        refine hQ.out _ _ ⟨p0, v1, p8, vn, v3, ?_, ?_⟩
        · simp [Iv.upd, hi, hd, sl_true, sl_false, ea, eb]
        · simpa [Iv.upd, hi, hd, ea, eb] using (show _ ∧ _ from ⟨HW2.out.1.app2 ho hg, HW2.out.2⟩)
      · rintro f a0 y Q' ⟨p0, v1, p8, v2, v3, rfl, hw⟩ hi hd hQ
        replace hQ := Lib.hid hQ
        simp [Iv.depsB, Region.binds] at hd
        try simp only [hi, hd, sl_true, sl_false]
        try simp only [hi, sl_true, sl_false]
        go_wp2_with fail
        refine hQ.out _ _ ⟨p0, v1, p8, v2, v3, ?_, ?_⟩
        · simp [Iv.upd, hi, hd, sl_true, sl_false]
        · simpa [Iv.upd, hi, hd] using hw
      · rintro f a0 y Q' ⟨p0, v1, p8, v2, v3, rfl, hw⟩ hi hd hQ
        replace hQ := Lib.hid hQ
        simp [Iv.depsB, Region.binds] at hd
        try simp only [hi, hd, sl_true, sl_false]
        try simp only [hi, sl_true, sl_false]
        have e9 : f 9 = false := by
          cases e : f 9 with
          | false => rfl
          | true => have := hw.2 e; simp_all
        have ea : f 6 = true := by simp [hd]
        have eb : f 7 = true := by simp [hd]
        have hw2 := hw
        rw [hi, ea] at hw2
        have HW2 := Lib.hid hw2
        clear hw2
        try simp only [ea, eb, sl_true]
        refine wpList_appG rfl (.tmp 22) (.tmp 23) _ 2 _ 1 8 rfl info_i64 Try.underlying26 rfl (by decide) w1.heap.size _ (m.length + 1) (ints (m ++ [ub])) rfl (HW2.out.1.own2 rfl rfl) w.heap.size _ _ cap' (ints l) rfl (HR'.out.sees.below HW2.out.1.st.below) hnil'.out (ints_one l) (by omega) (by omega) HW2.out.1.low.2.1 ?_
        intro vn yn ho hg
        rw [← ints_append] at ho
        go_wp2_with fail
        refine hQ.out _ _ ⟨p0, v1, p8, v2, vn, ?_, ?_⟩
        · simp [Iv.upd, hi, hd, sl_true, sl_false, ea, eb, e9]
        · simpa [Iv.upd, hi, hd, ea, eb, e9] using HW2.out.1.app3 ho hg
      · rintro f a0 y Q' ⟨p0, v1, p8, v2, v3, rfl, hw⟩ hi hd hQ
        replace hQ := Lib.hid hQ
        simp [Iv.depsB, Region.binds] at hd
        try simp only [hi, hd, sl_true, sl_false]
        try simp only [hi, sl_true, sl_false]
        have ea : f 8 = true := by simp [hd]
        try simp only [ea, sl_true]
        go_wp2_with fail
        refine hQ.out _ _ ⟨p0, v1, p8, v2, v3, ?_, ?_⟩
        · simp [Iv.upd, hi, hd, sl_true, sl_false, ea]
        · simpa [Iv.upd, hi, hd, ea] using hw.1
    · rintro f a0 y ⟨p0, v1, p8, v2, v3, rfl, hw⟩ hall
      simp only [hall 0 (by decide), hall 1 (by decide), hall 2 (by decide), hall 3 (by decide), hall 4 (by decide), hall 5 (by decide), hall 6 (by decide), hall 7 (by decide), hall 8 (by decide), hall 9 (by decide), sl_true, ↓reduceIte] at hw ⊢
      clear hall
      have HB := Lib.hid hw.1.st.below
      have HO := Lib.hid (hw.1.own3 rfl)
      clear hw H1 c0 c1 d0 d1 z0
      obtain ⟨A3, c3, rfl, -, -, -⟩ := own_slice0 HO.out
      have HX := Lib.hid (rw_of_own HO.out (by simp; omega))
      clear HO
      rw [show m.length + 1 + l.length = (m ++ [ub] ++ l).length by simp; omega]
      have hxl : (m ++ [ub] ++ l).length ≤ 2001 := by simp; omega
      generalize m ++ [ub] ++ l = xs at *
      go_wp2_with fail
      go_loopw [10, 11] (fun v i wr => ∃ k : Nat, k ≤ xs.length ∧ i = .int .i64 (k : Int) ∧ v = .int .i64 (top 0 (xs.take k)) ∧ wr = y) (fun _ i _ => xs.length - (intOf i).toNat)
      case atStart => exact ⟨0, by omega, rfl, rfl, rfl⟩
      case round =>
        obtain ⟨k, hk, rfl, rfl, e⟩ := hrel
        subst e
        by_cases hlt : k < xs.length
        · obtain ⟨n, hn⟩ : ∃ n, xs[k]? = some n := ⟨_, List.getElem?_eq_getElem hlt⟩
          obtain ⟨b0, off, rfl, hb0, g0⟩ := HX.out.cell k n hn
          have HT := Lib.hid (top_take 0 xs k n hn)
          have hkl : (k : Int) < (xs.length : Int) := by omega
          have hmx := mx_cases (top 0 (xs.take k)) n
          clear hn
          generalize top 0 (xs.take k) = S at *
          rcases hmx with ⟨m1, m2⟩ | ⟨m1, m2⟩
          all_goals
            rw [m2] at HT
            go_wp2_with fail
            go_roundw
            case rel => exact ⟨k + 1, by omega, by go_num, by rw [HT.out], by first | rfl | trivial⟩
            case measure => simp [intOf]; omega
        · obtain rfl : k = xs.length := by omega
          rw [List.take_length, HD.out]
          go_wp2_with fail
          refine bodyPost_ret (by simp [results, Try.results11, go_sem]; try rfl) rfl ?_
          exact ⟨A, cap, rfl, HB.out, HR.out.call HB.out, .inl rfl⟩
end Go.Proofs.Ytjpalcolhagpcaa
