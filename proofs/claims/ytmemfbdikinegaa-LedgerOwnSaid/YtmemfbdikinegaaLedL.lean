/- The contract of a book's List at layer 14. -/
import Derived.Test.YtmemfbdikinegaaLedS
import Derived.Test.YtmemfbdikinegaaLedW
namespace Go.Ld
open Go.Lk
set_option linter.unusedVariables false
/-- The keys R stand for the accounts L. -/
structure Cov (f : Acc) (L R : List Int) : Prop where
  once : R.Nodup
  mem : ∀ k, k ∈ R ↔ (ent f k).isSome = true ∧ (k ∈ L ∨ k - 4096 ∈ L)
section
variable {f : Acc} {L R : List Int}
theorem Cov.nil : Cov f [] [] := ⟨List.nodup_nil, fun k => by simp⟩
theorem Cov.len (h : Fine f) (c : Cov f L R) : R.length ≤ (supp (ent f)).length := len_sub c.once fun k hk => (supp_mem (ent_fin h) k).2 ((c.mem k).1 hk).1
theorem Cov.one (h : Fine f) (c : Cov f L R) (hL : ∀ y ∈ L, (f y).isSome = true) {x : Int} {p : Pu} (hx : f x = some p) (hn : x ∉ L) (h0 : p.paid = 0) : Cov f (L ++ [x]) (R ++ [x]) := by
  have rg : ∀ y ∈ L, 0 ≤ y ∧ y < 4096 := fun y hy => by
    obtain ⟨q, hq⟩ := Option.isSome_iff_exists.1 (hL y hy)
    exact h.inn y q hq
  have rx := h.inn x p hx
  have e1 := ent_low h hx
  have e2 := ent_high h hx
  rw [if_pos h0] at e2
  refine ⟨List.nodup_append.2 ⟨c.once, by simp, fun a ha b hb e => ?_⟩, fun k => ?_⟩
  · rw [List.mem_singleton.1 hb] at e
    subst e
    rcases ((c.mem a).1 ha).2 with h1 | h1
    · exact hn h1
    · have := rg _ h1; omega
  · rw [List.mem_append, List.mem_append, List.mem_append, List.mem_singleton, List.mem_singleton, c.mem]
    constructor
    · rintro (⟨h1, h2⟩ | rfl)
      · exact ⟨h1, by rcases h2 with h2 | h2 <;> simp [h2]⟩
      · exact ⟨by rw [e1]; rfl, .inl (.inr rfl)⟩
    · rintro ⟨h1, (h2 | h2) | h2 | h2⟩
      · exact .inl ⟨h1, .inl h2⟩
      · exact .inr h2
      · exact .inl ⟨h1, .inr h2⟩
      · have : k = 4096 + x := by omega
        rw [this, e2] at h1
        cases h1
theorem Cov.two (h : Fine f) (c : Cov f L R) (hL : ∀ y ∈ L, (f y).isSome = true) {x : Int} {p : Pu} (hx : f x = some p) (hn : x ∉ L) (h0 : p.paid ≠ 0) : Cov f (L ++ [x]) (R ++ [x] ++ [4096 + x]) := by
  have rg : ∀ y ∈ L, 0 ≤ y ∧ y < 4096 := fun y hy => by
    obtain ⟨q, hq⟩ := Option.isSome_iff_exists.1 (hL y hy)
    exact h.inn y q hq
  have rx := h.inn x p hx
  have e1 := ent_low h hx
  have e2 := ent_high h hx
  rw [if_neg h0] at e2
  refine ⟨List.nodup_append.2 ⟨List.nodup_append.2 ⟨c.once, by simp, fun a ha b hb e => ?_⟩, by simp, fun a ha b hb e => ?_⟩, fun k => ?_⟩
  · rw [List.mem_singleton.1 hb] at e
    subst e
    rcases ((c.mem a).1 ha).2 with h1 | h1
    · exact hn h1
    · have := rg _ h1; omega
  · rw [List.mem_singleton.1 hb] at e
    subst e
    rcases List.mem_append.1 ha with ha | ha
    · rcases ((c.mem _).1 ha).2 with h1 | h1
      · have := rg _ h1; omega
      · rw [show (4096 + x - 4096 : Int) = x by omega] at h1; exact hn h1
    · have := List.mem_singleton.1 ha; omega
  · rw [List.mem_append, List.mem_append, List.mem_append, List.mem_append, List.mem_singleton, List.mem_singleton, List.mem_singleton, c.mem]
    constructor
    · rintro ((⟨h1, h2⟩ | rfl) | rfl)
      · exact ⟨h1, by rcases h2 with h2 | h2 <;> simp [h2]⟩
      · exact ⟨by rw [e1]; rfl, .inl (.inr rfl)⟩
      · exact ⟨by rw [e2]; rfl, .inr (.inr (by omega))⟩
    · rintro ⟨h1, (h2 | h2) | h2 | h2⟩
      · exact .inl (.inl ⟨h1, .inl h2⟩)
      · exact .inl (.inr h2)
      · exact .inl (.inl ⟨h1, .inr h2⟩)
      · exact .inr (by omega)
theorem Cov.all (h : Fine f) (c : Cov f L R) (hL : ∀ y, y ∈ L ↔ (f y).isSome = true) (k : Int) : k ∈ R ↔ (ent f k).isSome = true := by
  rw [c.mem]
  refine ⟨fun h => h.1, fun h1 => ⟨h1, ?_⟩⟩
  unfold ent at h1
  split at h1
  · exact .inl ((hL k).2 (by cases e : f k with
      | none => rw [e] at h1; cases h1
      | some p => rfl))
  · exact .inr ((hL _).2 (by cases e : f (k - 4096) with
      | none => rw [e] at h1; cases h1
      | some p => rfl))
theorem val_low {x : Int} {p : Pu} (h : Fine f) (hx : f x = some p) : val f x = p.has := by unfold val; rw [ent_low h hx]; rfl
theorem val_high {x : Int} {p : Pu} (h : Fine f) (hx : f x = some p) : val f (4096 + x) = p.paid := by
  unfold val
  rw [ent_high h hx]
  split
  · rename_i e; exact e.symm
  · rfl
end
end Go.Ld
namespace Go.Proofs.Ytmemfbdikinegaa
open Go.RowKit Go.Lk Go.Ld
set_option linter.unusedVariables false
set_option linter.unusedSimpArgs false
set_option maxRecDepth 100000

theorem info_entry : (Try.prog.info? 31).map (fun i => (i.zero, i.size, i.bytes)) = some (some (.agg #[.int .i64 0, .int .i64 0]), 2, 16) := by kernel_rfl
theorem flat_encL_one (vl : Int → Int) (l : List Int) : ∀ u ∈ flat (encL vl) l, u.oneCell' = true := by
  intro u hu
  unfold flat at hu
  obtain ⟨a, _, hu⟩ := List.mem_flatMap.1 hu
  exact encL_one vl a u hu
theorem sees_entry (vl : Int → Int) (w : World) (g : Nat) (hg : g = w.heap.size) (x b : Int) (hb : vl x = b) : Sees (w.alloc (.cells #[.int .i64 x, .int .i64 b] 31)) (g + 1) 2 (some ⟨g, 0, none⟩) 1 (flat (encL vl) [x]) := by
  subst hg
  subst hb
  refine ⟨rfl, fun _ => ⟨w.heap.size, 0, rfl, by omega, fun j u hu => ?_⟩⟩
  rw [Nat.zero_add, (Whole.fresh w _ _).cell j, ← Array.getElem?_toList]
  exact hu
theorem not_mine {wr : World} {B n size : Nat} {e : TypeId} {v : Value} {xs : List Value} {b : Nat} (h : wr.ownsRow B e size v n xs) (hb : ∀ t cs, wr.heap[b]? ≠ some (.cells cs t (0, 0))) : some b ≠ v.ownBlock := by
  intro e2
  rcases h.2 with ⟨rfl, _⟩ | ⟨g, cap, cur, rfl, _, hh, _⟩
  · simp [Value.ownBlock] at e2
  · have : b = g := by simpa [Value.ownBlock] using e2
    subst this
    exact hb _ _ hh
theorem off_of_grown {a b : World} {row : Option Nat} (h : a.grownBy b row) : Off (fun x => row = some x) a b := ⟨h.os, h.tape, h.output, h.size, fun i hi hn => h.block i hi fun e => hn e.symm⟩
theorem Ro.off_row {α : Type} {enc : α → Value} {w w' : World} {mo : Option Nat} {r cnt : Nat} {f : Int → Option α} {L : List Int} {B n size : Nat} {e : TypeId} {v : Value} {xs : List Value}
    (h : Ro enc w mo r f L cnt) (ho : w.ownsRow B e size v n xs) (hg : w.grownBy w' v.ownBlock) : Ro enc w' mo r f L cnt := by
  refine h.off (off_of_grown hg) (fun mb hm hb => ?_) fun hb => ?_
  · have hne := not_mine (b := mb) ho fun t cs hc => by
      rcases h with ⟨h1, -⟩ | ⟨mb', h1, h2⟩
      · rw [h1] at hm; cases hm
      · rw [h1] at hm
        injection hm with hm
        subst hm
        exact h2.mv.notCells hc rfl
    exact hne hb.symm
  · have hne := not_mine (b := r) ho fun t cs hc => h.notCells hc rfl
    exact hne hb.symm
theorem ranges_next {α : Type} {enc : α → Value} {w w' : World} {mo : Option Nat} {r cnt : Nat} {f : Int → Option α} {L : List Int} {B n size : Nat} {e : TypeId} {v : Value} {xs : List Value}
    (h : Ro enc w mo r f L cnt) (ho : w.ownsRow B e size v n xs) (hof : Off (fun b => b = r) w w') : w'.ownsRow B e size v n xs :=
  ho.kept (row := some r) ⟨hof.os, hof.tape, hof.output, hof.size, fun i hi hne => hof.block i hi fun e => hne (by rw [e])⟩ (Or.inr (not_mine ho fun t cs hc => h.notCells hc rfl).symm)
set_option maxHeartbeats 4000000 in
theorem list_any {w : World} {g mb x0 : Nat} {f : Acc} (h : Bk w g mb x0 f) (hF : Fine f) :
    Calls Try.prog 10 #[ptr g] w fun e w' => ∃ A cap, e = .returned (.slice A (supp (ent f)).length cap) ∧ Below w.heap.size w w' ∧ w'.ownsRow w.heap.size 31 2 (.slice A (supp (ent f)).length cap) (supp (ent f)).length (flat (encL (val f)) (supp (ent f))) := by
  have HM : Hid (Mo pu w (some mb) f) := Lib.hid (.inr ⟨mb, rfl, h.mv⟩)
  have HF := Lib.hid hF
  have HN := Lib.hid (supp_len hF)
  obtain ⟨c0, c1, cz⟩ := h.cells
  clear h
  go_enter Try.func10, Try.ntmps10
  go_wp2_with (first
    | (at_range; refine wpList_range_mo _ rfl _ 54 rfl 58 Try.underlying54 rfl HM.out ?_; intro w0 hrg0 hb0 hs0)
    | go_in)
  go_frame
  go_loopw [3] (fun v wr => ∃ (cnt : Nat) (L R : List Int), Ro pu wr (some mb) w.heap.size f L cnt ∧ wr.ownsRow w.heap.size 31 2 v R.length (flat (encL (val f)) R) ∧ Below w.heap.size w wr ∧ Cov f L R)
    (fun _ wr => leftO (some mb) w.heap.size wr)
  case atStart => exact ⟨_, [], [], hrg0, World.ownsRow_nil _ _ _ _, hb0, Cov.nil⟩
  case round =>
    obtain ⟨cnt, L, R, hrg, hrow, hb, hcv⟩ := hrel
    have hll : R.length ≤ 8192 := Nat.le_trans (hcv.len hF) HN.out
    have HB := Lib.hid hb
    have HO := Lib.hid hrow
    have HR := Lib.hid hrg
    have HC := Lib.hid hcv
    have hrgm := Lib.hid hrg.measure
    clear hrg hrow hb hrg0 hb0 hs0 hcv hF
    go_wp2_with (first
      | (at_next; refine wpList_next_mo _ pu_inj rfl _ rfl w.heap.size cnt L rfl HR.out ?_ ?_)
      | go_in)
    · intro hc0 hnd hmem
      obtain ⟨A, cp, rfl, r1, r2, r3⟩ := own_slice0 HO.out
      have hsort : (R.mergeSort fun x y => decide (x ≤ y)) = supp (ent f) := sort_supp HC.out.once fun k => HC.out.all HF.out hmem k
      have hlen : R.length = (supp (ent f)).length := by rw [← hsort]; simp
      have HSO := Lib.hid hsort
      have HO2 := Lib.hid HO.out
      rcases A with _ | ⟨gk, off, sp⟩
      · have hl0 : R.length = 0 := by have := r3 rfl; omega
        have hs0 : (supp (ent f)).length = 0 := by omega
        have hsn : supp (ent f) = [] := List.eq_nil_of_length_eq_zero hs0
        have HSN := Lib.hid hsn
        rw [hl0, r3 rfl]
        clear hsn hs0
        have HNo := Lib.hid (sortE_none none 0 (.func (.func 21) #[] #[]))
        clear hsort hlen hmem hnd
        go_wp2_with fail
        refine (HNo.out wr).mono ?_
        rintro e w2 ⟨rfl, e2⟩
        subst w2
        go_wp2_with fail
        go_ret
        refine ⟨none, 0, by rw [HSN.out]; rfl, HB.out, ?_⟩
        rw [HSN.out]
        exact World.ownsRow_nil _ _ _ _
      · have hat : off = 0 ∧ sp = none := by
          rcases HO.out.2 with ⟨h, _⟩ | ⟨g', c', cur, h, _⟩
          · simp at h
          · simp only [Value.slice.injEq, Option.some.injEq, Addr.mk.injEq] at h
            exact ⟨h.1.2.1, h.1.2.2⟩
        obtain ⟨rfl, rfl⟩ := hat
        have HCA := Lib.hid (sortE_own (val f) w.heap.size gk R.length cp R wr rfl HO.out (by omega))
        have HLOW := Lib.hid (fun k (hk : some gk = some k) => (HO.out.lt k (by rw [show (Value.slice (some ⟨gk, 0, none⟩) R.length cp).ownBlock = some gk from rfl]; exact hk)).1)
        rw [HSO.out] at HCA
        clear hsort hmem hnd HO HO2 hll HR HC
        generalize R.length = n at *
        subst hlen
        go_wp2_with fail
        refine HCA.out.mono ?_
        rintro e w2 ⟨rfl, ho, hg2⟩
        have HOO := Lib.hid ho
        have HBB := Lib.hid (HB.out.grown hg2 HB.out.size fun k hk => HLOW.out k hk)
        clear ho hg2
        go_wp2_with fail
        go_ret
        exact ⟨_, _, rfl, HBB.out, HOO.out⟩
    · intro x c w2 cnt2 hfx hx hx64 hrg2 hlt hof hsz hen
      obtain ⟨ph, pp⟩ := c
      have hrx := HF.out.inn x _ hfx
      obtain ⟨hx0, hx1⟩ := hrx
      have HVL := Lib.hid (val_low HF.out hfx)
      have HVH := Lib.hid (val_high HF.out hfx)
      have HCV1 := Lib.hid (fun h0 => HC.out.one HF.out HR.out.sub.2 hfx hx h0)
      have HCV2 := Lib.hid (fun h0 => HC.out.two HF.out HR.out.sub.2 hfx hx h0)
      have hrow2 := ranges_next HR.out HO.out hof
      have hb2 : Below w.heap.size w w2 := HB.out.trans (hof.below HB.out.size fun k hk => by omega)
      have HO3 := Lib.hid ((hrow2.alloc (.cells #[.int .i64 ph, .int .i64 pp] 58)).alloc (.cells #[.int .i64 x, .int .i64 ph] 31))
      have HB3 := Lib.hid ((hb2.alloc (hb2.size) (.cells #[.int .i64 ph, .int .i64 pp] 58)).alloc (by have := hb2.size; simp; omega) (.cells #[.int .i64 x, .int .i64 ph] 31))
      have HR3 := Lib.hid ((hrg2.call ((Below.refl _ _).alloc (Nat.le_refl _) (.cells #[.int .i64 ph, .int .i64 pp] 58))).call ((Below.refl _ _).alloc (Nat.le_refl _) (.cells #[.int .i64 x, .int .i64 ph] 31)))
      have HSE := Lib.hid (sees_entry (val f) (w2.alloc (.cells #[.int .i64 ph, .int .i64 pp] 58)) (w2.heap.size + 1) (by simp) x ph HVL.out)
      have HP3 : Hid (Whole ((w2.alloc (.cells #[.int .i64 ph, .int .i64 pp] 58)).alloc (.cells #[.int .i64 x, .int .i64 ph] 31)) w2.heap.size 58 #[.int .i64 ph, .int .i64 pp]) := Lib.hid ((Whole.fresh w2 _ _).alloc _)
      have HNM : Hid (some w2.heap.size ≠ (Value.slice none 0 0).ownBlock) := Lib.hid (by simp [Value.ownBlock])
      have hsz2 := hb2.size
      have HLT := Lib.hid hlt
      have HPB := Lib.hid (fun k hk => (hrow2.lt k hk).2)
      clear hfx hof hsz hrow2 hb2 HO hrg2 hx hlt HNM
      go_wp2_with (at_builtin; refine wpList_appG rfl (.tmp 16) (.tmp 21) _ 31 _ 2 16 rfl info_entry Try.underlying28 rfl (by decide) w.heap.size _ R.length (flat (encL (val f)) R) rfl HO3.out _ _ 1 1 (flat (encL (val f)) [x]) rfl HSE.out (fun h => by cases h) (flat_encL_one _ _) (by omega) (by omega) (by simp; omega) ?_)
      intro v1 y1 ho1 hg1
      have HR4 := Lib.hid (HR3.out.off_row HO3.out hg1)
      have HB4 := Lib.hid (HB3.out.grown hg1 (by simp; omega) fun k hk => ((HO3.out.lt k hk).1))
      have HO4 := Lib.hid (show y1.ownsRow w.heap.size 31 2 v1 (R ++ [x]).length (flat (encL (val f)) (R ++ [x])) by rw [List.length_append, flat_append]; exact ho1)
      have HP4 := Lib.hid (HP3.out.grown hg1 fun e => by have := HPB.out _ e.symm; omega)
      clear ho1 hg1 HO3 HB3 HR3 HP3 HSE HR
      have p0 := HP4.out.cell 0
      have p1 := HP4.out.cell 1
      have pz := HP4.out.lt
      simp only [List.getElem?_toArray, List.getElem?_cons_zero, List.getElem?_cons_succ] at p0 p1
      by_cases hp0 : pp = 0
      · have e0 : (pp != 0) = false := by simpa using hp0
        go_wp2_with fail
        go_roundw
        case rel => exact ⟨cnt2, L ++ [x], R ++ [x], HR4.out, HO4.out, HB4.out, HCV1.out hp0⟩
        case measure => rw [HR4.out.measure, hrgm.out]; exact HLT.out
      · have e0 : (pp != 0) = true := by simpa using hp0
        have hy1 := HB4.out.size
        have HO5 := Lib.hid (HO4.out.alloc (.cells #[.int .i64 (4096 + x), .int .i64 pp] 31))
        have HB5 := Lib.hid (HB4.out.alloc (HB4.out.size) (.cells #[.int .i64 (4096 + x), .int .i64 pp] 31))
        have HR5 := Lib.hid (HR4.out.call ((Below.refl _ _).alloc (Nat.le_refl _) (.cells #[.int .i64 (4096 + x), .int .i64 pp] 31)))
        have HSE := Lib.hid (sees_entry (val f) y1 y1.heap.size rfl (4096 + x) pp HVH.out)
        have hll2 : (R ++ [x]).length ≤ 8193 := by simp; omega
        have HLEN := Lib.hid hll2
        go_wp2_with (at_builtin; refine wpList_appG rfl (.tmp 26) (.tmp 32) _ 31 _ 2 16 rfl info_entry Try.underlying28 rfl (by decide) w.heap.size _ (R ++ [x]).length (flat (encL (val f)) (R ++ [x])) rfl HO5.out _ _ 1 1 (flat (encL (val f)) [4096 + x]) rfl HSE.out (fun h => by cases h) (flat_encL_one _ _) (by have := HLEN.out; omega) (by have := HLEN.out; omega) (by simp; omega) ?_)
        intro v2 y2 ho2 hg2
        have HR6 := Lib.hid (HR5.out.off_row HO5.out hg2)
        have HB6 := Lib.hid (HB5.out.grown hg2 (by simp; omega) fun k hk => ((HO5.out.lt k hk).1))
        have HO6 := Lib.hid (show y2.ownsRow w.heap.size 31 2 v2 (R ++ [x] ++ [4096 + x]).length (flat (encL (val f)) (R ++ [x] ++ [4096 + x])) by rw [show (R ++ [x] ++ [4096 + x]).length = R.length + 1 + 1 by simp, flat_append]; exact ho2)
        clear ho2 hg2
        go_wp2_with fail
        go_roundw
        case rel => exact ⟨cnt2, L ++ [x], R ++ [x] ++ [4096 + x], HR6.out, HO6.out, HB6.out, HCV2.out hp0⟩
        case measure => rw [HR6.out.measure, hrgm.out]; exact HLT.out
end Go.Proofs.Ytmemfbdikinegaa
