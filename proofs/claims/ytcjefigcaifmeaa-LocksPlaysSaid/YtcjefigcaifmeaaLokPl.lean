/- Locks: LocksPlays: plain: the document's Ask and End tell what the program's do; how long the document's lists are; the start. -/
import Derived.Test.YtcjefigcaifmeaaLokPd
import Derived.Test.YtcjefigcaifmeaaLokAw
namespace Go.Lk
set_option linter.unusedVariables false
/-- The document's answer is the program's, and what it leaves goes with what that leaves. -/
def AskGoes (s : Tb) (H W : List Rw) (D : List Int) (x k : Int) (b : Bool) : Prop :=
  ∃ H' W' D', askO H W D x k b = ⟨H', W', D', (askA s x b k).granted, (askA s x b k).wounded, (askA s x b k).woken, askE s x k⟩ ∧ Rel H' (askS s x b k).h ∧ Rel W' (askS s x b k).w ∧ RelD D' (askS s x b k).dead ∧
      H'.length ≤ H.length + W.length + 1 ∧ W'.length ≤ W.length + 1 ∧ D'.length ≤ D.length + H.length
section
variable {s : Tb} {H W : List Rw} {D : List Int}
/-- The document's answer, and what it leaves. -/
theorem ask_all (m : Fine s) (rH : Rel H s.h) (rW : Rel W s.w) (rD : RelD D s.dead) {x k : Int} {b : Bool} (hx : x ≤ 9223372036854775807) :
AskGoes s H W D x k b := by
  have key : ∀ e : Int, e ≠ 0 → askE s x k = e → askO H W D x k b = ⟨H, W, D, false, [], [], e⟩ → AskGoes s H W D x k b := fun e h1 h2 h3 => ⟨H, W, D, by
    rw [h3]
    unfold askA
    rw [if_pos (by rw [h2]; exact h1), h2], by
    have e1 : askS s x b k = s := by unfold askS; rw [if_neg (by rw [h2]; exact fun h => h1 h.1)]
    rw [e1]
    exact ⟨rH, rW, rD, by omega, by omega, by omega⟩⟩
  have hDx : x ∈ D ↔ s.dead x = true := rD x
  have hWx : (W.any fun y => y.tx == x) = s.waits x := waits_iff m rW x
  rcases ask_cases s x k with ⟨h1, e⟩ | ⟨h1, h2, e⟩ | ⟨h1, h2, h3, e⟩ | ⟨h1, h2, h3, h4, e⟩ | ⟨h1, h2, h3, h4, e⟩
  · exact key 130 (by decide) e (by unfold askO; rw [if_pos h1])
  · exact key 131 (by decide) e (by
      unfold askO
      have hk : k < 0 ∨ 8191 < k := by unfold isK at h2; have := of_decide_eq_false h2; omega
      rw [if_neg (by omega), if_pos hk])
  · have hk := (isK_iff k).1 h2
    exact key 132 (by decide) e (by unfold askO; rw [if_neg (by omega), if_neg (by omega), if_pos (hDx.2 h3)])
  · have hk := (isK_iff k).1 h2
    exact key 133 (by decide) e (by unfold askO; rw [if_neg (by omega), if_neg (by omega), if_neg (fun h => by have := hDx.1 h; rw [h3] at this; cases this), if_pos (by rw [hWx]; exact h4)])
  · have hk := (isK_iff k).1 h2
    have ho := owns_has rH x k b
    cases hn : hasS s x b k with
    | true =>
      refine ⟨H, W, D, ?_, ?_⟩
      · unfold askO
        rw [if_neg (by omega), if_neg (by omega), if_neg (fun h => by have := hDx.1 h; rw [h3] at this; cases this), if_neg (by rw [hWx, h4]; simp), if_pos (by rw [ho, hn])]
        unfold askA
        rw [if_neg (by rw [e]; simp), if_pos hn, e]
      · have e1 : askS s x b k = s := by unfold askS; rw [if_neg (by rw [hn]; simp)]
        rw [e1]
        exact ⟨rH, rW, rD, by omega, by omega, by omega⟩
    | false =>
      have hw := wounds_eq m rH x k b
      obtain ⟨H', W', out, g1, g2, g3, g4, g5⟩ := ask_rel m rH rW hx e hn
      have hl := giveR_len (killR (wdS s x b k) H) (putR ⟨x, k, b⟩ (killR (wdS s x b k) W))
      rw [g1] at hl
      have l1 := killR_len (wdS s x b k) H
      have l2 := killR_len (wdS s x b k) W
      have l3 := putR_len ⟨x, k, b⟩ (killR (wdS s x b k) W)
      have l4 := woundsR_len H x k b
      rw [hw] at l4
      refine ⟨H', W', D ++ wdS s x b k, ?_, ?_⟩
      · unfold askO
        rw [if_neg (by omega), if_neg (by omega), if_neg (fun h => by have := hDx.1 h; rw [h3] at this; cases this), if_neg (by rw [hWx, h4]; simp), if_neg (by rw [ho, hn]; simp), hw, g1]
        unfold askA
        rw [if_neg (by rw [e]; simp), if_neg (by rw [hn]; simp), e]
        dsimp only
        rw [g4, g5]
      · have e1 : askS s x b k = askT s x b k := by unfold askS; rw [if_pos ⟨e, hn⟩]
        rw [e1]
        refine ⟨g2, g3, rD.ask x b k, ?_, ?_, ?_⟩
        · have := hl.1; simp only at this; omega
        · have := hl.2.1; simp only at this; omega
        · rw [List.length_append]; omega
theorem end_all (m : Fine s) (rH : Rel H s.h) (rW : Rel W s.w) (rD : RelD D s.dead) {x : Int} (hx : 1 ≤ x) :
    ∃ H' W', giveR (withoutR H x) (withoutR W x) = (H', W', endA s x) ∧ Rel H' (endS s x).h ∧ Rel W' (endS s x).w ∧ RelD (D.filter fun y => y != x) (endS s x).dead ∧
      H'.length ≤ H.length + W.length + 1 ∧ W'.length ≤ W.length + 1 ∧ (D.filter fun y => y != x).length ≤ D.length := by
  obtain ⟨H', W', out, g1, g2, g3, g4⟩ := end_rel m rH rW hx
  subst g4
  have hl := giveR_len (withoutR H x) (withoutR W x)
  rw [g1] at hl
  have l1 := withoutR_len H x
  have l2 := withoutR_len W x
  refine ⟨H', W', g1, g2, g3, RelD.end m rD hx, ?_, ?_, List.length_filter_le _ _⟩
  · have := hl.1; simp only at this; omega
  · have := hl.2.1; simp only at this; omega
/-- An End of no transaction. -/
theorem end_nobody {x : Int} (hx : x < 1) : endS s x = s ∧ endA s x = [] := by
  unfold endS endA
  rw [if_pos (.inl hx), if_pos (.inl hx)]
  exact ⟨rfl, rfl⟩
end
/-- Both tables go together, and the document's lists are no longer than so. -/
structure Go2 (s : Tb) (H W : List Rw) (D : List Int) (n : Nat) : Prop where
  h : Rel H s.h
  w : Rel W s.w
  d : RelD D s.dead
  lw : W.length ≤ n
  lh : H.length ≤ 40 * n
  ld : D.length ≤ 1200 * n
theorem Go2.new : Go2 newT [] [] [] 0 := ⟨Rel.nil, Rel.nil, RelD.nil, by simp, by simp, by simp⟩
end Go.Lk
namespace Go.Proofs.Ytcjefigcaifmeaa
open Go.ChangeShapes Go.WideShapes Go.ChangeAt Go.RowKit Go.Lk
set_option linter.unusedVariables false
set_option linter.unusedSimpArgs false
set_option maxRecDepth 100000
theorem Pd.start {W w1 : World} {g : Nat} {s : Tb} {n : Nat} (h : Pk W w1 [] g s (fun _ => False) n) (p : Nat) (hp : p = w1.heap.size) :
    Pd W (w1.alloc (.cells #[.slice none 0 0, .slice none 0 0, .slice none 0 0] 28)) [] g s p (.slice none 0 0) (.slice none 0 0) (.slice none 0 0) [] [] [] n := by
  subst hp
  obtain ⟨F, k1, k2, -⟩ := h.tab
  have hal := (Below.refl w1.heap.size w1).alloc (Nat.le_refl _) (.cells #[.slice none 0 0, .slice none 0 0, .slice none 0 0] 28)
  exact ⟨⟨h.st.call hal, ⟨(fun r hr => by cases hr), h.st.below.size⟩, Whole.fresh w1 _ _, own_zero3 _ _ _ _, own_zero3 _ _ _ _, own_zero3 _ _ _ _⟩, ⟨F, k1.call hal, k2⟩, (fun r hr => by cases hr), h.fine, h.few⟩
/-- The document's End of no transaction. -/
theorem docEndN_any (B : Nat) (vH vW vD : Value) (H W : List Rw) (D : List Int) (x : Int) (w : World) (hB : B ≤ w.heap.size) (hH : OwR w B vH H) (hW : OwR w B vW W) (hD : OwD w B vD D) (hx : x < 1) :
    Calls Try.prog 11 #[.agg #[vH, vW, vD], .int .i64 x] w fun e w' => ∃ vh vw vd, e = .returned (.tuple #[.agg #[vh, vw, vd], .slice none 0 0, .int .i64 130]) ∧ OwR w' B vh H ∧ OwR w' B vw W ∧ OwD w' B vd D ∧ Below w.heap.size w w' := by
  obtain ⟨AH, cH, rfl, -⟩ := own_slice0 hH
  obtain ⟨AW, cW, rfl, -⟩ := own_slice0 hW
  obtain ⟨AD, cD, rfl, -⟩ := own_slice0 hD
  have HG0 : Hid (Ts w ((w.alloc (.cells #[.slice AH H.length cH, .slice AW W.length cW, .slice AD D.length cD] 28)).alloc (.cells #[.slice none 0 0, .slice none 0 0, .slice none 0 0] 28)) [(w.heap.size + 1, 28, #[.slice none 0 0, .slice none 0 0, .slice none 0 0])] B w.heap.size (.slice AH H.length cH) (.slice AW W.length cW) (.slice AD D.length cD) H W D) := Lib.hid (by
    have k1 := (Whole.fresh w 28 #[.slice AH H.length cH, .slice AW W.length cW, .slice AD D.length cD]).alloc (.cells #[.slice none 0 0, .slice none 0 0, .slice none 0 0] 28)
    have hs := ((St.start w).other (.cells #[.slice AH H.length cH, .slice AW W.length cW, .slice AD D.length cD] 28)).alloc (w.heap.size + 1) (by simp) 28 #[.slice none 0 0, .slice none 0 0, .slice none 0 0]
    exact Ts.new hs hH hW hD hs.below w.heap.size k1 (Nat.le_refl _) fun r hr => by rw [List.mem_singleton.1 hr]; simp)
  clear hH hW hD hB
  go_enter Try.func11, Try.ntmps11
  go_upto_region 1 with fail
  generalize hw0 : (w.alloc (.cells #[.slice AH H.length cH, .slice AW W.length cW, .slice AD D.length cD] 28)).alloc (.cells #[.slice none 0 0, .slice none 0 0, .slice none 0 0] 28) = w0 at *
  clear hw0
  obtain ⟨s0, s1, s2, r0, r1, r2, sz⟩ := HG0.out.cells
  have kx := HG0.out.st.knows.at 0 rfl
  have x0 := kx.cell 0
  have x1 := kx.cell 1
  have x2 := kx.cell 2
  have f0 := kx.free 0
  have f1 := kx.free 1
  have f2 := kx.free 2
  have xz := kx.lt
  clear kx
  simp only [List.getElem?_toArray, List.getElem?_cons_zero, List.getElem?_cons_succ] at x0 x1 x2
  have HF := Lib.hid (((HG0.out.set0 (Nat.le_succ _) (fun r hr => by cases hr) (by decide) (by decide) 0 (.slice AH H.length cH)).set0 (Nat.le_succ _) (fun r hr => by cases hr) (by decide) (by decide) 1 (.slice AW W.length cW)).set0 (Nat.le_succ _) (fun r hr => by cases hr) (by decide) (by decide) 2 (.slice AD D.length cD))
  go_wp2_with fail
  refine bodyPost_ret (by simp [results, Try.results11, go_sem, x0, x1, x2, f0, f1, f2, xz]; try rfl) rfl ?_
  exact ⟨_, _, _, rfl, HF.out.hh, HF.out.hw, HF.out.hd, HF.out.st.below⟩
end Go.Proofs.Ytcjefigcaifmeaa
