/- Layer 11: a call on both chains (for ChainPlays). -/
import Derived.Test.YtiocghhhfhobbaaChnL
namespace Go.Proofs.Ytiocghhhfhobbaa
open Go.RowKit Go.Cn
set_option linter.unusedVariables false
set_option linter.unusedSimpArgs false
set_option maxRecDepth 100000

theorem apart3 {B : Nat} {t2 t1 t0 : TypeId} {c2 c1 c0 : Array Value} {L : List Row} (hL : ∀ r ∈ L, r.1 < B) (j : Nat) (r : Row) (h : (((B + 2, t2, c2) :: (B + 1, t1, c1) :: (B, t0, c0) :: L : List Row))[j]? = some r) :
    (j = 0 ∧ r.1 = B + 2) ∨ (j = 1 ∧ r.1 = B + 1) ∨ (j = 2 ∧ r.1 = B) ∨ (3 ≤ j ∧ r.1 < B) := by
  match j with
  | 0 => simp at h; subst h; exact .inl ⟨rfl, rfl⟩
  | 1 => simp at h; subst h; exact .inr (.inl ⟨rfl, rfl⟩)
  | 2 => simp at h; subst h; exact .inr (.inr (.inl ⟨rfl, rfl⟩))
  | j + 3 => exact .inr (.inr (.inr ⟨by omega, hL r (List.mem_of_getElem? (by simpa using h))⟩))
section
variable {W w w' : World} {L : List Row} {g : Nat} {c c' : Cs} {A A' : Option Addr} {cap cap' : Nat} {l l' : List Ve}
/-- A known block is told something, wherever it stands among the known ones. -/
theorem Pl.setB (h : Pl W w L g c A cap l) (i : Nat) {x : Nat} {t : TypeId} {cs : Array Value} (hi : L[i]? = some (x, t, cs)) (hx : W.heap.size ≤ x) (hd : ∀ j r, L[j]? = some r → r.1 = x → j = i) (hA : 0 < l.length → ∀ a, A = some a → a.block ≠ x) (k : Nat) (u : Value) :
    Pl W (w.setCell ⟨x, k, none⟩ u) (L.set i (x, t, cs.setIfInBounds k u)) g c A cap l := by
  obtain ⟨F, k1, k2, k3, k4⟩ := h.chn
  have hxf := k3 _ (List.mem_of_getElem? hi)
  have ho : Off (fun b => b = x) w (w.setCell ⟨x, k, none⟩ u) := (Off.refl (fun b => b = x) w).set (p := ⟨x, k, none⟩) (.inl rfl) u
  refine ⟨⟨h.st.below.setCell (p := ⟨x, k, none⟩) hx u, h.st.knows.set i hi hd k u⟩, ⟨F, k1.off ho fun b hb e => hxf (e ▸ hb), k2, fun r hr => ?_, k4⟩, ⟨⟨h.row.sees.1, fun hn => ?_⟩, h.row.room, h.row.top, h.row.nil⟩⟩
  · obtain ⟨j, hj⟩ := List.mem_iff_getElem?.1 hr
    by_cases hji : j = i
    · subst hji
      rw [List.getElem?_set_self (List.getElem?_eq_some_iff.1 hi).1] at hj
      injection hj with hj
      subst hj
      exact hxf
    · rw [List.getElem?_set_ne (fun e => hji e.symm)] at hj
      exact k3 r (List.mem_of_getElem? hj)
  · obtain ⟨b, off, e, hb, hc⟩ := h.row.sees.2 hn
    refine ⟨b, off, e, by simpa using hb, fun j z hz => ?_⟩
    rw [World.cell?_setCell_other w ⟨x, k, none⟩ _ u (fun e2 => hA hn _ e (by injection e2 with e2; simpa using e2.symm))]
    exact hc j z hz
/-- The row is none of three new blocks. -/
def Ra (B : Nat) (A : Option Addr) (l : List Ve) : Prop := 0 < l.length → ∀ a, A = some a → a.block < B ∨ B + 3 ≤ a.block
theorem Pl.box2 {B : Nat} {t2 t1 t0 : TypeId} {c2 c1 : Array Value} {x y : Value} (h : Pl W w ((B + 2, t2, c2) :: (B + 1, t1, c1) :: (B, t0, #[x, y]) :: L) g c A cap l) (hL : ∀ r ∈ L, r.1 < B) (hW : W.heap.size ≤ B) (hA : Ra B A l) (x' y' : Value) :
    Pl W ((w.setCell ⟨B, 0, none⟩ x').setCell ⟨B, 1, none⟩ y') ((B + 2, t2, c2) :: (B + 1, t1, c1) :: (B, t0, #[x', y']) :: L) g c A cap l := by
  have hA2 : 0 < l.length → ∀ a, A = some a → a.block ≠ B := fun hl a ha => by have := hA hl a ha; omega
  have h1 := h.setB 2 (x := B) (t := t0) (cs := #[x, y]) rfl hW (fun j r hj hr => by have := apart3 hL j r hj; omega) hA2 0 x'
  exact h1.setB 2 (x := B) (t := t0) (cs := #[x', y]) rfl hW (fun j r hj hr => by have := apart3 hL j r hj; omega) hA2 1 y'
theorem Pl.res2 {B : Nat} {t2 t1 t0 : TypeId} {c0 c1 : Array Value} {x y : Value} (h : Pl W w ((B + 2, t2, #[x, y]) :: (B + 1, t1, c1) :: (B, t0, c0) :: L) g c A cap l) (hL : ∀ r ∈ L, r.1 < B) (hW : W.heap.size ≤ B) (hA : Ra B A l) (x' y' : Value) :
    Pl W ((w.setCell ⟨B + 2, 0, none⟩ x').setCell ⟨B + 2, 1, none⟩ y') ((B + 2, t2, #[x', y']) :: (B + 1, t1, c1) :: (B, t0, c0) :: L) g c A cap l := by
  have hA2 : 0 < l.length → ∀ a, A = some a → a.block ≠ B + 2 := fun hl a ha => by have := hA hl a ha; omega
  have h1 := h.setB 0 (x := B + 2) (t := t2) (cs := #[x, y]) rfl (by omega) (fun j r hj hr => by have := apart3 hL j r hj; omega) hA2 0 x'
  exact h1.setB 0 (x := B + 2) (t := t2) (cs := #[x', y]) rfl (by omega) (fun j r hj hr => by have := apart3 hL j r hj; omega) hA2 1 y'
theorem Ra.told {B : Nat} (hA : Ra B A l) (h : A' = A ∧ l' = l ∨ ∀ a, A' = some a → w.heap.size ≤ a.block) (hB : B + 3 ≤ w.heap.size) : Ra B A' l' := by
  intro hl a ha
  rcases h with ⟨rfl, rfl⟩ | h
  · exact hA hl a ha
  · have := h a ha; omega
end
theorem three_of {w : World} {g : Nat} {t : TypeId} {a b c : Value} (h : Whole w g t #[a, b, c]) : w.cell? ⟨g, 0, none⟩ = some a ∧ w.cell? ⟨g, 1, none⟩ = some b ∧ w.cell? ⟨g, 2, none⟩ = some c ∧ g < w.heap.size := ⟨h.cell 0, h.cell 1, h.cell 2, h.lt⟩
theorem two_of {w : World} {g : Nat} {t : TypeId} {a b : Value} (h : Whole w g t #[a, b]) : w.cell? ⟨g, 0, none⟩ = some a ∧ w.cell? ⟨g, 1, none⟩ = some b ∧ w.frozen? ⟨g, 0, none⟩ = false ∧ w.frozen? ⟨g, 1, none⟩ = false ∧ g < w.heap.size := ⟨h.cell 0, h.cell 1, h.free 0, h.free 1, h.lt⟩
set_option maxHeartbeats 8000000 in
theorem does_any (W : World) (L : List Row) (g : Nat) (c : Cs) (A : Option Addr) (cap : Nat) (o : Op11) (w : World) (h : Pl W w L g c A cap c.l) :
    Calls Try.prog 11 #[ptr g, .agg #[.slice A c.l.length cap, .int .i64 c.mark], .agg #[.int .i64 o.k, .int .i64 o.t, .int .i64 o.v]] w fun e w' => ∃ A' cap', e = .returned (.tuple #[.agg #[.slice A' (run1 c o).l.length cap', .int .i64 (run1 c o).mark], .bool true]) ∧ Pl W w' L g (run1 c o) A' cap' (run1 c o).l ∧ (A' = A ∧ (run1 c o).l = c.l ∨ ∀ a, A' = some a → w.heap.size ≤ a.block) := by
  have hL : ∀ r ∈ L, r.1 < w.heap.size := fun r hr => (h.st.knows r hr).lt
  have HL := Lib.hid hL
  have hW := h.st.below.size
  have H := Lib.hid (((h.alloc w.heap.size rfl 27 #[.slice A c.l.length cap, .int .i64 c.mark]).alloc (w.heap.size + 1) (by simp) 32 #[.int .i64 o.k, .int .i64 o.t, .int .i64 o.v]).alloc (w.heap.size + 2) (by simp) 27 #[.slice none 0 0, .int .i64 0])
  have H9 := Lib.hid (((h.alloc w.heap.size rfl 27 #[.slice A c.l.length cap, .int .i64 c.mark]).alloc (w.heap.size + 1) (by simp) 32 #[.int .i64 o.k, .int .i64 o.t, .int .i64 o.v]).alloc (w.heap.size + 2) (by simp) 27 #[.slice A c.l.length cap, .int .i64 c.mark])
  have HA : Hid (Ra w.heap.size A c.l) := Lib.hid fun hl a ha => .inl (h.row.low a hl ha)
  have hok := h.ok
  have HK := Lib.hid hok
  obtain ⟨k, t, v⟩ := o
  simp only at H H9 ⊢
  clear h hL hok
  by_cases hk0 : k = 0
  · subst hk0
    have HR : Hid (run1 c ⟨0, t, v⟩ = put c t v) := Lib.hid rfl
    rw [HR.out]
    clear HR
    obtain ⟨o0, o1, o2, ol⟩ := three_of (H.out.st.knows.at 1 rfl)
    go_enter Try.func11, Try.ntmps11
    go_wp2_with fail
    refine (pput t v H.out).mono ?_
    rintro e w1 ⟨rfl, h⟩
    have hs1 : w.heap.size + 3 ≤ w1.heap.size := (h.st.knows.at 0 rfl).lt
    replace H := Lib.hid h
    clear h o0 o1 o2 ol
    obtain ⟨o0, o1, o2, ol⟩ := three_of (H.out.st.knows.at 1 rfl)
    obtain ⟨b0, b1, e0, e1, bl⟩ := two_of (H.out.st.knows.at 2 rfl)
    go_wp2_with fail
    refine (rput_any A cap c t v w1 H.out.row HK.out.zero).mono ?_
    rintro e w2 ⟨A2, cap2, rfl, hb, hr, hA2⟩
    replace HA := Lib.hid (HA.out.told hA2 hs1)
    replace H := Lib.hid (H.out.told hb hr hA2)
    have HAD := Lib.hid (hA2.imp_right fun h a ha => Nat.le_trans (by omega : w.heap.size ≤ w1.heap.size) (h a ha))
    clear hb hr hA2 o0 o1 o2 ol b0 b1 e0 e1 bl
    obtain ⟨b0, b1, e0, e1, bl⟩ := two_of (H.out.st.knows.at 2 rfl)
    obtain ⟨r0, r1, f0, f1, rl⟩ := two_of (H.out.st.knows.at 0 rfl)
    have H2 := Lib.hid (H.out.box2 HL.out hW HA.out (.slice A2 (put c t v).l.length cap2) (.int .i64 (put c t v).mark))
    have H3 := Lib.hid (H2.out.res2 HL.out hW HA.out (.slice A2 (put c t v).l.length cap2) (.int .i64 (put c t v).mark))
    generalize hc2 : put c t v = c2 at *
    have HC2 := Lib.hid hc2
    clear hc2
    generalize putE c t = E at *
    go_wp2_with fail
    refine bodyPost_ret (by simp [results, Try.results11, go_sem, r0, r1, f0, f1, rl]; try rfl) rfl ?_
    rw [HC2.out]
    exact ⟨A2, cap2, rfl, H3.out.few fun r hr => List.mem_cons_of_mem _ (List.mem_cons_of_mem _ (List.mem_cons_of_mem _ hr)), HAD.out⟩
  by_cases hk2 : k = 2
  · subst hk2
    have HR : Hid (run1 c ⟨2, t, v⟩ = prune c t) := Lib.hid rfl
    rw [HR.out]
    clear HR hk0
    obtain ⟨o0, o1, o2, ol⟩ := three_of (H.out.st.knows.at 1 rfl)
    go_enter Try.func11, Try.ntmps11
    go_wp2_with fail
    refine (pprune t H.out).mono ?_
    rintro e w1 ⟨rfl, h⟩
    have hs1 : w.heap.size + 3 ≤ w1.heap.size := (h.st.knows.at 0 rfl).lt
    replace H := Lib.hid h
    clear h o0 o1 o2 ol
    obtain ⟨o0, o1, o2, ol⟩ := three_of (H.out.st.knows.at 1 rfl)
    obtain ⟨b0, b1, e0, e1, bl⟩ := two_of (H.out.st.knows.at 2 rfl)
    go_wp2_with fail
    refine (rprune_any A cap c t w1 H.out.row HK.out).mono ?_
    rintro e w2 ⟨A2, cap2, rfl, hb, hr, hA2⟩
    replace HA := Lib.hid (HA.out.told hA2 hs1)
    replace H := Lib.hid (H.out.told hb hr hA2)
    have HAD := Lib.hid (hA2.imp_right fun h a ha => Nat.le_trans (by omega : w.heap.size ≤ w1.heap.size) (h a ha))
    clear hb hr hA2 o0 o1 o2 ol b0 b1 e0 e1 bl
    obtain ⟨b0, b1, e0, e1, bl⟩ := two_of (H.out.st.knows.at 2 rfl)
    obtain ⟨r0, r1, f0, f1, rl⟩ := two_of (H.out.st.knows.at 0 rfl)
    have H2 := Lib.hid (H.out.box2 HL.out hW HA.out (.slice A2 (prune c t).l.length cap2) (.int .i64 (prune c t).mark))
    have H3 := Lib.hid (H2.out.res2 HL.out hW HA.out (.slice A2 (prune c t).l.length cap2) (.int .i64 (prune c t).mark))
    generalize hc2 : prune c t = c2 at *
    have HC2 := Lib.hid hc2
    clear hc2
    generalize pruneE t = E at *
    go_wp2_with fail
    refine bodyPost_ret (by simp [results, Try.results11, go_sem, r0, r1, f0, f1, rl]; try rfl) rfl ?_
    rw [HC2.out]
    exact ⟨A2, cap2, rfl, H3.out.few fun r hr => List.mem_cons_of_mem _ (List.mem_cons_of_mem _ (List.mem_cons_of_mem _ hr)), HAD.out⟩
  have HR : Hid (run1 c ⟨k, t, v⟩ = c) := Lib.hid (by unfold run1; rw [if_neg hk0, if_neg hk2])
  rw [HR.out]
  clear HR
  have q0 : (k == 0) = false := by rw [beq_eq_false_iff_ne]; exact hk0
  have q2 : (k == 2) = false := by rw [beq_eq_false_iff_ne]; exact hk2
  by_cases hk1 : k = 1
  · subst hk1
    clear hk0 hk2 q0 q2
    obtain ⟨o0, o1, o2, ol⟩ := three_of (H.out.st.knows.at 1 rfl)
    go_enter Try.func11, Try.ntmps11
    go_wp2_with fail
    refine (pget t H.out).mono ?_
    rintro e w1 ⟨rfl, hb⟩
    replace H := Lib.hid (H.out.call hb)
    have hs1 : w.heap.size + 3 ≤ w1.heap.size := (H.out.st.knows.at 0 rfl).lt
    have HG := Lib.hid (fun w0 (hr : Rv w0 A cap c.l) => rget_any A cap c t w0 hr HK.out.zero)
    clear hb o0 o1 o2 ol
    generalize getE c t = E at *
    generalize getV c t = V at *
    obtain ⟨o0, o1, o2, ol⟩ := three_of (H.out.st.knows.at 1 rfl)
    obtain ⟨b0, b1, e0, e1, bl⟩ := two_of (H.out.st.knows.at 2 rfl)
    go_wp2_with fail
    replace H := Lib.hid (H.out.alloc w1.heap.size rfl 34 #[.int .i64 V.1, .int .i64 V.2])
    refine (HG.out _ H.out.row).mono ?_
    rintro e w2 ⟨rfl, hb⟩
    replace H := Lib.hid (H.out.call hb)
    clear hb o0 o1 o2 ol b0 b1 e0 e1 bl
    obtain ⟨x0, x1, -, -, xl⟩ := two_of (H.out.st.knows.at 0 rfl)
    replace H := Lib.hid (H.out.alloc w2.heap.size rfl 34 #[.int .i64 V.1, .int .i64 V.2])
    obtain ⟨y0, y1, -, -, yl⟩ := two_of (H.out.st.knows.at 0 rfl)
    replace H := Lib.hid (H.out.few (L' := (w.heap.size + 2, 27, #[.slice none 0 0, .int .i64 0]) :: (w.heap.size + 1, 32, #[.int .i64 1, .int .i64 t, .int .i64 v]) :: (w.heap.size, 27, #[.slice A c.l.length cap, .int .i64 c.mark]) :: L) fun r hr => List.mem_cons_of_mem _ (List.mem_cons_of_mem _ hr))
    obtain ⟨o0, o1, o2, ol⟩ := three_of (H.out.st.knows.at 1 rfl)
    obtain ⟨b0, b1, e0, e1, bl⟩ := two_of (H.out.st.knows.at 2 rfl)
    obtain ⟨r0, r1, f0, f1, rl⟩ := two_of (H.out.st.knows.at 0 rfl)
    have H3 := Lib.hid (H.out.res2 HL.out hW HA.out (.slice A c.l.length cap) (.int .i64 c.mark))
    go_wp2_with fail
    refine bodyPost_ret (by simp [results, Try.results11, go_sem, r0, r1, f0, f1, rl]; try rfl) rfl ?_
    first
      | exact ⟨A, cap, rfl, H3.out.few fun r hr => List.mem_cons_of_mem _ (List.mem_cons_of_mem _ (List.mem_cons_of_mem _ hr)), .inl (by simp)⟩
      | exact ⟨A, cap, rfl, H9.out.few fun r hr => List.mem_cons_of_mem _ (List.mem_cons_of_mem _ (List.mem_cons_of_mem _ hr)), .inl (by simp)⟩
  · have q1 : (k == 1) = false := by rw [beq_eq_false_iff_ne]; exact hk1
    obtain ⟨o0, o1, o2, ol⟩ := three_of (H.out.st.knows.at 1 rfl)
    obtain ⟨b0, b1, e0, e1, bl⟩ := two_of (H.out.st.knows.at 2 rfl)
    obtain ⟨r0, r1, f0, f1, rl⟩ := two_of (H.out.st.knows.at 0 rfl)
    have H3 := Lib.hid (H.out.res2 HL.out hW HA.out (.slice A c.l.length cap) (.int .i64 c.mark))
    go_enter Try.func11, Try.ntmps11
    go_wp2_with fail
    refine bodyPost_ret (by simp [results, Try.results11, go_sem, r0, r1, f0, f1, rl]; try rfl) rfl ?_
    first
      | exact ⟨A, cap, rfl, H3.out.few fun r hr => List.mem_cons_of_mem _ (List.mem_cons_of_mem _ (List.mem_cons_of_mem _ hr)), .inl (by simp)⟩
      | exact ⟨A, cap, rfl, H9.out.few fun r hr => List.mem_cons_of_mem _ (List.mem_cons_of_mem _ (List.mem_cons_of_mem _ hr)), .inl (by simp)⟩
/-- Where the drawn region of does's call stands: a: the call came, b: n's block p was made, d: it was told. -/
structure Dn (W w y : World) (L : List Row) (g : Nat) (c c2 : Cs) (A : Option Addr) (cap p : Nat) (A2 : Option Addr) (cap2 : Nat) (a b d : Bool) : Prop where
  p00 : a = false → b = false → Pl W y L g c A cap c.l
  p01 : a = false → b = true → Pl W y ((p, 27, #[.slice none 0 0, .int .i64 0]) :: L) g c A cap c.l ∧ (0 < c.l.length → ∀ x, A = some x → x.block ≠ p)
  size : a = false → w.heap.size ≤ y.heap.size
  p10 : a = true → b = false → Pl W y L g c2 A2 cap2 c2.l
  p11 : a = true → b = true → d = false → Pl W y ((p, 27, #[.slice none 0 0, .int .i64 0]) :: L) g c2 A2 cap2 c2.l ∧ (0 < c2.l.length → ∀ x, A2 = some x → x.block ≠ p)
  new : b = true → W.heap.size ≤ p ∧ ∀ r ∈ L, r.1 ≠ p
  fin : d = true → Pl W y ((p, 27, #[.slice A2 c2.l.length cap2, .int .i64 c2.mark]) :: L) g c2 A2 cap2 c2.l
  ord : d = true → a = true ∧ b = true
  far : a = true → A2 = A ∧ c2.l = c.l ∨ ∀ x, A2 = some x → w.heap.size ≤ x.block
section
variable {W w y y2 : World} {L : List Row} {g : Nat} {c c2 : Cs} {A A2 A3 : Option Addr} {cap cap2 cap3 p : Nat} {a b d : Bool}
theorem Dn.start (h : Pl W y L g c A cap c.l) (hs : w.heap.size ≤ y.heap.size) (p : Nat) (A2 : Option Addr) (cap2 : Nat) (c2 : Cs) : Dn W w y L g c c2 A cap p A2 cap2 false false false :=
  ⟨fun _ _ => h, (fun _ h => by cases h), fun _ => hs, (fun h => by cases h), (fun h => by cases h), (fun h => by cases h), (fun h => by cases h), (fun h => by cases h), (fun h => by cases h)⟩
theorem Dn.noD (k : Dn W w y L g c c2 A cap p A2 cap2 a b d) (h : a = false ∨ b = false) : d = false := by
  cases d with
  | false => rfl
  | true =>
    have := k.ord rfl
    rcases h with h | h
    · rw [this.1] at h; cases h
    · rw [this.2] at h; cases h
theorem Pl.newOf {l : List Ve} (h : Pl W y L g c A cap l) : W.heap.size ≤ y.heap.size ∧ ∀ r ∈ L, r.1 ≠ y.heap.size := ⟨h.st.below.size, fun r hr => by have := (h.st.knows r hr).lt; omega⟩
/-- n's block is made. -/
theorem Dn.made (k : Dn W w y L g c c2 A cap p A2 cap2 a false d) : Dn W w (y.alloc (.cells #[.slice none 0 0, .int .i64 0] 27)) L g c c2 A cap y.heap.size A2 cap2 a true d := by
  have hd := k.noD (.inr rfl)
  subst hd
  refine ⟨(fun _ h => by cases h), fun ha _ => ?_, fun ha => ?_, (fun _ h => by cases h), fun ha _ _ => ?_, fun _ => ?_, (fun h => by cases h), (fun h => by cases h), k.far⟩
  · have h1 := k.p00 ha rfl
    exact ⟨h1.alloc _ rfl _ _, fun hl x hx => by have := h1.row.low x hl hx; omega⟩
  · have := k.size ha
    simp; omega
  · have h1 := k.p10 ha rfl
    exact ⟨h1.alloc _ rfl _ _, fun hl x hx => by have := h1.row.low x hl hx; omega⟩
  · cases a with
    | false => exact (k.p00 rfl rfl).newOf
    | true => exact (k.p10 rfl rfl).newOf
/-- does was called. -/
theorem Dn.called0 (k : Dn W w y L g c c2 A cap p A2 cap2 false false d) (j : Pl W y2 L g c2 A3 cap3 c2.l) (j3 : A3 = A ∧ c2.l = c.l ∨ ∀ x, A3 = some x → y.heap.size ≤ x.block) : Dn W w y2 L g c c2 A cap p A3 cap3 true false d := by
  have hd := k.noD (.inl rfl)
  subst hd
  exact ⟨(fun h => by cases h), (fun h => by cases h), (fun h => by cases h), fun _ _ => j, (fun _ h => by cases h), (fun h => by cases h), (fun h => by cases h), (fun h => by cases h), fun _ => j3.imp_right fun h x hx => Nat.le_trans (k.size rfl) (h x hx)⟩
theorem Dn.called1 (k : Dn W w y L g c c2 A cap p A2 cap2 false true d) (j : Pl W y2 ((p, 27, #[.slice none 0 0, .int .i64 0]) :: L) g c2 A3 cap3 c2.l) (j3 : A3 = A ∧ c2.l = c.l ∨ ∀ x, A3 = some x → y.heap.size ≤ x.block) : Dn W w y2 L g c c2 A cap p A3 cap3 true true d := by
  have hd := k.noD (.inl rfl)
  subst hd
  obtain ⟨h1, h4⟩ := k.p01 rfl rfl
  refine ⟨(fun h => by cases h), (fun h => by cases h), (fun h => by cases h), (fun _ h => by cases h), fun _ _ _ => ⟨j, fun hl x hx => ?_⟩, k.new, (fun h => by cases h), (fun h => by cases h), fun _ => j3.imp_right fun h x hx => Nat.le_trans (k.size rfl) (h x hx)⟩
  rcases j3 with ⟨rfl, e⟩ | j3
  · exact h4 (by rw [← e]; exact hl) x hx
  · have := j3 x hx
    have := (h1.st.knows.at 0 rfl).lt
    omega
/-- n is told. -/
theorem Dn.told (k : Dn W w y L g c c2 A cap p A2 cap2 true true false) : Dn W w ((y.setCell ⟨p, 0, none⟩ (.slice A2 c2.l.length cap2)).setCell ⟨p, 1, none⟩ (.int .i64 c2.mark)) L g c c2 A cap p A2 cap2 true true true := by
  obtain ⟨h1, h3⟩ := k.p11 rfl rfl rfl
  obtain ⟨hn, hd⟩ := k.new rfl
  exact ⟨(fun h => by cases h), (fun h => by cases h), (fun h => by cases h), (fun _ h => by cases h), (fun _ _ h => by cases h), k.new, fun _ => (h1.set0 hn hd h3 0 (.slice A2 c2.l.length cap2)).set0 hn hd h3 1 (.int .i64 c2.mark), fun _ => ⟨rfl, rfl⟩, k.far⟩
theorem Dn.cells (k : Dn W w y L g c c2 A cap p A2 cap2 true true false) : y.cell? ⟨p, 0, none⟩ = some (.slice none 0 0) ∧ y.cell? ⟨p, 1, none⟩ = some (.int .i64 0) ∧ y.frozen? ⟨p, 0, none⟩ = false ∧ y.frozen? ⟨p, 1, none⟩ = false ∧ p < y.heap.size :=
  two_of ((k.p11 rfl rfl rfl).1.st.knows.at 0 rfl)
/-- What is known all along. -/
theorem Dn.reads (k : Dn W w y L g c c2 A cap p A2 cap2 a b d) : Below W.heap.size W y ∧ Knows y L := by
  cases a with
  | false =>
    cases b with
    | false => have h := k.p00 rfl rfl; exact ⟨h.st.below, h.st.knows⟩
    | true => obtain ⟨h, -⟩ := k.p01 rfl rfl; exact ⟨h.st.below, fun r hr => h.st.knows r (List.mem_cons_of_mem _ hr)⟩
  | true =>
    cases b with
    | false => have h := k.p10 rfl rfl; exact ⟨h.st.below, h.st.knows⟩
    | true =>
      cases d with
      | false => obtain ⟨h, -⟩ := k.p11 rfl rfl rfl; exact ⟨h.st.below, fun r hr => h.st.knows r (List.mem_cons_of_mem _ hr)⟩
      | true => have h := k.fin rfl; exact ⟨h.st.below, fun r hr => h.st.knows r (List.mem_cons_of_mem _ hr)⟩
end
theorem three_cells {w : World} {B len off b0 : Nat} {l : List Op11} (h : Sees w B 3 (some ⟨b0, off, none⟩) len (flat encO l)) (n : Nat) (o : Op11) (ho : l[n]? = some o) :
    w.cell? ⟨b0, off + n * 3, none⟩ = some (.int .i64 o.k) ∧ w.cell? ⟨b0, off + n * 3 + 1, none⟩ = some (.int .i64 o.t) ∧ w.cell? ⟨b0, off + n * 3 + 2, none⟩ = some (.int .i64 o.v) := by
  obtain ⟨b, off', e, hb, hcc⟩ := h.item encO_len (by omega) n o ho
  injection e with e
  injection e with e1 e2
  subst e1 e2
  exact ⟨hcc 0 _ rfl, hcc 1 _ rfl, hcc 2 _ rfl⟩
def so (b : Bool) (v u : Value) : Value := if b then v else u
theorem so_true (v u : Value) : so true v u = v := rfl
theorem so_false (v u : Value) : so false v u = u := rfl
end Go.Proofs.Ytiocghhhfhobbaa
