/- Contracts at layer 13: Ask. (Written by gloka.py.) -/
import Derived.Test.YtcjefigcaifmeaaLokE
namespace Go.Proofs.Ytcjefigcaifmeaa
open Go.RowKit Go.Lk
set_option linter.unusedVariables false
set_option linter.unusedSimpArgs false
set_option maxRecDepth 100000
/-- Where Ask stands: the table, its answer's box, its ask's box. -/
structure Ak (F : Nat → Prop) (w0 w : World) (s : Tb) (loc : Nm → Nat) (x : Int) (b : Bool) : Prop where
  t : Tm w s loc
  turn : Whole w w0.heap.size 34 #[.bool false, .slice none 0 0, .slice none 0 0]
  ask : Whole w (w0.heap.size + 1) 60 #[.int .i64 x, .bool b]
  off : Off F w0 w
section
variable {F G : Nat → Prop} {w0 w w' : World} {s s' : Tb} {loc loc' : Nm → Nat} {x : Int} {b : Bool}
theorem Ak.call (h : Ak F w0 w s loc x b) (hb : Below w.heap.size w w') : Ak F w0 w' s loc x b := ⟨h.t.call hb, h.turn.below hb h.turn.lt, h.ask.below hb h.ask.lt, h.off.call hb⟩
theorem Ak.cells (h : Ak F w0 w s loc x b) : w.cell? ⟨loc .face, 0, none⟩ = some (.map (some (loc .rows))) ∧ w.cell? ⟨loc .face, 1, none⟩ = some (.map (some (loc .pars))) ∧ loc .face < w.heap.size ∧ w.cell? ⟨w0.heap.size + 1, 0, none⟩ = some (.int .i64 x) ∧ w.cell? ⟨w0.heap.size + 1, 1, none⟩ = some (.bool b) ∧ w0.heap.size + 1 < w.heap.size := by
  obtain ⟨c0, c1, cz⟩ := h.t.face
  exact ⟨c0, c1, cz, h.ask.cell 0, h.ask.cell 1, h.ask.lt⟩
/-- Something has changed that is none of the boxes. -/
theorem Ak.off' (h : Ak F w0 w s loc x b) (ho : Off G w w') (hG : ∀ i, G i → F i ∨ w0.heap.size + 2 ≤ i) (hF : ∀ i, F i → i < w0.heap.size) (t : Tm w' s' loc') : Ak F w0 w' s' loc' x b := by
  have hn : ∀ i, i < w0.heap.size + 2 → w0.heap.size ≤ i → ¬ G i := fun i h1 h2 h3 => by
    rcases hG i h3 with h4 | h4
    · have := hF i h4; omega
    · omega
  exact ⟨t, ho.whole h.turn (hn _ (by omega) (Nat.le_refl _)), ho.whole h.ask (hn _ (by omega) (by omega)), h.off.then (fun i hi => by
    rcases hG i hi with h4 | h4
    · exact .inl h4
    · exact .inr (by omega)) ho⟩
end
theorem killsS_snoc (s : Tb) (l : List Int) (y : Int) : killsS s (l ++ [y]) = killS (killsS s l) y := by unfold killsS; rw [List.foldl_append]; rfl
theorem kills_ks : ∀ (l : List Int) (s : Tb) {y : Int}, y ∉ l → (killsS s l).ks y = s.ks y
  | [], s, y, _ => rfl
  | z :: l, s, y, h => by
    rw [List.mem_cons, not_or] at h
    rw [killsS_cons, kills_ks l (killS s z) h.2]
    exact upd_other _ h.1 _
theorem foot_kills (s : Tb) (l : List Int) (loc : Nm → Nat) (j : Nat) : Foot (killsS s l) loc j ↔ Foot s loc j := by
  have hk := kills_inn l s
  have e : live (killsS s l) = live s := by
    funext n
    cases n <;> simp [live, hk.1, hk.2]
  unfold Foot
  rw [e]
theorem own_one (w : World) (k : Int) : (w.alloc (.cells #[.int .i64 k] 3)).ownsRow w.heap.size 3 1 (.slice (some ⟨w.heap.size, 0, none⟩) 1 1) [k].length ([k].map (Value.int .i64)) :=
  ⟨rfl, .inr ⟨w.heap.size, 1, #[.int .i64 k], rfl, Nat.le_refl _, heap_alloc_new w _, Nat.le_refl _, by unfold maxLen; omega, rfl, rfl⟩⟩
/-- A slot's value, hidden. -/
def so (b : Bool) (v u : Value) : Value := if b then v else u
theorem so_true (v u : Value) : so true v u = v := rfl
theorem so_false (v u : Value) : so false v u = u := rfl
/-- Where the region stands that calls younger. -/
structure Yg (F : Nat → Prop) (w0 wb y : World) (s : Tb) (loc : Nm → Nat) (x : Int) (b : Bool) (l : List Int) (A : Option Addr) (cap : Nat) (a : Bool) : Prop where
  ak : Ak F w0 y s loc x b
  sz : wb.heap.size ≤ y.heap.size
  own : a = true → y.ownsRow wb.heap.size 3 1 (.slice A l.length cap) l.length (l.map (Value.int .i64))
open Classical in
set_option maxHeartbeats 64000000 in
theorem lask_any {s : Tb} {loc : Nm → Nat} (x k : Int) (b : Bool) (hx : W64 x) (hk0 : W64 k) (w : World) (T : Tm w s loc) (m : Fine s) (hn : cntT s + 1 ≤ 100000) :
    Calls Try.prog 6 #[ptr (loc .face), .int .i64 x, .int .i64 k, .bool b] w fun e w' => ∃ A cap A' cap', e = .returned (.tuple #[.agg #[.bool (askA s x b k).granted, .slice A (askA s x b k).wounded.length cap, .slice A' (askA s x b k).woken.length cap'], .int .i64 (askE s x k)]) ∧
      WentT (Foot s loc) w w' (loc .face) (askS s x b k) ∧ w'.ownsRow w.heap.size 3 1 (.slice A (askA s x b k).wounded.length cap) (askA s x b k).wounded.length ((askA s x b k).wounded.map (Value.int .i64)) ∧
      w'.ownsRow w.heap.size 57 2 (.slice A' (askA s x b k).woken.length cap') (askA s x b k).woken.length (flat encG (askA s x b k).woken) := by
  have HT := Lib.hid T
  have HMI := Lib.hid m
  have hcn := hn
  have HLOW : Hid (∀ i, Foot s loc i → i < w.heap.size) := Lib.hid fun i hi => T.low hi
  have hb0 := (Below.refl w.heap.size w).alloc (Nat.le_refl _) (.cells #[.bool false, .slice none 0 0, .slice none 0 0] 34)
  have HWH := Lib.hid (lwhy_any x k hx _ (T.call hb0) m)
  have hbA := hb0.alloc (by simp) (.cells #[.int .i64 x, .bool b] 60)
  have HB0 := Lib.hid hb0
  have HA0 : Hid (Ak (Foot s loc) w ((w.alloc (.cells #[.bool false, .slice none 0 0, .slice none 0 0] 34)).alloc (.cells #[.int .i64 x, .bool b] 60)) s loc x b) := Lib.hid ⟨T.call hbA, (Whole.fresh w _ _).alloc _, by simpa using Whole.fresh (w.alloc (.cells #[.bool false, .slice none 0 0, .slice none 0 0] 34)) 60 #[.int .i64 x, .bool b], .of hbA _⟩
  have HBA := Lib.hid hbA
  clear T m hb0 hbA hn
  by_cases he : askE s x k = 0
  case neg =>
    have e1 : askA s x b k = ⟨false, [], []⟩ := by unfold askA; rw [if_pos he]
    have e2 : askS s x b k = s := by unfold askS; rw [if_neg (fun h => he h.1)]
    rw [e1, e2]
    have q0 : (askE s x k != 0) = true := by simpa using he
    clear e1 e2 he HA0
    generalize askE s x k = E at *
    go_enter Try.func6, Try.ntmps6
    go_wp2_with fail
    refine HWH.out.mono ?_
    rintro e w1 ⟨rfl, e1⟩
    subst w1
    have HK : Hid (Whole (w.alloc (.cells #[.bool false, .slice none 0 0, .slice none 0 0] 34)) w.heap.size 34 #[.bool false, .slice none 0 0, .slice none 0 0]) := Lib.hid (Whole.fresh w _ _)
    have t0 := HK.out.cell 0
    have t1 := HK.out.cell 1
    have t2 := HK.out.cell 2
    have tf0 := HK.out.free 0
    have tf1 := HK.out.free 1
    have tf2 := HK.out.free 2
    have tz := HK.out.lt
    simp only [List.getElem?_toArray, List.getElem?_cons_zero, List.getElem?_cons_succ] at t0 t1 t2
    go_wp2_with fail
    refine bodyPost_ret (by simp [results, Try.results6, go_sem, t0, t1, t2, tf0, tf1, tf2, tz]; try rfl) rfl ?_
    exact ⟨none, 0, none, 0, rfl, .same HT.out.tab (by
      have hb := HB0.out
      go_grown), World.ownsRow_nil _ _ _ _, World.ownsRow_nil _ _ _ _⟩
  have hkk : isK k = true ∧ 1 ≤ x ∧ s.dead x = false ∧ s.waits x = false := by
    rcases Lk.ask_cases s x k with ⟨_, h⟩ | ⟨_, _, h⟩ | ⟨_, _, _, h⟩ | ⟨_, _, _, _, h⟩ | ⟨h1, h2, h3, h4, h⟩
    · rw [he] at h; cases h
    · rw [he] at h; cases h
    · rw [he] at h; cases h
    · rw [he] at h; cases h
    · exact ⟨h2, h1, h3, h4⟩
  obtain ⟨hk, hx1, hdx, hwx⟩ := hkk
  rw [he] at HWH ⊢
  have HHS := Lib.hid (fun w0 (t : Tm w0 s loc) => has_any (rowV s loc k) (s.h k) x b w0 (t.row HMI.out k).1 hx)
  have hhf : hasF (s.h k) x b = hasS s x b k := rfl
  rw [hhf] at HHS
  clear hhf
  cases hh : hasS s x b k with
  | true =>
    have e1 : askA s x b k = ⟨true, [], []⟩ := by unfold askA; rw [if_neg (by rw [he]; simp), if_pos hh]
    have e2 : askS s x b k = s := by unfold askS; rw [if_neg (fun h => by rw [hh] at h; cases h.2)]
    rw [e1, e2]
    rw [hh] at HHS
    clear e1 e2 he
    go_enter Try.func6, Try.ntmps6
    go_wp2_with fail
    refine HWH.out.mono ?_
    rintro e w1 ⟨rfl, e1⟩
    subst w1
    have HQ := HA0
    obtain ⟨C, hC, HCc, HCf⟩ := below_class ((w.alloc (.cells #[.bool false, .slice none 0 0, .slice none 0 0] 34)).alloc (.cells #[.int .i64 x, .bool b] 60))
    go_wp2_with fail
    refine region_in C hC (by kernel_rfl) (by kernel_rfl) ?_
    iterate 8
      (refine WQ.step (fun K hK => ?_)
       go_simp
       first
         | (refine hK _ ?_; clear hK K)
         | (apply Exists.intro
            refine ⟨fun z hz => ?_, hK _ ?_⟩
            · first
                | rfl
                | (go_at_call 18; refine (HHS.out _ (HQ.out.call (HCf.out _ hz)).t).mono ?_; rintro e x1 ⟨rfl, hb⟩; exact ⟨rfl, HCc.out _ _ hz hb⟩)
                | (have TZ := HQ.out.call (HCf.out _ hz); obtain ⟨k0, k1, kz, q0, q1, qz⟩ := TZ.cells; have hl := (TZ.t.rows hk0).2; go_simp; rfl)
            clear hK K))
    refine WQ.nil ?_
    intro w2 hw
    have HBW := Lib.hid (HCf.out _ hw)
    clear hw hC HCc HCf C
    have HA2 := Lib.hid (HQ.out.call HBW.out)
    clear HBW HQ HA0 HWH
    have t0 := HA2.out.turn.cell 0
    have t1 := HA2.out.turn.cell 1
    have t2 := HA2.out.turn.cell 2
    have tf0 := HA2.out.turn.free 0
    have tf1 := HA2.out.turn.free 1
    have tf2 := HA2.out.turn.free 2
    have tz := HA2.out.turn.lt
    simp only [List.getElem?_toArray, List.getElem?_cons_zero, List.getElem?_cons_succ] at t0 t1 t2
    go_wp2_with fail
    refine bodyPost_ret (by simp [results, Try.results6, go_sem, t0, t1, t2, tf0, tf1, tf2, tz]; try rfl) rfl ?_
    have HF := Lib.hid (((Off.refl (fun i => i = w.heap.size) w2).set (p := ⟨w.heap.size, 0, none⟩) (.inl rfl) (.bool true)).set (p := ⟨w.heap.size, 1, none⟩) (.inl rfl) (.slice none 0 0) |>.set (p := ⟨w.heap.size, 2, none⟩) (.inl rfl) (.slice none 0 0))
    refine ⟨none, 0, none, 0, rfl, ⟨HA2.out.off.then (F' := fun i => i = w.heap.size) (fun i hi => .inr (by omega)) HF.out, Foot s loc, fun i h => .inl h, loc, rfl, HA2.out.t.off HF.out (fun i hi e => by have := HLOW.out i hi; omega), fun i => Iff.rfl⟩, World.ownsRow_nil _ _ _ _, World.ownsRow_nil _ _ _ _⟩
  | false =>
    have e1 : askA s x b k = ⟨hasS (askT s x b k) x b k, wdS s x b k, wokeL (midS s x b k) (askK s (wdS s x b k) k) x⟩ := by unfold askA; rw [if_neg (by rw [he]; simp), if_neg (by rw [hh]; simp)]
    have e2 : askS s x b k = askT s x b k := by unfold askS; rw [if_pos ⟨he, hh⟩]
    rw [e1, e2]
    clear e1 e2
    have HMID := Lib.hid (mid_ok HMI.out (b := b) ⟨hx1, by unfold W64 at hx; omega⟩ he hh)
    have HYG := Lib.hid (fun w0 (t : Tm w0 s loc) => younger_any (rowV s loc k) (s.h k) x b w0 (t.row HMI.out k).1 (by have := mid_fewh HMI.out k; omega))
    rw [show ygL (s.h k) x b = wdS s x b k from rfl] at HYG
    have hwdl : (wdS s x b k).length ≤ 100000 := by
      have h1 : (wdS s x b k).length ≤ (supp (s.h k)).length := List.length_filter_le _ _
      have := mid_fewh HMI.out k
      omega
    have HWM := Lib.hid (wdS_mem HMI.out x b k)
    have HWR := Lib.hid (wdS_rises HMI.out x b k)
    have HWI := Lib.hid (wdS_inn HMI.out x b k)
    obtain ⟨wd, hwd⟩ : ∃ wd, wdS s x b k = wd := ⟨_, rfl⟩
    have HWD := Lib.hid hwd
    rw [hwd] at HYG hwdl HWM HWR HWI HMID
    rw [hwd]
    rw [hh] at HHS
    clear hwd he hh HBA HB0
    go_enter Try.func6, Try.ntmps6
    go_wp2_with fail
    refine HWH.out.mono ?_
    rintro e w1 ⟨rfl, e1⟩
    subst w1
    have HQ := HA0
    obtain ⟨C, hC, HCc, HCf⟩ := below_class ((w.alloc (.cells #[.bool false, .slice none 0 0, .slice none 0 0] 34)).alloc (.cells #[.int .i64 x, .bool b] 60))
    go_wp2_with fail
    refine region_in C hC (by kernel_rfl) (by kernel_rfl) ?_
    iterate 8
      (refine WQ.step (fun K hK => ?_)
       go_simp
       first
         | (refine hK _ ?_; clear hK K)
         | (apply Exists.intro
            refine ⟨fun z hz => ?_, hK _ ?_⟩
            · first
                | rfl
                | (go_at_call 18; refine (HHS.out _ (HQ.out.call (HCf.out _ hz)).t).mono ?_; rintro e x1 ⟨rfl, hb⟩; exact ⟨rfl, HCc.out _ _ hz hb⟩)
                | (have TZ := HQ.out.call (HCf.out _ hz); obtain ⟨k0, k1, kz, q0, q1, qz⟩ := TZ.cells; have hl := (TZ.t.rows hk0).2; go_simp; rfl)
            clear hK K))
    refine WQ.nil ?_
    intro w2 hw
    have HBW := Lib.hid (HCf.out _ hw)
    clear hw hC HCc HCf C
    have HA2 := Lib.hid (HQ.out.call HBW.out)
    clear HBW HQ HA0 HWH
    have hs2 := HA2.out.ask.lt
    clear HHS
    go_wp2_with fail
    refine Iv.region (fun f aa y => ∃ A cap, aa = ⟨#[ptr (loc Nm.face), Value.int IntKind.i64 x, Value.int IntKind.i64 k, Value.bool b, undef, undef, undef, undef, Value.pointer (some { block := w.heap.size, off := 0 }), Value.int IntKind.i64 0, Value.int IntKind.i64 0, Value.pointer (some { block := w.heap.size + 1, off := 0 }), so (f 8) (.slice A wd.length cap) undef, undef, undef, undef, undef, ptr (loc Nm.face), Value.int IntKind.i64 x, Value.int IntKind.i64 k, Value.int IntKind.i64 0, Value.int IntKind.i64 0, Value.bool false, undef, undef, Value.int IntKind.i64 x, Value.bool b, Value.agg #[Value.int IntKind.i64 x, Value.bool b], ptr (loc Nm.face), Value.pointer (some { block := loc Nm.face, off := 0 }), Value.pointer (some { block := loc Nm.face, off := 0 }), Value.map (some (loc Nm.rows)), Value.int IntKind.i64 k, rE (rowV s loc k), Value.agg #[Value.int IntKind.i64 x, Value.bool b], Value.bool false, undef, so (f 0) (ptr (loc Nm.face)) undef, so (f 1) (ptr (loc Nm.face)) undef, so (f 2) (.pointer (some ⟨loc Nm.face, 0, none⟩)) undef, so (f 3) (.map (some (loc Nm.rows))) undef, so (f 4) (.int .i64 k) undef, so (f 5) (rE (rowV s loc k)) undef, so (f 6) (.agg #[.int .i64 x, .bool b]) undef, so (f 7) (.slice A wd.length cap) undef, undef, undef, undef, undef, undef, undef, undef, undef, undef, undef, undef, undef, undef, undef, undef, undef, undef, undef, undef, undef, undef, undef, undef, undef, undef, undef, undef, undef, undef, undef, undef, undef, undef, undef, undef, undef, undef, undef, undef, undef, undef], []⟩ ∧ Yg (Foot s loc) w w2 y s loc x b wd A cap (f 7) ∧ (f 8 = true → f 7 = true)) (by kernel_rfl) (by kernel_rfl) ?_ ?_ ?_
    · exact ⟨none, 0, rfl, ⟨HA2.out.call (drew_below _ 1), Nat.le_refl _, fun h => by cases h⟩, fun h => by cases h⟩
    · refine ⟨?_, ?_, ?_, ?_, ?_, ?_, ?_, ?_, ?_, trivial⟩
      · rintro f a0 y Q' ⟨A, cap, rfl, hw⟩ hi hd hQ
        replace hQ := Lib.hid hQ
        simp [Iv.depsB, Region.binds] at hd
        try simp only [hi, hd, sl_true, sl_false, so_true, so_false]
        try simp only [hi, sl_true, sl_false, so_true, so_false]
        go_wp2_with fail
        refine hQ.out _ _ ⟨A, cap, ?_, ?_⟩
        · simp [Iv.upd, hi, hd, sl_true, sl_false, so_true, so_false]
        · simpa [Iv.upd, hi, hd] using hw
      · rintro f a0 y Q' ⟨A, cap, rfl, hw⟩ hi hd hQ
        replace hQ := Lib.hid hQ
        simp [Iv.depsB, Region.binds] at hd
        try simp only [hi, hd, sl_true, sl_false, so_true, so_false]
        try simp only [hi, sl_true, sl_false, so_true, so_false]
        go_wp2_with fail
        refine hQ.out _ _ ⟨A, cap, ?_, ?_⟩
        · simp [Iv.upd, hi, hd, sl_true, sl_false, so_true, so_false]
        · simpa [Iv.upd, hi, hd] using hw
      · rintro f a0 y Q' ⟨A, cap, rfl, hw⟩ hi hd hQ
        replace hQ := Lib.hid hQ
        simp [Iv.depsB, Region.binds] at hd
        try simp only [hi, hd, sl_true, sl_false, so_true, so_false]
        try simp only [hi, sl_true, sl_false, so_true, so_false]
        go_wp2_with fail
        refine hQ.out _ _ ⟨A, cap, ?_, ?_⟩
        · simp [Iv.upd, hi, hd, sl_true, sl_false, so_true, so_false]
        · simpa [Iv.upd, hi, hd] using hw
      · rintro f a0 y Q' ⟨A, cap, rfl, hw⟩ hi hd hQ
        replace hQ := Lib.hid hQ
        simp [Iv.depsB, Region.binds] at hd
        try simp only [hi, hd, sl_true, sl_false, so_true, so_false]
        try simp only [hi, sl_true, sl_false, so_true, so_false]
        obtain ⟨k0, k1, kz, q0, q1, qz⟩ := hw.1.ak.cells
        go_wp2_with fail
        refine hQ.out _ _ ⟨A, cap, ?_, ?_⟩
        · simp [Iv.upd, hi, hd, sl_true, sl_false, so_true, so_false]
        · simpa [Iv.upd, hi, hd] using hw
      · rintro f a0 y Q' ⟨A, cap, rfl, hw⟩ hi hd hQ
        replace hQ := Lib.hid hQ
        simp [Iv.depsB, Region.binds] at hd
        try simp only [hi, hd, sl_true, sl_false, so_true, so_false]
        try simp only [hi, sl_true, sl_false, so_true, so_false]
        go_wp2_with fail
        refine hQ.out _ _ ⟨A, cap, ?_, ?_⟩
        · simp [Iv.upd, hi, hd, sl_true, sl_false, so_true, so_false]
        · simpa [Iv.upd, hi, hd] using hw
      · rintro f a0 y Q' ⟨A, cap, rfl, hw⟩ hi hd hQ
        replace hQ := Lib.hid hQ
        simp [Iv.depsB, Region.binds] at hd
        try simp only [hi, hd, sl_true, sl_false, so_true, so_false]
        try simp only [hi, sl_true, sl_false, so_true, so_false]
        have ea : f 3 = true := by simp [hd]
        have eb : f 4 = true := by simp [hd]
        try simp only [ea, eb, so_true, so_false]
        have hl := (hw.1.ak.t.rows hk0).2
        go_wp2_with fail
        refine hQ.out _ _ ⟨A, cap, ?_, ?_⟩
        · simp [Iv.upd, hi, hd, sl_true, sl_false, so_true, so_false, ea, eb]
        · simpa [Iv.upd, hi, hd, ea, eb] using hw
      · rintro f a0 y Q' ⟨A, cap, rfl, hw⟩ hi hd hQ
        replace hQ := Lib.hid hQ
        simp [Iv.depsB, Region.binds] at hd
        try simp only [hi, hd, sl_true, sl_false, so_true, so_false]
        try simp only [hi, sl_true, sl_false, so_true, so_false]
        obtain ⟨k0, k1, kz, q0, q1, qz⟩ := hw.1.ak.cells
        go_wp2_with fail
        refine hQ.out _ _ ⟨A, cap, ?_, ?_⟩
        · simp [Iv.upd, hi, hd, sl_true, sl_false, so_true, so_false]
        · simpa [Iv.upd, hi, hd] using hw
      · rintro f a0 y Q' ⟨A, cap, rfl, hw⟩ hi hd hQ
        replace hQ := Lib.hid hQ
        simp [Iv.depsB, Region.binds] at hd
        try simp only [hi, hd, sl_true, sl_false, so_true, so_false]
        try simp only [hi, sl_true, sl_false, so_true, so_false]
        have ea : f 5 = true := by simp [hd]
        have eb : f 6 = true := by simp [hd]
        have e8 : f 8 = false := by
          cases e : f 8 with
          | false => rfl
          | true => have h7 := hw.2 e; rw [hi] at h7; cases h7
        try simp only [ea, eb, so_true, so_false]
        have HW := Lib.hid hw.1
        clear hw
        go_wp2_with fail
        refine (HYG.out _ HW.out.ak.t).mono ?_
        rintro e y1 ⟨A3, cap3, rfl, hb, ho⟩
        have HN : Hid (Yg (Foot s loc) w w2 y1 s loc x b wd A3 cap3 true) := Lib.hid ⟨HW.out.ak.call hb, Nat.le_trans HW.out.sz hb.size, fun _ => ⟨ho.1, ho.2.imp_right fun ⟨g, cap, cur, h1, h2, h3⟩ => ⟨g, cap, cur, h1, Nat.le_trans HW.out.sz h2, h3⟩⟩⟩
        clear hb ho
        go_wp2_with fail
        refine hQ.out _ _ ⟨A3, cap3, ?_, ?_⟩
        · simp [Iv.upd, hi, hd, sl_true, sl_false, so_true, so_false, ea, eb, e8]
        · simpa [Iv.upd, hi, hd, ea, eb, e8] using HN.out
      · rintro f a0 y Q' ⟨A, cap, rfl, hw⟩ hi hd hQ
        replace hQ := Lib.hid hQ
        simp [Iv.depsB, Region.binds] at hd
        try simp only [hi, hd, sl_true, sl_false, so_true, so_false]
        try simp only [hi, sl_true, sl_false, so_true, so_false]
        have e7 : f 7 = true := by simp [hd]
        go_wp2_with fail
        refine hQ.out _ _ ⟨A, cap, ?_, ?_⟩
        · simp [Iv.upd, hi, hd, sl_true, sl_false, so_true, so_false, e7]
        · simpa [Iv.upd, hi, hd, e7] using hw
    · rintro f a0 y ⟨A, cap, rfl, hw⟩ hall
      simp only [hall 0 (by decide), hall 1 (by decide), hall 2 (by decide), hall 3 (by decide), hall 4 (by decide), hall 5 (by decide), hall 6 (by decide), hall 7 (by decide), hall 8 (by decide), sl_true, ↓reduceIte, so_true, so_false] at hw ⊢
      clear hall
      have HA3 := Lib.hid hw.1.ak
      have HWN := Lib.hid (hw.1.own rfl)
      have hs3 := hw.1.sz
      have HAL : Hid (∀ i, (Value.slice A wd.length cap).ownBlock = some i → i < y.heap.size) := Lib.hid fun i hi => ((hw.1.own rfl).lt i hi).2
      have hacap : wd.length ≤ cap := by
        obtain ⟨_, _, e, h, -⟩ := own_slice0 (hw.1.own rfl)
        injection e with _ _ e
        omega
      clear hw HA2 HYG
      have hbk := (Below.refl y.heap.size y).alloc (Nat.le_refl _) (.cells #[.int .i64 k] 3)
      have HA4 := Lib.hid (HA3.out.call hbk)
      have HWN4 := Lib.hid (own_keep HWN.out hbk (Nat.le_refl _))
      have HKN := Lib.hid (own_one y k)
      obtain ⟨yb, hyb⟩ : ∃ yb, yb = y.heap.size := ⟨_, rfl⟩
      rw [← hyb] at HKN HAL
      have HYB := Lib.hid hyb
      have hyl : w.heap.size + 2 ≤ yb := by have := HA3.out.ask.lt; omega
      have hwyb : w2.heap.size ≤ yb := by omega
      clear hbk HA3 HWN hyb
      go_wp2_with fail
      rw [← HYB.out]
      go_loopw [13, 49] (fun v idx wr => ∃ (i : Nat) (Ks : List Int), i ≤ wd.length ∧ idx = .int .i64 (i : Int) ∧ Ak (Foot s loc) w wr (killsS s (wd.take i)) loc x b ∧ wr.ownsRow yb 3 1 v Ks.length (Ks.map (Value.int .i64)) ∧ 0 < Ks.length ∧ Ks.length ≤ 1 + i * 8192 ∧
          (∀ j, j ∈ Ks ↔ (j = k ∨ ∃ y ∈ wd.take i, s.ks y j = true)) ∧ wr.ownsRow w2.heap.size 3 1 (.slice A wd.length cap) wd.length (wd.map (Value.int .i64))) (fun _ idx _ => wd.length - (intOf idx).toNat)
      case atStart => exact ⟨0, [k], by omega, rfl, HA4.out, HKN.out, by simp, by simp, fun j => by simp, HWN4.out⟩
      case round =>
        obtain ⟨i, Ks, hi, rfl, hak, hkn, hk0l, hkl, hkm, hwn⟩ := hrel
        have HAK := Lib.hid hak
        have HKN2 := Lib.hid hkn
        have HKM := Lib.hid hkm
        have HWN2 := Lib.hid hwn
        have hskill := kills_inn (wd.take i) s
        have HSK := Lib.hid hskill
        have hnd : (wd.take i).Nodup := HWR.out.nodup.sublist (List.take_sublist _ _)
        have hmidj := Mid.kills (wd.take i) HMI.out hnd fun y hy => HWI.out y (List.mem_of_mem_take hy)
        have HMJ := Lib.hid hmidj
        have HFT : Hid (∀ j, Foot (killsS s (wd.take i)) loc j ↔ Foot s loc j) := Lib.hid (foot_kills s _ loc)
        obtain ⟨A5, cp5, hv5, r51, r52, r53⟩ := own_slice0 hkn
        subst hv5
        have h5 : ∃ gk, A5 = some ⟨gk, 0, none⟩ ∧ yb ≤ gk ∧ gk < wr.heap.size := by
          rcases hkn.2 with ⟨h, h0⟩ | ⟨g', c', cur, h, hb, hg, _⟩
          · omega
          · injection h with h
            exact ⟨g', h, hb, (Array.getElem?_eq_some_iff.1 hg).1⟩
        obtain ⟨gk, rfl, hgk1, hgk2⟩ := h5
        clear hak hkn hkm hwn hskill hmidj HA4 HKN HWN4
        by_cases hlt : i < wd.length
        · obtain ⟨y9, hy9⟩ : ∃ y9, wd[i]? = some y9 := ⟨_, List.getElem?_eq_getElem hlt⟩
          have hnot : y9 ∉ wd.take i := fun h => by
            obtain ⟨a, ha, e⟩ := List.mem_take_iff_getElem.1 h
            have e2 := (List.getElem?_eq_some_iff.1 hy9).2
            have := List.pairwise_iff_getElem.1 HWR.out a i (by omega) hlt (by omega)
            omega
          have hyin : s.inn y9 = true := HWI.out y9 (List.mem_of_getElem? hy9)
          have hyi : (killsS s (wd.take i)).inn y9 = true := by rw [HSK.out.1]; exact hyin
          have HYI := Lib.hid hyi
          have hy64 : W64 y9 := by have := HMI.out.inn64 y9 hyin; unfold W64; omega
          have HTK : Hid (wd.take (i + 1) = wd.take i ++ [y9]) := Lib.hid (by rw [List.take_add_one, hy9]; rfl)
          have HKS : Hid (killsS s (wd.take (i + 1)) = killS (killsS s (wd.take i)) y9) := Lib.hid (by rw [HTK.out]; exact killsS_snoc s _ y9)
          have HKK : Hid ((killsS s (wd.take i)).ks y9 = s.ks y9) := Lib.hid (kills_ks _ s hnot)
          obtain ⟨b2, off2, hA2, -, hc2⟩ := (Sees.own HWN2.out).2 (by omega)
          subst hA2
          have q0 := hc2 i (.int .i64 y9) (by rw [List.getElem?_map, hy9]; rfl)
          have HFR := Lib.hid (lfree_any y9 hyi wr HAK.out.t HMJ.out)
          obtain ⟨c0, c1, cz, a0, a1, az⟩ := HAK.out.cells
          have hwr := HAK.out.off.size
          have hii : (i : Int) < (wd.length : Int) := by omega
          clear hc2 hnot hyi hy9 hyin
          go_wp2_with fail
          refine HFR.out.mono ?_
          rintro e w4 ⟨A6, cp6, Lf, rfl, hlnd, hlm, hof4, hT4, hown4, hA6⟩
          have hof4' : Off (Foot s loc) wr w4 := off_more hof4 fun j hj => (HFT.out j).1 hj
          have HA5 := Lib.hid (HAK.out.off' hof4' (fun j hj => .inl hj) HLOW.out hT4)
          have hoK := own_off HKN2.out hof4' fun j hj e => by
            have : gk = j := by simpa [Value.ownBlock] using hj
            have := HLOW.out j e
            omega
          have HOK := Lib.hid hoK
          have HWN5 := Lib.hid (own_off HWN2.out hof4' fun j hj e => by have := (HWN2.out.lt j hj).1; have := HLOW.out j e; have := HAK.out.off.size; omega)
          have HLM : Hid (∀ j, j ∈ Lf ↔ s.ks y9 j = true) := Lib.hid fun j => by rw [hlm, HKK.out]
          have hL8 : Lf.length ≤ 8192 := by
            have := len_sub hlnd (m := (List.range 8192).map fun (n : Nat) => (n : Int)) fun j hj => by
              have := (isK_iff j).1 (HMI.out.ksx y9 j ((HLM.out j).1 hj)).2.1
              exact List.mem_map.2 ⟨j.toNat, List.mem_range.2 (by omega), by omega⟩
            simpa using this
          have HSE := Lib.hid (Sees.own hown4)
          have hlf : Lf.length ≤ cp6 := by
            obtain ⟨_, _, e, h, -⟩ := own_slice0 hown4
            injection e with _ _ e
            omega
          have hs4 := hof4'.size
          have hnone : A6 = none → cp6 = 0 := fun e => absurd e hA6
          clear HFR hlnd hlm hof4 hof4' hT4 hown4 hoK q0 c0 c1 cz a0 a1 az hA6
          go_wp2_with (at_builtin; refine wpList_appG rfl (.tmp 53) (.tmp 56) _ 3 _ 1 8 rfl info_num Try.underlying26 rfl (by decide) yb (.slice (some ⟨gk, 0, none⟩) Ks.length cp5) Ks.length (Ks.map (Value.int .i64)) rfl HOK.out _ A6 Lf.length cp6 (Lf.map (Value.int .i64)) rfl HSE.out hnone (num_one Lf) (by omega) (by omega) (by omega) ?_)
          intro v8 w5 ho8 hg8
          have hof8 := off_of_grown hg8
          have HA8 := Lib.hid (HA5.out.off' hof8 (fun j hj => .inr (by
            have : gk = j := by simpa [Value.ownBlock] using hj
            omega)) HLOW.out (HA5.out.t.off hof8 fun j hj e => by
              have h9 : gk = j := by simpa [Value.ownBlock] using e
              have h10 : Foot s loc j := (HFT.out j).1 (foot_less (fun n hn => by cases n <;> exact hn) hj)
              have := HLOW.out j h10
              omega))
          have HKN8 : Hid (w5.ownsRow yb 3 1 v8 (Ks ++ Lf).length ((Ks ++ Lf).map (Value.int .i64))) := Lib.hid (by rw [List.length_append, List.map_append]; exact ho8)
          have HWN8 := Lib.hid (own_off HWN5.out hof8 fun j hj e => by
            have h9 : gk = j := by simpa [Value.ownBlock] using e
            have := HAL.out j hj
            omega)
          obtain ⟨c0, c1, cz, a0, a1, az⟩ := HA8.out.cells
          have hl := (HA8.out.t.pars hy64).2
          have hi8 : (freeS (killsS s (wd.take i)) y9).inn y9 = true := HYI.out
          rw [parF_in hi8] at hl
          obtain ⟨p0, p1, p2, pf1, pf2, pz⟩ := HA8.out.t.pcells hi8
          have hfp : Foot s loc (loc (.p y9)) := ⟨.p y9, by show s.inn y9 = true; rw [← HSK.out.1]; exact HYI.out, rfl⟩
          have hlp := HLOW.out _ hfp
          have ho9 : Off (fun j => j = loc (.p y9)) w5 (w5.setCell ⟨loc (.p y9), 2, none⟩ (.bool true)) := (Off.refl (fun j => j = loc (.p y9)) w5).set (p := ⟨loc (.p y9), 2, none⟩) (.inl rfl) (.bool true)
          have HA9 := Lib.hid (HA8.out.off' ho9 (fun j hj => by subst hj; exact .inl hfp) HLOW.out (HA8.out.t.setdd hi8 true))
          have HKN9 := Lib.hid (own_off HKN8.out ho9 fun j hj e => by have := (HKN8.out.lt j hj).1; omega)
          have HWN9 := Lib.hid (own_off HWN8.out ho9 fun j hj e => by have := (HWN8.out.lt j hj).1; have := HAK.out.off.size; omega)
          have HKM9 : Hid (∀ j, j ∈ Ks ++ Lf ↔ (j = k ∨ ∃ y ∈ wd.take (i + 1), s.ks y j = true)) := Lib.hid fun j => by
            rw [List.mem_append, HKM.out, HLM.out, HTK.out]
            simp only [List.mem_append, List.mem_singleton]
            constructor
            · rintro ((h | ⟨y, h1, h2⟩) | h)
              · exact .inl h
              · exact .inr ⟨y, .inl h1, h2⟩
              · exact .inr ⟨y9, .inr rfl, h⟩
            · rintro (h | ⟨y, h1 | rfl, h2⟩)
              · exact .inl (.inl h)
              · exact .inl (.inr ⟨y, h1, h2⟩)
              · exact .inr h2
          clear ho8 hg8 hof8 hfp ho9 hi8
          go_wp2_with fail
          go_roundw
          case rel => exact ⟨i + 1, Ks ++ Lf, by omega, by go_num, by rw [HKS.out]; exact HA9.out, HKN9.out, by rw [List.length_append]; omega, by rw [List.length_append]; omega, HKM9.out, HWN9.out⟩
          case measure => simp [intOf]; omega
        · obtain rfl : i = wd.length := by omega
          rw [List.take_length] at HAK HKM HMJ HFT HSK
          obtain ⟨c0, c1, cz, a0, a1, az⟩ := HAK.out.cells
          have hcs : cntT (killsS s wd) = cntT s := by unfold cntT innF; rw [HSK.out.1]
          have HWT := Lib.hid (lwait_any x b k ⟨hx1, by unfold W64 at hx; omega⟩ hk wr HAK.out.t HMJ.out (by omega))
          rw [show waitS (killsS s wd) x b k = midS s x b k by unfold midS; rw [HWD.out]] at HWT
          have HMK : Hid (Mid (midS s x b k) fun j => j ∈ Ks) := Lib.hid (HMID.out.congr fun j => by rw [HKM.out, askK_mem HMI.out _ hk])
          have hcm : cntT (midS s x b k) ≤ cntT s + 1 := by
            have e1 : ∀ y, (innF (midS s x b k) y).isSome = true → y ∈ x :: supp (innF s) := fun y hy => by
              rw [innF_iff] at hy
              have h2 : upd (killsS s (wdS s x b k)).inn x true y = true := hy
              by_cases e : y = x
              · rw [e]; exact List.mem_cons_self ..
              · rw [upd_other _ e, HWD.out, HSK.out.1] at h2
                exact List.mem_cons_of_mem _ ((supp_mem HMI.out.fin y).2 ((innF_iff s y).2 h2))
            exact len_sub (supp_rises HMID.out.fin).nodup fun y hy => e1 y ((supp_mem HMID.out.fin y).1 hy)
          have hwr := HAK.out.off.size
          clear hcs HMJ
          go_wp2_with fail
          refine HWT.out.mono ?_
          rintro e w6 ⟨rfl, hof6, F6, hF6, loc2, hface, hT6, hfoot6⟩
          have hF7 : ∀ j, Foot (midS s x b k) loc2 j → Foot s loc j ∨ wr.heap.size ≤ j := fun j hj => by
            rcases hF6 j ((hfoot6 j).2 hj) with h | h
            · exact .inl ((HFT.out j).1 h)
            · exact .inr h
          have HF7 := Lib.hid hF7
          have hof6' : Off (Foot s loc) wr w6 := off_more hof6 fun j hj => (HFT.out j).1 hj
          have hak6 : Ak (Foot s loc) w w6 (midS s x b k) loc2 x b := HAK.out.off' hof6' (fun j hj => .inl hj) HLOW.out hT6
          have HA6 := Lib.hid hak6
          have hk6 := own_off HKN2.out hof6' fun j hj e => by
            have : gk = j := by simpa [Value.ownBlock] using hj
            have := HLOW.out j e
            omega
          have HWN6 := Lib.hid (own_off HWN2.out hof6' fun j hj e => by have := (HWN2.out.lt j hj).1; have := HLOW.out j e; omega)
          have hw6 := hof6.size
          have HFC := Lib.hid hface
          have HG := Lib.hid (lgive_any Ks yb gk cp5 x w6 hT6 HMK.out (by omega) hk6 (fun h => by
            rcases hF7 gk h with h | h
            · have := HLOW.out gk h; omega
            · omega) (by omega) (by omega))
          rw [hface] at HG
          clear HWT hof6 hF6 hT6 hfoot6 hF7 hof6' hak6 hk6 hface c0 c1 cz a0 a1 az HAK HKN2 HWN2
          go_wp2_with fail
          refine HG.out.mono ?_
          rintro e w7 ⟨A7, cap7, K7, hkr, hkm7, rfl, hT7, hof7, hown7⟩
          have hKE : K7 = askK s wd k := rises_unique hkr (askK_rises HMI.out wd hk) fun j => by rw [hkm7, HKM.out, askK_mem HMI.out _ hk]
          subst hKE
          have hS7 : giveS (midS s x b k) (askK s wd k) = askT s x b k := by unfold askT; rw [HWD.out]
          rw [hS7] at hT7
          have hGF : ∀ j, (Foot (midS s x b k) loc2 j ∨ j = gk) → Foot s loc j ∨ w.heap.size + 2 ≤ j := fun j hj => by
            rcases hj with h | rfl
            · rcases HF7.out j h with h2 | h2
              · exact .inl h2
              · exact .inr (by omega)
            · exact .inr (by omega)
          have HA7 := Lib.hid (HA6.out.off' hof7 hGF HLOW.out hT7)
          have HWN7 := Lib.hid (own_off HWN6.out hof7 fun j hj e => by
            have h1 := HAL.out j hj
            have h2 := (HWN6.out.lt j hj).1
            rcases e with h | rfl
            · rcases HF7.out j h with h3 | h3
              · have := HLOW.out j h3; omega
              · omega
            · omega)
          have HGR := Lib.hid hown7
          have hfine : Fine (askT s x b k) := by
            have := HMID.out.gives (askK s wd k) (askK_rises HMI.out wd hk).nodup fun j hj => hj
            rw [hS7] at this
            exact this.congr fun j => ⟨fun h => h.elim, fun ⟨h1, h2⟩ => h2 h1⟩
          have HFI := Lib.hid hfine
          have HLV : Hid (∀ j, Foot (askT s x b k) loc2 j → Foot s loc j ∨ wr.heap.size ≤ j) := Lib.hid fun j hj => HF7.out j (foot_less (fun n hn => by
            rw [← hS7] at hn
            exact gives_live _ _ (fun i hi => HMID.out.kr i hi) n hn) hj)
          have HHS := Lib.hid (fun w0 (t : Tm w0 (askT s x b k) loc2) => has_any (rowV (askT s x b k) loc2 k) ((askT s x b k).h k) x b w0 (t.row HFI.out k).1 hx)
          rw [show hasF ((askT s x b k).h k) x b = hasS (askT s x b k) x b k from rfl] at HHS
          have hw67 := hof7.size
          have hgr7 : (wokeL (midS s x b k) (askK s wd k) x).length ≤ cap7 := by
            obtain ⟨_, _, e, h, -⟩ := own_slice0 hown7
            injection e with _ _ e
            omega
          have hw7y := HA7.out.off.size
          clear HG hT7 hof7 hown7 hkr hkm7 hGF hfine HA6 HWN6 HMID HMK HKM hS7
          obtain ⟨gd, hgd⟩ : ∃ gd, hasS (askT s x b k) x b k = gd := ⟨_, rfl⟩
          have HGD := Lib.hid hgd
          rw [hgd] at HHS
          clear hgd
          have HQ := HA7
          obtain ⟨C, hC, HCc, HCf⟩ := below_class w7
          go_wp2_with fail
          refine region_inT 11 C hC (by kernel_rfl) (by kernel_rfl) ?_
          simp only [List.take_succ_cons, List.take_zero, List.drop_succ_cons, List.drop_zero]
          iterate 11
            (refine WQ.step (fun K hK => ?_)
             go_simp
             first
               | (refine hK _ ?_; clear hK K)
               | (apply Exists.intro
                  refine ⟨fun z hz => ?_, hK _ ?_⟩
                  · first
                      | rfl
                      | (go_at_call 18; refine (HHS.out _ (HQ.out.call (HCf.out _ hz)).t).mono ?_; rintro e x1 ⟨rfl, hb⟩; exact ⟨rfl, HCc.out _ _ hz hb⟩)
                      | (have TZ := HQ.out.call (HCf.out _ hz); obtain ⟨k0, k1, kz, q0, q1, qz⟩ := TZ.cells; rw [HFC.out] at k0 k1 kz; have hl := (TZ.t.rows hk0).2; go_simp; rfl)
                  clear hK K))
          refine WQ.nil ?_
          intro w8 hw
          have HBW := Lib.hid (HCf.out _ hw)
          clear hw hC HCc HCf C
          have HA8 := Lib.hid (HA7.out.call HBW.out)
          have HWN8 := Lib.hid (own_keep HWN7.out HBW.out (Nat.le_refl _))
          have HGR8 := Lib.hid (own_keep HGR.out HBW.out (Nat.le_refl _))
          have t0 := HA8.out.turn.cell 0
          have t1 := HA8.out.turn.cell 1
          have t2 := HA8.out.turn.cell 2
          have tf0 := HA8.out.turn.free 0
          have tf1 := HA8.out.turn.free 1
          have tf2 := HA8.out.turn.free 2
          have tz := HA8.out.turn.lt
          simp only [List.getElem?_toArray, List.getElem?_cons_zero, List.getElem?_cons_succ] at t0 t1 t2
          go_wp2_with fail
          refine bodyPost_ret (by simp [results, Try.results6, go_sem, t0, t1, t2, tf0, tf1, tf2, tz]; try rfl) rfl ?_
          have HF := Lib.hid (((Off.refl (fun i => i = w.heap.size) w8).set (p := ⟨w.heap.size, 0, none⟩) (.inl rfl) (.bool gd)).set (p := ⟨w.heap.size, 1, none⟩) (.inl rfl) (.slice A wd.length cap) |>.set (p := ⟨w.heap.size, 2, none⟩) (.inl rfl) (.slice A7 (wokeL (midS s x b k) (askK s wd k) x).length cap7))
          refine ⟨A, cap, A7, cap7, by rw [HGD.out], ⟨HA8.out.off.then (F' := fun i => i = w.heap.size) (fun i hi => .inr (by omega)) HF.out, Foot (askT s x b k) loc2, fun j hj => ?_, loc2, HFC.out, HA8.out.t.off HF.out (fun j hj e => ?_), fun i => Iff.rfl⟩, ?_, ?_⟩
          · rcases HLV.out j hj with h | h
            · exact .inl h
            · exact .inr (by omega)
          · rcases HLV.out j hj with h | h
            · have := HLOW.out j h; omega
            · omega
          · have h9 := own_off HWN8.out HF.out fun j hj e => by have := (HWN8.out.lt j hj).1; omega
            exact ⟨h9.1, h9.2.imp_right fun ⟨g, cap, cur, h1, h2, h3⟩ => ⟨g, cap, cur, h1, by omega, h3⟩⟩
          · have h9 := own_off HGR8.out HF.out fun j hj e => by have := (HGR8.out.lt j hj).1; omega
            exact ⟨h9.1, h9.2.imp_right fun ⟨g, cap, cur, h1, h2, h3⟩ => ⟨g, cap, cur, h1, by omega, h3⟩⟩
end Go.Proofs.Ytcjefigcaifmeaa
