/- Contracts of the program's calls at layer 8: Append, Sync, Fresh (written by gwal.py). -/
import Derived.Test.YtlfigbgcackimaaWalW
namespace Go.Proofs.Ytlfigbgcackimaa
open Go.RowKit Go.Fm Go.Dk Go.Wl Go.Iv
set_option linter.unusedVariables false
set_option linter.unusedSimpArgs false
set_option maxRecDepth 100000

/-- Block p is the wal v of the disk g, which is d, all of it in F; p is none of the disk's. -/
structure Wx (w : World) (p g : Nat) (v : Wv) (d : D) (F : Nat → Prop) : Prop where
  face : Whole w p 89 (wcells g v)
  dsk : Dsk w g d F
  out : ¬ F p
theorem Wx.call {w w' : World} {p g : Nat} {v : Wv} {d : D} {F : Nat → Prop} (x : Wx w p g v d F) (hb : Below w.heap.size w w') : Wx w' p g v d F := ⟨x.face.below hb x.face.lt, x.dsk.call hb, x.out⟩
theorem Wx.drewN {w : World} {p g : Nat} {v : Wv} {d : D} {F : Nat → Prop} (x : Wx w p g v d F) (n : Nat) : Wx (w.drewN n) p g v d F := x.call (below_drewN (Below.refl _ _) n)
/-- The wal p has become v', its disk d', and nothing else that is old has changed. -/
structure Went (F : Nat → Prop) (w w' : World) (p g : Nat) (v' : Wv) (d' : D) : Prop where
  off : Off (fun b => F b ∨ b = p) w w'
  wal : ∃ F', (∀ b, F' b → F b ∨ w.heap.size ≤ b) ∧ Wx w' p g v' d' F'
theorem Went.before {F : Nat → Prop} {w w1 w' : World} {p g : Nat} {v' : Wv} {d' : D} (h : Went F w1 w' p g v' d') (hb : Below w.heap.size w w1) : Went F w w' p g v' d' := by
  obtain ⟨ho, F', h1, h2⟩ := h
  refine ⟨(Off.of hb _).trans ho, F', fun b hf => ?_, h2⟩
  rcases h1 b hf with h | h
  · exact .inl h
  · exact .inr (Nat.le_trans hb.size h)
theorem Went.stay {F : Nat → Prop} {w w' : World} {p g : Nat} {v : Wv} {d : D} (x : Wx w p g v d F) (hb : Below w.heap.size w w') : Went F w w' p g v d := ⟨.of hb _, F, fun b hb => .inl hb, x.call hb⟩
/-- Its disk has moved. -/
theorem Wx.moved {F : Nat → Prop} {w w' : World} {p g : Nat} {v : Wv} {d d' : D} (x : Wx w p g v d F) (hm : Moved F w w' g d') : Went F w w' p g v d' := by
  obtain ⟨ho, F', h1, h2⟩ := hm
  refine ⟨⟨ho.os, ho.tape, ho.output, ho.size, fun k hk hn => ho.block k hk fun hf => hn (.inl hf)⟩, F', h1, ho.whole x.face x.out, h2, fun hf => ?_⟩
  rcases h1 p hf with h | h
  · exact x.out h
  · have := x.face.lt; omega
/-- Its block has been set. -/
theorem Went.faced {F : Nat → Prop} {w w1 w' : World} {p g : Nat} {v v' : Wv} {d : D} (h : Went F w w1 p g v d) (hw : Whole w' p 89 (wcells g v')) (ho : Off (fun b => b = p) w1 w') : Went F w w' p g v' d := by
  obtain ⟨h0, F', h1, h2⟩ := h
  refine ⟨h0.trans ⟨ho.os, ho.tape, ho.output, ho.size, fun k hk hn => ho.block k hk fun hf => hn (.inr hf)⟩, F', h1, hw, ?_, h2.out⟩
  obtain ⟨a, b, c, x⟩ := h2.dsk
  exact ⟨a, b, c, x.off ho fun b hb e => h2.out (e ▸ hb)⟩
theorem Went.call {F : Nat → Prop} {w w1 w' : World} {p g : Nat} {v : Wv} {d : D} (h : Went F w w1 p g v d) (hb : Below w1.heap.size w1 w') : Went F w w' p g v d := by
  obtain ⟨h0, F', h1, h2⟩ := h
  exact ⟨h0.call hb, F', h1, h2.call hb⟩
theorem Went.face {F : Nat → Prop} {w w1 : World} {p g : Nat} {v : Wv} {d : D} (h : Went F w w1 p g v d) : Whole w1 p 89 (wcells g v) := by
  obtain ⟨h0, F', h1, h2⟩ := h; exact h2.face
/-- A cell of its block is set. -/
theorem Went.set {F : Nat → Prop} {w w1 : World} {p g : Nat} {v v' : Wv} {d : D} (h : Went F w w1 p g v d) (k : Nat) (u : Value) (hc : (wcells g v).setIfInBounds k u = wcells g v') : Went F w (w1.setCell ⟨p, k, none⟩ u) p g v' d :=
  h.faced (by have := h.face.set k u; rwa [hc] at this) ((Off.refl (fun b => b = p) w1).set (p := ⟨p, k, none⟩) (.inl rfl) u)

/-- Where the calls of the disk and of met stand: a: the disk's has come, b: met's has. -/
structure Rx (F : Nat → Prop) (w : World) (p g : Nat) (v : Wv) (d' : D) (E : Int) (a b : Bool) (y : World) : Prop where
  zero : a = false → b = false ∧ y = w.drew
  one : a = true → b = false → Went F w y p g v d'
  two : b = true → a = true ∧ Went F w y p g (v.met E) d'
theorem Rx.start (F : Nat → Prop) (w : World) (p g : Nat) (v : Wv) (d' : D) (E : Int) : Rx F w p g v d' E false false w.drew := ⟨fun _ => ⟨rfl, rfl⟩, (fun h => by cases h), fun h => by cases h⟩
theorem Wv.met_log (v : Wv) (E : Int) : (v.met E).log = v.log := by unfold Wv.met; split <;> rfl
theorem Rx.cells {F : Nat → Prop} {w y : World} {p g : Nat} {v : Wv} {d d' : D} {E : Int} {a b : Bool} (h : Rx F w p g v d' E a b y) (x : Wx w p g v d F) : y.cell? ⟨p, 2, none⟩ = some (ptr g) ∧ y.cell? ⟨p, 3, none⟩ = some (.int .i64 v.log) := by
  have key : ∀ v', Whole y p 89 (wcells g v') → v'.log = v.log → y.cell? ⟨p, 2, none⟩ = some (ptr g) ∧ y.cell? ⟨p, 3, none⟩ = some (.int .i64 v.log) := fun v' hw hl => by
    rw [← hl]; exact ⟨hw.cell 2, hw.cell 3⟩
  cases a with
  | false =>
    obtain ⟨-, rfl⟩ := h.zero rfl
    exact key v (x.drewN 1).face rfl
  | true =>
    cases b with
    | false => exact key v (h.one rfl rfl).face rfl
    | true => exact key _ (h.two rfl).2.face (Wv.met_log v E)
theorem Rx.made {F : Nat → Prop} {w y : World} {p g : Nat} {v : Wv} {d d' : D} {E : Int} (x : Wx w.drew p g v d F) (hm : Moved F w.drew y g d') : Rx F w p g v d' E true false y :=
  ⟨(fun h => by cases h), (fun _ _ => (x.moved hm).before (below_drewN (Below.refl _ _) 1)), fun h => by cases h⟩
theorem Rx.last {F : Nat → Prop} {w y : World} {p g : Nat} {v : Wv} {d' : D} {E : Int} (h : Went F w y p g (v.met E) d') : Rx F w p g v d' E true true y := ⟨(fun h => by cases h), (fun _ h => by cases h), fun _ => ⟨rfl, h⟩⟩
theorem Wv.met_zero (v : Wv) : v.met 0 = v := by unfold Wv.met; rw [if_neg (by decide)]
theorem Went.met0 {F : Nat → Prop} {w y : World} {p g : Nat} {v : Wv} {d' : D} {E : Int} (h : Went F w y p g (v.met E) d') (hE : E = 0) : Went F w y p g v d' := by
  subst hE; rwa [Wv.met_zero] at h

set_option maxHeartbeats 2000000 in
theorem wappend_any (p g : Nat) (v : Wv) (d : D) (F : Nat → Prop) (hlog : W64 v.log) (A : Option Addr) (cap : Nat) (bs : List UInt8) (hacts : d.acts + 1 ≤ 9223372036854775807) (hall : v.all + 1 ≤ 9223372036854775807) (w : World) (x : Wx w p g v d F) (hin : InB w A cap bs) :
    Calls Try.prog 29 #[ptr p, .slice A bs.length cap] w fun e w' => e = .returned (.int .i64 (v.append d bs).2.2) ∧ Went F w w' p g (v.append d bs).2.1 (v.append d bs).1 := by
  have HX := Lib.hid x
  have c3 := x.face.cell 4
  simp only [wcells] at c3
  by_cases hd : v.dead = true
  · have HR : Hid (v.append d bs = (d, v, 81)) := Lib.hid (by unfold Wv.append; rw [if_pos hd])
    rw [hd] at c3
    clear x hin
    go_enter Try.func29, Try.ntmps29
    go_wp2_with fail
    go_ret
    rw [HR.out]
    exact ⟨rfl, .stay HX.out (Below.refl _ _)⟩
  · have hd0 : v.dead = false := by simpa using hd
    by_cases hlo : 65536 < bs.length
    · have HR : Hid (v.append d bs = (d, v, 30)) := Lib.hid (by unfold Wv.append; rw [if_neg hd, if_pos hlo])
      have HSL := Lib.hid (seal_long A cap bs.length w hlo)
      rw [hd0] at c3
      clear x hin
      generalize bs.length = n at *
      go_enter Try.func29, Try.ntmps29
      go_wp2_with fail
      refine HSL.out.mono ?_
      rintro e w1 ⟨rfl, rfl⟩
      go_wp2_with fail
      go_ret
      rw [HR.out]
      exact ⟨rfl, .stay HX.out (Below.refl _ _)⟩
    · obtain ⟨B, hB, hs⟩ := hin.sees
      have HSL := Lib.hid (seal_any B A cap bs w hs hB hin.room hin.top hin.nil (by omega))
      unfold Seals at HSL
      have HAP := Lib.hid (fun A1 c1 w0 x0 i0 => append_any g d F v.log hlog A1 c1 (frame bs) (by rw [frame_length]; omega) hacts w0 x0 i0)
      have HR : Hid (v.append d bs = ((d.append v.log (frame bs)).1, if (d.append v.log (frame bs)).2 = 0 then { v with all := v.all + 1 } else v.met (d.append v.log (frame bs)).2, (d.append v.log (frame bs)).2)) := Lib.hid (by unfold Wv.append; rw [if_neg hd, if_neg hlo])
      have HIN : Hid (∀ w0 v1, OwnB w0 w.heap.size v1 (frame bs) → ∃ A1 c1, v1 = .slice A1 (frame bs).length c1 ∧ InB w0 A1 c1 (frame bs)) := Lib.hid fun w0 v1 ho => by
        obtain ⟨A1, c1, rfl, h1, h2, h3⟩ := own_slice0 ho
        exact ⟨A1, c1, rfl, ⟨_, Nat.le_refl _, ho.sees rfl⟩, h1, h2, h3⟩
      rw [hd0] at c3
      clear x hin hs hlo
      generalize d.append v.log (frame bs) = R at *
      generalize frame bs = bs1 at *
      generalize bs.length = n at *
      go_enter Try.func29, Try.ntmps29
      go_wp2_with fail
      refine HSL.out.mono ?_
      rintro e w1 ⟨v1, rfl, ho, hb⟩
      obtain ⟨A1, c1, rfl, hin⟩ := HIN.out w1 v1 ho
      have HB := Lib.hid hb
      have HIN1 := Lib.hid hin
      have HX1 := Lib.hid (HX.out.call hb)
      clear ho hb hin HIN HSL
      go_wp2_with fail
      refine Iv.region (fun f aa y => aa = ⟨#[ptr p, .slice A n cap, undef, undef, .int .i64 0, .slice A1 bs1.length c1, .int .i64 0, sl (f 12) (.int .i64 R.2), ptr p, .pointer (some ⟨p, 0, none⟩), .pointer (some ⟨p, 4, none⟩), .bool false, .tuple #[.slice A1 bs1.length c1, .int .i64 0], .slice A n cap, .tuple #[.slice A1 bs1.length c1, .int .i64 0], .slice A1 bs1.length c1, .int .i64 0, .int .i64 0, .bool false, undef, sl (f 0) (ptr p), sl (f 1) (ptr p), sl (f 2) (.pointer (some ⟨p, 0, none⟩)), sl (f 3) (.pointer (some ⟨p, 2, none⟩)), sl (f 4) (ptr g), sl (f 5) (ptr p), sl (f 6) (.pointer (some ⟨p, 0, none⟩)), sl (f 7) (.pointer (some ⟨p, 3, none⟩)), sl (f 8) (.int .i64 v.log), sl (f 9) (.slice A1 bs1.length c1), sl (f 10) (.int .i64 R.2), sl (f 11) (.int .i64 R.2), undef, undef, undef, undef, undef, undef, undef, undef, undef, undef, undef, undef], []⟩ ∧ Rx F w1 p g v R.1 R.2 (f 10) (f 11) y) (by kernel_rfl) (by kernel_rfl) ?_ ?_ ?_
      · exact ⟨rfl, Rx.start F w1 p g v R.1 R.2⟩
      · refine ⟨?_, ?_, ?_, ?_, ?_, ?_, ?_, ?_, ?_, ?_, ?_, ?_, ?_, trivial⟩
        · rintro f a0 y Q' ⟨rfl, hw⟩ hi hd hQ
          replace hQ := Lib.hid hQ
          simp [Iv.depsB, Region.binds] at hd
          try simp only [hi, hd, sl_true, sl_false]
          try simp only [hi, sl_true, sl_false]
          go_wp2_with fail
          refine hQ.out _ _ ⟨?_, ?_⟩
          · simp [Iv.upd, hi, hd, sl_true, sl_false]
          · simpa [Iv.upd, hi, hd] using hw
        · rintro f a0 y Q' ⟨rfl, hw⟩ hi hd hQ
          replace hQ := Lib.hid hQ
          simp [Iv.depsB, Region.binds] at hd
          try simp only [hi, hd, sl_true, sl_false]
          try simp only [hi, sl_true, sl_false]
          go_wp2_with fail
          refine hQ.out _ _ ⟨?_, ?_⟩
          · simp [Iv.upd, hi, hd, sl_true, sl_false]
          · simpa [Iv.upd, hi, hd] using hw
        · rintro f a0 y Q' ⟨rfl, hw⟩ hi hd hQ
          replace hQ := Lib.hid hQ
          simp [Iv.depsB, Region.binds] at hd
          try simp only [hi, hd, sl_true, sl_false]
          try simp only [hi, sl_true, sl_false]
          go_wp2_with fail
          refine hQ.out _ _ ⟨?_, ?_⟩
          · simp [Iv.upd, hi, hd, sl_true, sl_false]
          · simpa [Iv.upd, hi, hd] using hw
        · rintro f a0 y Q' ⟨rfl, hw⟩ hi hd hQ
          replace hQ := Lib.hid hQ
          simp [Iv.depsB, Region.binds] at hd
          try simp only [hi, hd, sl_true, sl_false]
          try simp only [hi, sl_true, sl_false]
          go_wp2_with fail
          refine hQ.out _ _ ⟨?_, ?_⟩
          · simp [Iv.upd, hi, hd, sl_true, sl_false]
          · simpa [Iv.upd, hi, hd] using hw
        · rintro f a0 y Q' ⟨rfl, hw⟩ hi hd hQ
          replace hQ := Lib.hid hQ
          simp [Iv.depsB, Region.binds] at hd
          try simp only [hi, hd, sl_true, sl_false]
          try simp only [hi, sl_true, sl_false]
          obtain ⟨t2, t3⟩ := hw.cells HX1.out
          go_wp2_with fail
          refine hQ.out _ _ ⟨?_, ?_⟩
          · simp [Iv.upd, hi, hd, sl_true, sl_false]
          · simpa [Iv.upd, hi, hd] using hw
        · rintro f a0 y Q' ⟨rfl, hw⟩ hi hd hQ
          replace hQ := Lib.hid hQ
          simp [Iv.depsB, Region.binds] at hd
          try simp only [hi, hd, sl_true, sl_false]
          try simp only [hi, sl_true, sl_false]
          go_wp2_with fail
          refine hQ.out _ _ ⟨?_, ?_⟩
          · simp [Iv.upd, hi, hd, sl_true, sl_false]
          · simpa [Iv.upd, hi, hd] using hw
        · rintro f a0 y Q' ⟨rfl, hw⟩ hi hd hQ
          replace hQ := Lib.hid hQ
          simp [Iv.depsB, Region.binds] at hd
          try simp only [hi, hd, sl_true, sl_false]
          try simp only [hi, sl_true, sl_false]
          go_wp2_with fail
          refine hQ.out _ _ ⟨?_, ?_⟩
          · simp [Iv.upd, hi, hd, sl_true, sl_false]
          · simpa [Iv.upd, hi, hd] using hw
        · rintro f a0 y Q' ⟨rfl, hw⟩ hi hd hQ
          replace hQ := Lib.hid hQ
          simp [Iv.depsB, Region.binds] at hd
          try simp only [hi, hd, sl_true, sl_false]
          try simp only [hi, sl_true, sl_false]
          go_wp2_with fail
          refine hQ.out _ _ ⟨?_, ?_⟩
          · simp [Iv.upd, hi, hd, sl_true, sl_false]
          · simpa [Iv.upd, hi, hd] using hw
        · rintro f a0 y Q' ⟨rfl, hw⟩ hi hd hQ
          replace hQ := Lib.hid hQ
          simp [Iv.depsB, Region.binds] at hd
          try simp only [hi, hd, sl_true, sl_false]
          try simp only [hi, sl_true, sl_false]
          obtain ⟨t2, t3⟩ := hw.cells HX1.out
          go_wp2_with fail
          refine hQ.out _ _ ⟨?_, ?_⟩
          · simp [Iv.upd, hi, hd, sl_true, sl_false]
          · simpa [Iv.upd, hi, hd] using hw
        · rintro f a0 y Q' ⟨rfl, hw⟩ hi hd hQ
          replace hQ := Lib.hid hQ
          simp [Iv.depsB, Region.binds] at hd
          try simp only [hi, hd, sl_true, sl_false]
          try simp only [hi, sl_true, sl_false]
          go_wp2_with fail
          refine hQ.out _ _ ⟨?_, ?_⟩
          · simp [Iv.upd, hi, hd, sl_true, sl_false]
          · simpa [Iv.upd, hi, hd] using hw
        · rintro f a0 y Q' ⟨rfl, hw⟩ hi hd hQ
          replace hQ := Lib.hid hQ
          simp [Iv.depsB, Region.binds] at hd
          try simp only [hi, hd, sl_true, sl_false]
          try simp only [hi, sl_true, sl_false]
          obtain ⟨e9, ey⟩ := hw.zero hi
          subst ey
          try simp only [e9]
          have d4 : f 4 = true := by simp [hd]
          have d8 : f 8 = true := by simp [hd]
          have d9 : f 9 = true := by simp [hd]
          try simp only [d4, d8, d9, sl_true]
          go_wp2_with fail
          refine (HAP.out _ _ _ (HX1.out.dsk.call (below_drewN (Below.refl _ _) 1)) (HIN1.out.call (below_drewN (Below.refl _ _) 1))).mono ?_
          rintro e y1 ⟨rfl, hm⟩
          have HM := Lib.hid (Rx.made (E := R.2) (HX1.out.drewN 1) hm)
          clear hm
          go_wp2_with fail
          refine hQ.out _ _ ⟨?_, ?_⟩
          · simp [Iv.upd, hi, hd, e9, sl_true, sl_false]
          · simpa [Iv.upd, hi, hd, e9] using HM.out
        · rintro f a0 y Q' ⟨rfl, hw⟩ hi hd hQ
          replace hQ := Lib.hid hQ
          simp [Iv.depsB, Region.binds] at hd
          try simp only [hi, hd, sl_true, sl_false]
          try simp only [hi, sl_true, sl_false]
          have d0 : f 0 = true := by simp [hd]
          have d10 : f 10 = true := by simp [hd]
          try simp only [d0, d10, sl_true]
          have HW := Lib.hid (hw.one d10 hi)
          have HMET := Lib.hid (met_any p g v R.2 y (by obtain ⟨-, F', -, hx⟩ := HW.out; exact hx.face))
          go_wp2_with fail
          refine HMET.out.mono ?_
          rintro e y1 ⟨rfl, hm1, hm2⟩
          have HM := Lib.hid (Rx.last (HW.out.faced hm1 hm2))
          clear hm1 hm2
          go_wp2_with fail
          refine hQ.out _ _ ⟨?_, ?_⟩
          · simp [Iv.upd, hi, hd, d0, d10, sl_true, sl_false]
          · simpa [Iv.upd, hi, hd, d10] using HM.out
        · rintro f a0 y Q' ⟨rfl, hw⟩ hi hd hQ
          replace hQ := Lib.hid hQ
          simp [Iv.depsB, Region.binds] at hd
          try simp only [hi, hd, sl_true, sl_false]
          try simp only [hi, sl_true, sl_false]
          go_wp2_with fail
          refine hQ.out _ _ ⟨?_, ?_⟩
          · simp [Iv.upd, hi, hd, sl_true, sl_false]
          · simpa [Iv.upd, hi, hd] using hw
      · rintro f a0 y ⟨rfl, hw⟩ hall
        simp only [hall 0 (by decide), hall 1 (by decide), hall 2 (by decide), hall 3 (by decide), hall 4 (by decide), hall 5 (by decide), hall 6 (by decide), hall 7 (by decide), hall 8 (by decide), hall 9 (by decide), hall 10 (by decide), hall 11 (by decide), hall 12 (by decide), sl_true, ↓reduceIte] at hw ⊢
        clear hall
        have HW := Lib.hid (hw.two rfl).2
        clear hw
        by_cases hE : R.2 = 0
        · have HWE := Lib.hid (HW.out.met0 hE)
          have k0 := HWE.out.face.cell 0
          have k1 := HWE.out.face.free 0
          simp only [wcells] at k0
          have e1 : IntKind.i64.wrap ((v.all : Int) + 1) = ((v.all + 1 : Nat) : Int) := by rw [IntKind.wrap_i64]; omega
          have HS := Lib.hid (HWE.out.set (v' := { v with all := v.all + 1 }) 0 (.int .i64 ((v.all + 1 : Nat) : Int)) (by simp [wcells]))
          rw [hE]
          clear HWE
          have HEE := Lib.hid hE
          clear hE
          go_wp2_with fail
          go_ret
          rw [HR.out]
          refine ⟨by rw [HEE.out]; rfl, ?_⟩
          rw [if_pos HEE.out]
          exact HS.out.before HB.out
        · have q9 : (R.2 != 0) = true := by simpa using hE
          have HEE := Lib.hid hE
          clear hE
          go_wp2_with fail
          go_ret
          rw [HR.out]
          refine ⟨rfl, ?_⟩
          rw [if_neg HEE.out]
          exact HW.out.before HB.out

set_option maxHeartbeats 2000000 in
theorem wsync_any (p g : Nat) (v : Wv) (d : D) (F : Nat → Prop) (hlog : W64 v.log) (hacts : d.acts + 1 ≤ 9223372036854775807) (w : World) (x : Wx w p g v d F) :
    Calls Try.prog 30 #[ptr p] w fun e w' => e = .returned (.int .i64 (v.sync d).2.2) ∧ Went F w w' p g (v.sync d).2.1 (v.sync d).1 := by
  have HX := Lib.hid x
  have c3 := x.face.cell 4
  simp only [wcells] at c3
  by_cases hd : v.dead = true
  · have HR : Hid (v.sync d = (d, v, 81)) := Lib.hid (by unfold Wv.sync; rw [if_pos hd])
    rw [hd] at c3
    clear x
    go_enter Try.func30, Try.ntmps30
    go_wp2_with fail
    go_ret
    rw [HR.out]
    exact ⟨rfl, .stay HX.out (Below.refl _ _)⟩
  · have hd0 : v.dead = false := by simpa using hd
    · have HAP := Lib.hid (fun w0 x0 => sync_any g d F v.log hlog hacts w0 x0)
      have HR : Hid (v.sync d = ((d.sync v.log).1, if (d.sync v.log).2 = 0 then { v with sure := v.all } else v.met (d.sync v.log).2, (d.sync v.log).2)) := Lib.hid (by unfold Wv.sync; rw [if_neg hd])
      rw [hd0] at c3
      clear x
      generalize d.sync v.log = R at *
      have HX1 := HX
      go_enter Try.func30, Try.ntmps30
      go_wp2_with fail
      refine Iv.region (fun f aa y => aa = ⟨#[ptr p, undef, .int .i64 0, sl (f 11) (.int .i64 R.2), ptr p, .pointer (some ⟨p, 0, none⟩), .pointer (some ⟨p, 4, none⟩), .bool false, sl (f 0) (ptr p), sl (f 1) (ptr p), sl (f 2) (.pointer (some ⟨p, 0, none⟩)), sl (f 3) (.pointer (some ⟨p, 2, none⟩)), sl (f 4) (ptr g), sl (f 5) (ptr p), sl (f 6) (.pointer (some ⟨p, 0, none⟩)), sl (f 7) (.pointer (some ⟨p, 3, none⟩)), sl (f 8) (.int .i64 v.log), sl (f 9) (.int .i64 R.2), sl (f 10) (.int .i64 R.2), undef, undef, undef, undef, undef, undef, undef, undef, undef, undef, undef, undef], []⟩ ∧ Rx F w p g v R.1 R.2 (f 9) (f 10) y) (by kernel_rfl) (by kernel_rfl) ?_ ?_ ?_
      · exact ⟨rfl, Rx.start F w p g v R.1 R.2⟩
      · refine ⟨?_, ?_, ?_, ?_, ?_, ?_, ?_, ?_, ?_, ?_, ?_, ?_, trivial⟩
        · rintro f a0 y Q' ⟨rfl, hw⟩ hi hd hQ
          replace hQ := Lib.hid hQ
          simp [Iv.depsB, Region.binds] at hd
          try simp only [hi, hd, sl_true, sl_false]
          try simp only [hi, sl_true, sl_false]
          go_wp2_with fail
          refine hQ.out _ _ ⟨?_, ?_⟩
          · simp [Iv.upd, hi, hd, sl_true, sl_false]
          · simpa [Iv.upd, hi, hd] using hw
        · rintro f a0 y Q' ⟨rfl, hw⟩ hi hd hQ
          replace hQ := Lib.hid hQ
          simp [Iv.depsB, Region.binds] at hd
          try simp only [hi, hd, sl_true, sl_false]
          try simp only [hi, sl_true, sl_false]
          go_wp2_with fail
          refine hQ.out _ _ ⟨?_, ?_⟩
          · simp [Iv.upd, hi, hd, sl_true, sl_false]
          · simpa [Iv.upd, hi, hd] using hw
        · rintro f a0 y Q' ⟨rfl, hw⟩ hi hd hQ
          replace hQ := Lib.hid hQ
          simp [Iv.depsB, Region.binds] at hd
          try simp only [hi, hd, sl_true, sl_false]
          try simp only [hi, sl_true, sl_false]
          go_wp2_with fail
          refine hQ.out _ _ ⟨?_, ?_⟩
          · simp [Iv.upd, hi, hd, sl_true, sl_false]
          · simpa [Iv.upd, hi, hd] using hw
        · rintro f a0 y Q' ⟨rfl, hw⟩ hi hd hQ
          replace hQ := Lib.hid hQ
          simp [Iv.depsB, Region.binds] at hd
          try simp only [hi, hd, sl_true, sl_false]
          try simp only [hi, sl_true, sl_false]
          go_wp2_with fail
          refine hQ.out _ _ ⟨?_, ?_⟩
          · simp [Iv.upd, hi, hd, sl_true, sl_false]
          · simpa [Iv.upd, hi, hd] using hw
        · rintro f a0 y Q' ⟨rfl, hw⟩ hi hd hQ
          replace hQ := Lib.hid hQ
          simp [Iv.depsB, Region.binds] at hd
          try simp only [hi, hd, sl_true, sl_false]
          try simp only [hi, sl_true, sl_false]
          obtain ⟨t2, t3⟩ := hw.cells HX1.out
          go_wp2_with fail
          refine hQ.out _ _ ⟨?_, ?_⟩
          · simp [Iv.upd, hi, hd, sl_true, sl_false]
          · simpa [Iv.upd, hi, hd] using hw
        · rintro f a0 y Q' ⟨rfl, hw⟩ hi hd hQ
          replace hQ := Lib.hid hQ
          simp [Iv.depsB, Region.binds] at hd
          try simp only [hi, hd, sl_true, sl_false]
          try simp only [hi, sl_true, sl_false]
          go_wp2_with fail
          refine hQ.out _ _ ⟨?_, ?_⟩
          · simp [Iv.upd, hi, hd, sl_true, sl_false]
          · simpa [Iv.upd, hi, hd] using hw
        · rintro f a0 y Q' ⟨rfl, hw⟩ hi hd hQ
          replace hQ := Lib.hid hQ
          simp [Iv.depsB, Region.binds] at hd
          try simp only [hi, hd, sl_true, sl_false]
          try simp only [hi, sl_true, sl_false]
          go_wp2_with fail
          refine hQ.out _ _ ⟨?_, ?_⟩
          · simp [Iv.upd, hi, hd, sl_true, sl_false]
          · simpa [Iv.upd, hi, hd] using hw
        · rintro f a0 y Q' ⟨rfl, hw⟩ hi hd hQ
          replace hQ := Lib.hid hQ
          simp [Iv.depsB, Region.binds] at hd
          try simp only [hi, hd, sl_true, sl_false]
          try simp only [hi, sl_true, sl_false]
          go_wp2_with fail
          refine hQ.out _ _ ⟨?_, ?_⟩
          · simp [Iv.upd, hi, hd, sl_true, sl_false]
          · simpa [Iv.upd, hi, hd] using hw
        · rintro f a0 y Q' ⟨rfl, hw⟩ hi hd hQ
          replace hQ := Lib.hid hQ
          simp [Iv.depsB, Region.binds] at hd
          try simp only [hi, hd, sl_true, sl_false]
          try simp only [hi, sl_true, sl_false]
          obtain ⟨t2, t3⟩ := hw.cells HX1.out
          go_wp2_with fail
          refine hQ.out _ _ ⟨?_, ?_⟩
          · simp [Iv.upd, hi, hd, sl_true, sl_false]
          · simpa [Iv.upd, hi, hd] using hw
        · rintro f a0 y Q' ⟨rfl, hw⟩ hi hd hQ
          replace hQ := Lib.hid hQ
          simp [Iv.depsB, Region.binds] at hd
          try simp only [hi, hd, sl_true, sl_false]
          try simp only [hi, sl_true, sl_false]
          obtain ⟨e9, ey⟩ := hw.zero hi
          subst ey
          try simp only [e9]
          have d4 : f 4 = true := by simp [hd]
          have d8 : f 8 = true := by simp [hd]
          try simp only [d4, d8, sl_true]
          go_wp2_with fail
          refine (HAP.out _ (HX1.out.dsk.call (below_drewN (Below.refl _ _) 1))).mono ?_
          rintro e y1 ⟨rfl, hm⟩
          have HM := Lib.hid (Rx.made (E := R.2) (HX1.out.drewN 1) hm)
          clear hm
          go_wp2_with fail
          refine hQ.out _ _ ⟨?_, ?_⟩
          · simp [Iv.upd, hi, hd, e9, sl_true, sl_false]
          · simpa [Iv.upd, hi, hd, e9] using HM.out
        · rintro f a0 y Q' ⟨rfl, hw⟩ hi hd hQ
          replace hQ := Lib.hid hQ
          simp [Iv.depsB, Region.binds] at hd
          try simp only [hi, hd, sl_true, sl_false]
          try simp only [hi, sl_true, sl_false]
          have d0 : f 0 = true := by simp [hd]
          have d9 : f 9 = true := by simp [hd]
          try simp only [d0, d9, sl_true]
          have HW := Lib.hid (hw.one d9 hi)
          have HMET := Lib.hid (met_any p g v R.2 y (by obtain ⟨-, F', -, hx⟩ := HW.out; exact hx.face))
          go_wp2_with fail
          refine HMET.out.mono ?_
          rintro e y1 ⟨rfl, hm1, hm2⟩
          have HM := Lib.hid (Rx.last (HW.out.faced hm1 hm2))
          clear hm1 hm2
          go_wp2_with fail
          refine hQ.out _ _ ⟨?_, ?_⟩
          · simp [Iv.upd, hi, hd, d0, d9, sl_true, sl_false]
          · simpa [Iv.upd, hi, hd, d9] using HM.out
        · rintro f a0 y Q' ⟨rfl, hw⟩ hi hd hQ
          replace hQ := Lib.hid hQ
          simp [Iv.depsB, Region.binds] at hd
          try simp only [hi, hd, sl_true, sl_false]
          try simp only [hi, sl_true, sl_false]
          go_wp2_with fail
          refine hQ.out _ _ ⟨?_, ?_⟩
          · simp [Iv.upd, hi, hd, sl_true, sl_false]
          · simpa [Iv.upd, hi, hd] using hw
      · rintro f a0 y ⟨rfl, hw⟩ hall
        simp only [hall 0 (by decide), hall 1 (by decide), hall 2 (by decide), hall 3 (by decide), hall 4 (by decide), hall 5 (by decide), hall 6 (by decide), hall 7 (by decide), hall 8 (by decide), hall 9 (by decide), hall 10 (by decide), hall 11 (by decide), sl_true, ↓reduceIte] at hw ⊢
        clear hall
        have HW := Lib.hid (hw.two rfl).2
        clear hw
        by_cases hE : R.2 = 0
        · have HWE := Lib.hid (HW.out.met0 hE)
          have k0 := HWE.out.face.cell 0
          have k1 := HWE.out.face.free 0
          have k2 := HWE.out.face.free 1
          simp only [wcells] at k0
          rw [hE]
          have HEE := Lib.hid hE
          clear hE
          go_wp2_with fail
          refine (allSure_any v.all y).mono ?_
          rintro e y1 ⟨rfl, hb1⟩
          have HWF := Lib.hid (HWE.out.call hb1)
          have HS := Lib.hid ((HWF.out.set (v' := v) 0 (.int .i64 (v.all : Int)) (by simp [wcells])).set (v' := { v with sure := v.all }) 1 (.int .i64 (v.all : Int)) (by simp [wcells]))
          have k3 := HWF.out.face.free 0
          have k4 := HWF.out.face.free 1
          have k5 := HWF.out.face.cell 0
          have k6 := HWF.out.face.cell 1
          simp only [wcells] at k5 k6
          clear hb1 k0 k1 k2
          go_wp2_with fail
          go_ret
          rw [HR.out]
          refine ⟨by rw [HEE.out]; rfl, ?_⟩
          rw [if_pos HEE.out]
          exact HS.out
        · have q9 : (R.2 != 0) = true := by simpa using hE
          have HEE := Lib.hid hE
          clear hE
          go_wp2_with fail
          go_ret
          rw [HR.out]
          refine ⟨rfl, ?_⟩
          rw [if_neg HEE.out]
          exact HW.out

set_option maxHeartbeats 2000000 in
theorem wfresh_any (p g : Nat) (v : Wv) (d : D) (F : Nat → Prop) (hlog : W64 v.log) (B : Nat) (A : Option Addr) (cap : Nat) (ls : List (List UInt8)) (hacts : d.acts + 1 ≤ 9223372036854775807) (w : World) (x : Wx w p g v d F)
    (hs : ShowsL w B A ls) (hB : B ≤ w.heap.size) (hl : ls.length ≤ 9223372036854775807) (hn : ∀ (b off k : Nat) l a c, A = some ⟨b, off, none⟩ → ls[k]? = some l → w.cell? ⟨b, off + k, none⟩ = some (.slice a l.length c) → a = none → c = 0) :
    Calls Try.prog 33 #[ptr p, .slice A ls.length cap] w fun e w' => e = .returned (.int .i64 (v.fresh d ls).2.2) ∧ Went F w w' p g (v.fresh d ls).2.1 (v.fresh d ls).1 := by
  have HX := Lib.hid x
  have c3 := x.face.cell 4
  simp only [wcells] at c3
  have HSL := Lib.hid (sealed_any B A cap ls w hs hB hl hn)
  by_cases hd : v.dead = true
  · have HR : Hid (v.fresh d ls = (d, v, 81)) := Lib.hid (by unfold Wv.fresh; rw [if_pos hd])
    rw [hd] at c3
    clear x hs hn
    go_enter Try.func33, Try.ntmps33
    go_wp2_with fail
    go_ret
    rw [HR.out]
    exact ⟨rfl, .stay HX.out (Below.refl _ _)⟩
  · have hd0 : v.dead = false := by simpa using hd
    by_cases hlo : ∃ l ∈ ls, 65536 < l.length
    · have HR : Hid (v.fresh d ls = (d, v, 30)) := Lib.hid (by unfold Wv.fresh; rw [if_neg hd, if_pos hlo])
      have HLO := Lib.hid hlo
      rw [hd0] at c3
      clear x hs hn hlo
      generalize hln : ls.length = n at *
      replace hln := Lib.hid hln
      go_enter Try.func33, Try.ntmps33
      go_wp2_with fail
      refine HSL.out.mono ?_
      rintro e w1 ⟨hb, h1, -⟩
      obtain rfl := h1 HLO.out
      have HB := Lib.hid hb
      clear hb h1
      go_wp2_with fail
      go_ret
      rw [HR.out]
      exact ⟨rfl, .stay HX.out HB.out⟩
    · have HR : Hid (v.fresh d ls = ((d.swap v.log (frames ls)).1, if (d.swap v.log (frames ls)).2 = 0 then { v with all := ls.length, sure := ls.length } else v.met (d.swap v.log (frames ls)).2, (d.swap v.log (frames ls)).2)) := Lib.hid (by unfold Wv.fresh; rw [if_neg hd, if_neg hlo])
      have HAP := Lib.hid (fun bs1 (he : Enough bs1 (frames ls)) A1 c1 w0 x0 i0 => by
        have h := swap_any g d F v.log hlog A1 c1 bs1 hacts w0 x0 i0
        rwa [swap_big he] at h)
      have HLO := Lib.hid hlo
      rw [hd0] at c3
      clear x hs hn hlo
      generalize d.swap v.log (frames ls) = R at *
      generalize hln : ls.length = n at *
      replace hln := Lib.hid hln
      go_enter Try.func33, Try.ntmps33
      go_wp2_with fail
      refine HSL.out.mono ?_
      rintro e w1 ⟨hb, -, h2⟩
      obtain ⟨v1, bs1, rfl, ho, hen⟩ := h2 HLO.out
      obtain ⟨A1, c1, rfl, h11, h12, h13⟩ := own_slice0 ho
      have HB := Lib.hid hb
      have HIN1 : Hid (InB w1 A1 c1 bs1) := Lib.hid ⟨⟨_, Nat.le_refl _, ho.sees rfl⟩, h11, h12, h13⟩
      have HX1 := Lib.hid (HX.out.call hb)
      replace HAP := Lib.hid (HAP.out bs1 hen)
      clear ho hb hen h2 HSL h13
      go_wp2_with fail
      refine Iv.region (fun f aa y => aa = ⟨#[ptr p, .slice A n cap, undef, undef, .int .i64 0, .slice A1 bs1.length c1, .int .i64 0, sl (f 12) (.int .i64 R.2), ptr p, .pointer (some ⟨p, 0, none⟩), .pointer (some ⟨p, 4, none⟩), .bool false, .tuple #[.slice A1 bs1.length c1, .int .i64 0], .slice A n cap, .tuple #[.slice A1 bs1.length c1, .int .i64 0], .slice A1 bs1.length c1, .int .i64 0, .int .i64 0, .bool false, undef, sl (f 0) (ptr p), sl (f 1) (ptr p), sl (f 2) (.pointer (some ⟨p, 0, none⟩)), sl (f 3) (.pointer (some ⟨p, 2, none⟩)), sl (f 4) (ptr g), sl (f 5) (ptr p), sl (f 6) (.pointer (some ⟨p, 0, none⟩)), sl (f 7) (.pointer (some ⟨p, 3, none⟩)), sl (f 8) (.int .i64 v.log), sl (f 9) (.slice A1 bs1.length c1), sl (f 10) (.int .i64 R.2), sl (f 11) (.int .i64 R.2), undef, undef, undef, undef, undef, undef, undef, undef, undef], []⟩ ∧ Rx F w1 p g v R.1 R.2 (f 10) (f 11) y) (by kernel_rfl) (by kernel_rfl) ?_ ?_ ?_
      · exact ⟨rfl, Rx.start F w1 p g v R.1 R.2⟩
      · refine ⟨?_, ?_, ?_, ?_, ?_, ?_, ?_, ?_, ?_, ?_, ?_, ?_, ?_, trivial⟩
        · rintro f a0 y Q' ⟨rfl, hw⟩ hi hd hQ
          replace hQ := Lib.hid hQ
          simp [Iv.depsB, Region.binds] at hd
          try simp only [hi, hd, sl_true, sl_false]
          try simp only [hi, sl_true, sl_false]
          go_wp2_with fail
          refine hQ.out _ _ ⟨?_, ?_⟩
          · simp [Iv.upd, hi, hd, sl_true, sl_false]
          · simpa [Iv.upd, hi, hd] using hw
        · rintro f a0 y Q' ⟨rfl, hw⟩ hi hd hQ
          replace hQ := Lib.hid hQ
          simp [Iv.depsB, Region.binds] at hd
          try simp only [hi, hd, sl_true, sl_false]
          try simp only [hi, sl_true, sl_false]
          go_wp2_with fail
          refine hQ.out _ _ ⟨?_, ?_⟩
          · simp [Iv.upd, hi, hd, sl_true, sl_false]
          · simpa [Iv.upd, hi, hd] using hw
        · rintro f a0 y Q' ⟨rfl, hw⟩ hi hd hQ
          replace hQ := Lib.hid hQ
          simp [Iv.depsB, Region.binds] at hd
          try simp only [hi, hd, sl_true, sl_false]
          try simp only [hi, sl_true, sl_false]
          go_wp2_with fail
          refine hQ.out _ _ ⟨?_, ?_⟩
          · simp [Iv.upd, hi, hd, sl_true, sl_false]
          · simpa [Iv.upd, hi, hd] using hw
        · rintro f a0 y Q' ⟨rfl, hw⟩ hi hd hQ
          replace hQ := Lib.hid hQ
          simp [Iv.depsB, Region.binds] at hd
          try simp only [hi, hd, sl_true, sl_false]
          try simp only [hi, sl_true, sl_false]
          go_wp2_with fail
          refine hQ.out _ _ ⟨?_, ?_⟩
          · simp [Iv.upd, hi, hd, sl_true, sl_false]
          · simpa [Iv.upd, hi, hd] using hw
        · rintro f a0 y Q' ⟨rfl, hw⟩ hi hd hQ
          replace hQ := Lib.hid hQ
          simp [Iv.depsB, Region.binds] at hd
          try simp only [hi, hd, sl_true, sl_false]
          try simp only [hi, sl_true, sl_false]
          obtain ⟨t2, t3⟩ := hw.cells HX1.out
          go_wp2_with fail
          refine hQ.out _ _ ⟨?_, ?_⟩
          · simp [Iv.upd, hi, hd, sl_true, sl_false]
          · simpa [Iv.upd, hi, hd] using hw
        · rintro f a0 y Q' ⟨rfl, hw⟩ hi hd hQ
          replace hQ := Lib.hid hQ
          simp [Iv.depsB, Region.binds] at hd
          try simp only [hi, hd, sl_true, sl_false]
          try simp only [hi, sl_true, sl_false]
          go_wp2_with fail
          refine hQ.out _ _ ⟨?_, ?_⟩
          · simp [Iv.upd, hi, hd, sl_true, sl_false]
          · simpa [Iv.upd, hi, hd] using hw
        · rintro f a0 y Q' ⟨rfl, hw⟩ hi hd hQ
          replace hQ := Lib.hid hQ
          simp [Iv.depsB, Region.binds] at hd
          try simp only [hi, hd, sl_true, sl_false]
          try simp only [hi, sl_true, sl_false]
          go_wp2_with fail
          refine hQ.out _ _ ⟨?_, ?_⟩
          · simp [Iv.upd, hi, hd, sl_true, sl_false]
          · simpa [Iv.upd, hi, hd] using hw
        · rintro f a0 y Q' ⟨rfl, hw⟩ hi hd hQ
          replace hQ := Lib.hid hQ
          simp [Iv.depsB, Region.binds] at hd
          try simp only [hi, hd, sl_true, sl_false]
          try simp only [hi, sl_true, sl_false]
          go_wp2_with fail
          refine hQ.out _ _ ⟨?_, ?_⟩
          · simp [Iv.upd, hi, hd, sl_true, sl_false]
          · simpa [Iv.upd, hi, hd] using hw
        · rintro f a0 y Q' ⟨rfl, hw⟩ hi hd hQ
          replace hQ := Lib.hid hQ
          simp [Iv.depsB, Region.binds] at hd
          try simp only [hi, hd, sl_true, sl_false]
          try simp only [hi, sl_true, sl_false]
          obtain ⟨t2, t3⟩ := hw.cells HX1.out
          go_wp2_with fail
          refine hQ.out _ _ ⟨?_, ?_⟩
          · simp [Iv.upd, hi, hd, sl_true, sl_false]
          · simpa [Iv.upd, hi, hd] using hw
        · rintro f a0 y Q' ⟨rfl, hw⟩ hi hd hQ
          replace hQ := Lib.hid hQ
          simp [Iv.depsB, Region.binds] at hd
          try simp only [hi, hd, sl_true, sl_false]
          try simp only [hi, sl_true, sl_false]
          go_wp2_with fail
          refine hQ.out _ _ ⟨?_, ?_⟩
          · simp [Iv.upd, hi, hd, sl_true, sl_false]
          · simpa [Iv.upd, hi, hd] using hw
        · rintro f a0 y Q' ⟨rfl, hw⟩ hi hd hQ
          replace hQ := Lib.hid hQ
          simp [Iv.depsB, Region.binds] at hd
          try simp only [hi, hd, sl_true, sl_false]
          try simp only [hi, sl_true, sl_false]
          obtain ⟨e9, ey⟩ := hw.zero hi
          subst ey
          try simp only [e9]
          have d4 : f 4 = true := by simp [hd]
          have d8 : f 8 = true := by simp [hd]
          have d9 : f 9 = true := by simp [hd]
          try simp only [d4, d8, d9, sl_true]
          go_wp2_with fail
          refine (HAP.out _ _ _ (HX1.out.dsk.call (below_drewN (Below.refl _ _) 1)) (HIN1.out.call (below_drewN (Below.refl _ _) 1))).mono ?_
          rintro e y1 ⟨rfl, hm⟩
          have HM := Lib.hid (Rx.made (E := R.2) (HX1.out.drewN 1) hm)
          clear hm
          go_wp2_with fail
          refine hQ.out _ _ ⟨?_, ?_⟩
          · simp [Iv.upd, hi, hd, e9, sl_true, sl_false]
          · simpa [Iv.upd, hi, hd, e9] using HM.out
        · rintro f a0 y Q' ⟨rfl, hw⟩ hi hd hQ
          replace hQ := Lib.hid hQ
          simp [Iv.depsB, Region.binds] at hd
          try simp only [hi, hd, sl_true, sl_false]
          try simp only [hi, sl_true, sl_false]
          have d0 : f 0 = true := by simp [hd]
          have d10 : f 10 = true := by simp [hd]
          try simp only [d0, d10, sl_true]
          have HW := Lib.hid (hw.one d10 hi)
          have HMET := Lib.hid (met_any p g v R.2 y (by obtain ⟨-, F', -, hx⟩ := HW.out; exact hx.face))
          go_wp2_with fail
          refine HMET.out.mono ?_
          rintro e y1 ⟨rfl, hm1, hm2⟩
          have HM := Lib.hid (Rx.last (HW.out.faced hm1 hm2))
          clear hm1 hm2
          go_wp2_with fail
          refine hQ.out _ _ ⟨?_, ?_⟩
          · simp [Iv.upd, hi, hd, d0, d10, sl_true, sl_false]
          · simpa [Iv.upd, hi, hd, d10] using HM.out
        · rintro f a0 y Q' ⟨rfl, hw⟩ hi hd hQ
          replace hQ := Lib.hid hQ
          simp [Iv.depsB, Region.binds] at hd
          try simp only [hi, hd, sl_true, sl_false]
          try simp only [hi, sl_true, sl_false]
          go_wp2_with fail
          refine hQ.out _ _ ⟨?_, ?_⟩
          · simp [Iv.upd, hi, hd, sl_true, sl_false]
          · simpa [Iv.upd, hi, hd] using hw
      · rintro f a0 y ⟨rfl, hw⟩ hall
        simp only [hall 0 (by decide), hall 1 (by decide), hall 2 (by decide), hall 3 (by decide), hall 4 (by decide), hall 5 (by decide), hall 6 (by decide), hall 7 (by decide), hall 8 (by decide), hall 9 (by decide), hall 10 (by decide), hall 11 (by decide), hall 12 (by decide), sl_true, ↓reduceIte] at hw ⊢
        clear hall
        have HW := Lib.hid (hw.two rfl).2
        clear hw
        by_cases hE : R.2 = 0
        · have HWE := Lib.hid (HW.out.met0 hE)
          rw [hE]
          have HEE := Lib.hid hE
          clear hE
          go_wp2_with fail
          refine (allSure_any n y).mono ?_
          rintro e y1 ⟨rfl, hb1⟩
          have HWF := Lib.hid (HWE.out.call hb1)
          have HS := Lib.hid ((HWF.out.set (v' := { v with all := n }) 0 (.int .i64 (n : Int)) (by simp [wcells])).set (v' := { v with all := n, sure := n }) 1 (.int .i64 (n : Int)) (by simp [wcells]))
          have k3 := HWF.out.face.free 0
          have k4 := HWF.out.face.free 1
          have k5 := HWF.out.face.cell 0
          have k6 := HWF.out.face.cell 1
          simp only [wcells] at k5 k6
          clear hb1
          go_wp2_with fail
          go_ret
          rw [HR.out]
          refine ⟨by rw [HEE.out]; rfl, ?_⟩
          rw [if_pos HEE.out]
          exact HS.out.before HB.out
        · have q9 : (R.2 != 0) = true := by simpa using hE
          have HEE := Lib.hid hE
          clear hE
          go_wp2_with fail
          go_ret
          rw [HR.out]
          refine ⟨rfl, ?_⟩
          rw [if_neg HEE.out]
          exact HW.out.before HB.out
end Go.Proofs.Ytlfigbgcackimaa
