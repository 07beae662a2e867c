/- Vaults in memory: a vault by its footprint (its store's, its two maps, its face); isTime, isStamp, isAccount, ours, Top, Fate, order, isFull, unknown, now. -/
import Derived.Test.YtckhddndeojobaaGreatStoQ
import Derived.Test.YtckhddndeojobaaGreatMapG
import Derived.Test.YtckhddndeojobaaGreatVltN
import Derived.Test.YtckhddndeojobaaGreatFee
namespace Go.Proofs.YtckhddndeojobaaGreat
open Go.RowKit Go.Cn Go.So Go.Vt
open Go.Lk (upd supp Fin1 upd_same upd_other)
set_option linter.unusedVariables false
set_option linter.unusedSimpArgs false
set_option maxRecDepth 100000
abbrev ptE (p : Pt) : Value := .agg #[.int .i64 p.id, .int .i64 p.acc, .int .i64 p.n, .bool p.pays]
/-- (A struct within a struct lies flat.) -/
abbrev hvE (h : Hv) : Value := .agg #[.int .i64 h.p.id, .int .i64 h.p.acc, .int .i64 h.p.n, .bool h.p.pays, .int .i64 h.t, .int .i64 h.fee]
abbrev ftE (f : Ft) : Value := .agg #[.int .i64 f.is, .int .i64 f.t, .int .i64 f.acc]
theorem hvE_inj : Inj hvE := fun a b h => by
  obtain ⟨⟨a1, a2, a3, a4⟩, a5, a6⟩ := a
  obtain ⟨⟨b1, b2, b3, b4⟩, b5, b6⟩ := b
  simp [hvE] at h
  simp [h]
theorem ftE_inj : Inj ftE := fun a b h => by
  obtain ⟨a1, a2, a3⟩ := a
  obtain ⟨b1, b2, b3⟩ := b
  simp [ftE] at h
  simp [h]
theorem zero_hv (w : World) : (zeroValue 54).run Tryz.prog w = .ok (hvE default) w := by kernel_rfl
theorem zero_ft (w : World) : (zeroValue 69).run Tryz.prog w = .ok (ftE noFt) w := by kernel_rfl
/-- Block g is the vault v's face; its store is block sg, its maps hb and fb. -/
structure Vx (w : World) (g sg hb fb : Nat) (v : Vt) (Fs F : Nat → Prop) : Prop where
  face : Whole w g 34 #[.iface 30 (ptr sg), ptr sg, .float .f64 v.rate, .map (some hb), .map (some fb), .int .i64 v.top]
  sto : Stx w sg v.s Fs
  held : Mv hvE w hb v.held
  fates : Mv ftE w fb v.fates
  apart : ¬ Fs g ∧ ¬ Fs hb ∧ ¬ Fs fb ∧ hb ≠ fb
  foot : ∀ b, F b ↔ (b = g ∨ b = hb ∨ b = fb ∨ Fs b)
def Vlt (w : World) (g : Nat) (v : Vt) (F : Nat → Prop) : Prop := ∃ sg hb fb Fs, Vx w g sg hb fb v Fs F
/-- The vault g has become v, and nothing else that is old has changed. -/
structure WentV (F : Nat → Prop) (w w' : World) (g : Nat) (v : Vt) : Prop where
  off : Off F w w'
  vlt : ∃ F', (∀ b, F' b → F b ∨ w.heap.size ≤ b) ∧ Vlt w' g v F'
section
variable {w w' : World} {g sg hb fb : Nat} {v v' : Vt} {Fs F : Nat → Prop}
theorem Vx.off {G : Nat → Prop} (x : Vx w g sg hb fb v Fs F) (ho : Off G w w') (hG : ∀ b, F b → ¬ G b) : Vx w' g sg hb fb v Fs F :=
  ⟨ho.whole x.face (hG g ((x.foot g).2 (.inl rfl))), x.sto.off ho fun b hb => hG b ((x.foot b).2 (.inr (.inr (.inr hb)))), x.held.at (ho.block hb x.held.lt (hG hb ((x.foot hb).2 (.inr (.inl rfl))))), x.fates.at (ho.block fb x.fates.lt (hG fb ((x.foot fb).2 (.inr (.inr (.inl rfl)))))), x.apart, x.foot⟩
theorem Vx.call (x : Vx w g sg hb fb v Fs F) (hb2 : Below w.heap.size w w') : Vx w' g sg hb fb v Fs F := x.off (.of hb2 fun _ => False) fun b _ h => h
theorem Vx.low (x : Vx w g sg hb fb v Fs F) {b : Nat} (h : F b) : b < w.heap.size := by
  rcases (x.foot b).1 h with rfl | rfl | rfl | h
  · exact x.face.lt
  · exact x.held.lt
  · exact x.fates.lt
  · exact x.sto.low h
theorem Vx.ne (x : Vx w g sg hb fb v Fs F) : hb ≠ g ∧ fb ≠ g := ⟨x.held.notCells x.face, x.fates.notCells x.face⟩
theorem Vx.cells (x : Vx w g sg hb fb v Fs F) : w.cell? ⟨g, 0, none⟩ = some (.iface 30 (ptr sg)) ∧ w.cell? ⟨g, 1, none⟩ = some (ptr sg) ∧ w.cell? ⟨g, 2, none⟩ = some (.float .f64 v.rate) ∧ w.cell? ⟨g, 3, none⟩ = some (.map (some hb)) ∧ w.cell? ⟨g, 4, none⟩ = some (.map (some fb)) ∧ w.cell? ⟨g, 5, none⟩ = some (.int .i64 v.top) ∧ w.frozen? ⟨g, 5, none⟩ = false ∧ g < w.heap.size :=
  ⟨x.face.cell 0, x.face.cell 1, x.face.cell 2, x.face.cell 3, x.face.cell 4, x.face.cell 5, x.face.free 5, x.face.lt⟩
/-- Its store was told something. -/
theorem Vx.went {s' : Sto} (x : Vx w g sg hb fb v Fs F) (hm : WentS Fs w w' sg s') : ∃ Fs' F', Vx w' g sg hb fb { v with s := s' } Fs' F' ∧ Off F w w' ∧ ∀ b, F' b → F b ∨ w.heap.size ≤ b := by
  obtain ⟨ho, Fs', hF, hd⟩ := hm
  obtain ⟨a1, a2, a3, a4⟩ := x.apart
  have lg := x.face.lt
  have lh := x.held.lt
  have lf := x.fates.lt
  have hn : ∀ b, ¬ Fs b → b < w.heap.size → ¬ Fs' b := fun b h1 h2 h3 => by
    rcases hF b h3 with h | h
    · exact h1 h
    · omega
  refine ⟨Fs', fun b => b = g ∨ b = hb ∨ b = fb ∨ Fs' b, ⟨ho.whole x.face a1, hd, x.held.at (ho.block hb lh a2), x.fates.at (ho.block fb lf a3), ⟨hn g a1 lg, hn hb a2 lh, hn fb a3 lf, a4⟩, fun b => Iff.rfl⟩, ⟨ho.os, ho.tape, ho.output, ho.size, fun i hi hg => ho.block i hi fun h => hg ((x.foot i).2 (.inr (.inr (.inr h))))⟩, fun b hb2 => ?_⟩
  rcases hb2 with h | h | h | h
  · exact .inl ((x.foot b).2 (.inl h))
  · exact .inl ((x.foot b).2 (.inr (.inl h)))
  · exact .inl ((x.foot b).2 (.inr (.inr (.inl h))))
  · rcases hF b h with h | h
    · exact .inl ((x.foot b).2 (.inr (.inr (.inr h))))
    · exact .inr h
/-- Its top is another. -/
theorem Vx.setTop (x : Vx w g sg hb fb v Fs F) (t : Int) : Vx (w.setCell ⟨g, 5, none⟩ (.int .i64 t)) g sg hb fb { v with top := t } Fs F := by
  have ho : Off (fun b => b = g) w (w.setCell ⟨g, 5, none⟩ (.int .i64 t)) := (Off.refl (fun b => b = g) w).set (p := ⟨g, 5, none⟩) (.inl rfl) _
  refine ⟨?_, x.sto.off ho fun b hb2 e => x.apart.1 (e ▸ hb2), x.held.at (ho.block hb x.held.lt x.ne.1), x.fates.at (ho.block fb x.fates.lt x.ne.2), x.apart, x.foot⟩
  have := x.face.set 5 (.int .i64 t)
  simpa using this
/-- A part is held, or not any more. -/
theorem Vx.setHeld {f : Int → Option Hv} (x : Vx w g sg hb fb v Fs F) (ho : Off (fun b => b = hb) w w') (hm : Mv hvE w' hb f) : Vx w' g sg hb fb { v with held := f } Fs F :=
  ⟨ho.whole x.face (fun e => x.ne.1 e.symm), x.sto.off ho fun b hb2 e => x.apart.2.1 (e ▸ hb2), hm, x.fates.at (ho.block fb x.fates.lt fun e => x.apart.2.2.2 e.symm), x.apart, x.foot⟩
theorem Vx.setFate {f : Int → Option Ft} (x : Vx w g sg hb fb v Fs F) (ho : Off (fun b => b = fb) w w') (hm : Mv ftE w' fb f) : Vx w' g sg hb fb { v with fates := f } Fs F :=
  ⟨ho.whole x.face (fun e => x.ne.2 e.symm), x.sto.off ho fun b hb2 e => x.apart.2.2.1 (e ▸ hb2), x.held.at (ho.block hb x.held.lt x.apart.2.2.2), hm, x.apart, x.foot⟩
theorem Vx.offH (x : Vx w g sg hb fb v Fs F) (ho : Off (fun b => b = hb) w w') : Off F w w' := ⟨ho.os, ho.tape, ho.output, ho.size, fun i hi hg => ho.block i hi fun h => hg ((x.foot i).2 (.inr (.inl h)))⟩
theorem Vx.offF (x : Vx w g sg hb fb v Fs F) (ho : Off (fun b => b = fb) w w') : Off F w w' := ⟨ho.os, ho.tape, ho.output, ho.size, fun i hi hg => ho.block i hi fun h => hg ((x.foot i).2 (.inr (.inr (.inl h))))⟩
theorem Vx.offG (x : Vx w g sg hb fb v Fs F) (i : Nat) (u : Value) : Off F w (w.setCell ⟨g, i, none⟩ u) := (Off.refl F w).set (p := ⟨g, i, none⟩) (.inl ((x.foot g).2 (.inl rfl))) u
theorem Vx.lookH (x : Vx w g sg hb fb v Fs F) {a : Int} (ha : W64 a) :
    (Instr.lookup 31 (.map (some hb)) (.int .i64 a) true).run Tryz.prog w = .ok (.tuple #[hvE ((v.held a).getD default), .bool (v.held a).isSome]) w ∧ (Instr.lookup 31 (.map (some hb)) (.int .i64 a) false).run Tryz.prog w = .ok (hvE ((v.held a).getD default)) w :=
  x.held.look hvE_inj Tryz.underlying31 (zero_hv w) ha
theorem Vx.lookF (x : Vx w g sg hb fb v Fs F) {a : Int} (ha : W64 a) :
    (Instr.lookup 32 (.map (some fb)) (.int .i64 a) true).run Tryz.prog w = .ok (.tuple #[ftE ((v.fates a).getD noFt), .bool (v.fates a).isSome]) w ∧ (Instr.lookup 32 (.map (some fb)) (.int .i64 a) false).run Tryz.prog w = .ok (ftE ((v.fates a).getD noFt)) w :=
  x.fates.look ftE_inj Tryz.underlying32 (zero_ft w) ha
theorem WentV.same (x : Vx w g sg hb fb v Fs F) (hb2 : Below w.heap.size w w') : WentV F w w' g v := ⟨.of hb2 F, F, fun b h => .inl h, sg, hb, fb, Fs, x.call hb2⟩
end
/-! ### Numbers -/
theorem vtime_any (t : Int) (w : World) : Calls Tryz.prog 33 #[.int .i64 t] w fun e w' => e = .returned (.bool (isT t)) ∧ w' = w := by
  by_cases h0 : 0 ≤ t
  · by_cases h1 : t ≤ 1125899906842624
    · have H : Hid (isT t = true) := Lib.hid ((isT_iff t).2 ⟨h0, h1⟩)
      go_enter Tryz.func33, Tryz.ntmps33
      go_wp2_with fail
      go_ret
      exact ⟨by rw [H.out]; rfl, rfl⟩
    · have H : Hid (isT t = false) := Lib.hid ((isT_no t).2 (by omega))
      go_enter Tryz.func33, Tryz.ntmps33
      go_wp2_with fail
      go_ret
      exact ⟨by rw [H.out]; rfl, rfl⟩
  · have H : Hid (isT t = false) := Lib.hid ((isT_no t).2 (by omega))
    go_enter Tryz.func33, Tryz.ntmps33
    go_wp2_with fail
    go_ret
    exact ⟨by rw [H.out]; rfl, rfl⟩
theorem vacc_any (a : Int) (w : World) : Calls Tryz.prog 41 #[.int .i64 a] w fun e w' => e = .returned (.bool (isAc a)) ∧ w' = w := by
  by_cases h0 : 0 ≤ a
  · by_cases h1 : a < 4096
    · have H : Hid (isAc a = true) := Lib.hid ((isAc_iff a).2 ⟨h0, h1⟩)
      go_enter Tryz.func41, Tryz.ntmps41
      go_wp2_with fail
      go_ret
      exact ⟨by rw [H.out]; rfl, rfl⟩
    · have H : Hid (isAc a = false) := Lib.hid ((isAc_no a).2 (by omega))
      go_enter Tryz.func41, Tryz.ntmps41
      go_wp2_with fail
      go_ret
      exact ⟨by rw [H.out]; rfl, rfl⟩
  · have H : Hid (isAc a = false) := Lib.hid ((isAc_no a).2 (by omega))
    go_enter Tryz.func41, Tryz.ntmps41
    go_wp2_with fail
    go_ret
    exact ⟨by rw [H.out]; rfl, rfl⟩
theorem vstamp_any (t : Int) (w : World) : Calls Tryz.prog 26 #[.int .i64 t] w fun e w' => e = .returned (.bool (isSt t)) ∧ Below w.heap.size w w' := by
  have HT := Lib.hid (fun w0 => vtime_any t w0)
  by_cases h0 : 1 ≤ t
  · by_cases h1 : t ≤ 1125899906842624
    · have H : Hid (isSt t = true) := Lib.hid ((isSt_iff t).2 ⟨h0, h1⟩)
      rw [(isT_iff t).2 ⟨by omega, h1⟩] at HT
      go_enter Tryz.func26, Tryz.ntmps26
      go_wp2_with fail
      refine (HT.out _).mono ?_
      rintro e w1 ⟨rfl, rfl⟩
      go_wp2_with fail
      go_ret
      exact ⟨by rw [H.out]; rfl, Below.refl _ _⟩
    · have H : Hid (isSt t = false) := Lib.hid ((isSt_no t).2 (by omega))
      rw [(isT_no t).2 (by omega)] at HT
      go_enter Tryz.func26, Tryz.ntmps26
      go_wp2_with fail
      refine (HT.out _).mono ?_
      rintro e w1 ⟨rfl, rfl⟩
      go_wp2_with fail
      go_ret
      exact ⟨by rw [H.out]; rfl, Below.refl _ _⟩
  · have H : Hid (isSt t = false) := Lib.hid ((isSt_no t).2 (by omega))
    go_enter Tryz.func26, Tryz.ntmps26
    go_wp2_with fail
    go_ret
    exact ⟨by rw [H.out]; rfl, Below.refl _ _⟩
theorem vours_any (n : Int) (w : World) : Calls Tryz.prog 25 #[.int .i64 n] w fun e w' => e = .returned (.int .i64 (oursE n)) ∧ w' = w := by
  by_cases h1 : n = 120
  · subst h1
    go_enter Tryz.func25, Tryz.ntmps25
    go_wp2_with fail
    go_ret
    exact ⟨rfl, rfl⟩
  · by_cases h2 : n = 128
    · subst h2
      go_enter Tryz.func25, Tryz.ntmps25
      go_wp2_with fail
      go_ret
      exact ⟨rfl, rfl⟩
    · by_cases h3 : n = 126
      · subst h3
        go_enter Tryz.func25, Tryz.ntmps25
        go_wp2_with fail
        go_ret
        exact ⟨rfl, rfl⟩
      · by_cases h4 : n = 127
        · subst h4
          go_enter Tryz.func25, Tryz.ntmps25
          go_wp2_with fail
          go_ret
          exact ⟨rfl, rfl⟩
        · have H : Hid (oursE n = n) := Lib.hid (by unfold oursE; rw [if_neg h1, if_neg h2, if_neg h3, if_neg h4])
          have i1 : (n == 120) = false := by simpa using h1
          have i2 : (n == 128) = false := by simpa using h2
          have i3 : (n == 126) = false := by simpa using h3
          have i4 : (n == 127) = false := by simpa using h4
          go_enter Tryz.func25, Tryz.ntmps25
          go_wp2_with fail
          go_ret
          exact ⟨by rw [H.out]; rfl, rfl⟩
end Go.Proofs.YtckhddndeojobaaGreat
