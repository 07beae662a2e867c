/- Of any floats the least one is the document's: NumLeasts answers true at every list of floats. No condition. -/
import Derived.Test.YtjicdbkpklikfaaNumR
import Derived.Test.YtjicdbkpklikfaaNumK
import Derived.ChangeOld
import Derived.Below
import Derived.Deep.Slices
import Derived.OwnWalk
import Derived.Laws.OwnMore
import Derived.Deep.AppendLies
namespace Go.Proofs.Ytjicdbkpklikfaa.numLeasts
open Go.ChangeShapes Go.WideShapes Go.ChangeAt Go.RowKit Go.Fl
set_option linter.unusedVariables false

theorem trod_float {H : Type} {enc : TypeId × Value → H} {P : Program} {w : World} {base : Nat} {spare : Nat → Bool} {held : Bool} {fuel : Nat} {t : TypeId} {cs : List Value} {x : DataW H × List MemPlace} {k : FloatKind}
    (ht : P.underlying t = some (.float k)) (h : DataW.trod enc P w base spare held fuel t cs = some x) : ∃ n, cs = [.float k n] ∧ (Lit.float k n).wf = true := by
  cases fuel with
  | zero => simp [DataW.trod] at h
  | succ n =>
    unfold DataW.trod at h
    rw [ht] at h
    split at h <;> simp_all

/-- What the walk is told of a slice of floats that came in: it is nil, or leads to a row of floats. -/
def IsF (w : World) (a : Option Addr) (len cap : Nat) (zs : List Nat) : Prop :=
  zs.length = len ∧ ((a = none ∧ len = 0 ∧ cap = 0) ∨ (len = 0 ∧ ∃ x, a = some x) ∨
  ∃ b off, a = some ⟨b, off, none⟩ ∧ len ≤ cap ∧ cap ≤ maxLen ∧ FRow w b off zs ∧ (∀ n ∈ zs, n < 18446744073709551616))
theorem info_float : (Try.prog.info? 22).map (fun i => (i.zero, i.size, i.bytes)) = some (some (.float .f64 0), 1, 8) := by kernel_rfl

theorem copy_row {w : World} {base g cap n : Nat} {xs : List Nat} (h : w.ownsRow base 22 1 (.slice (some ⟨g, 0, none⟩) n cap) n (xs.map (Value.float .f64))) (hl : xs.length = n) : FRow w g 0 xs := by
  intro i hi
  rw [Nat.zero_add, h.cellAt i (by omega), List.getElem?_map, List.getElem?_eq_getElem hi, List.getD_eq_getElem?_getD, List.getElem?_eq_getElem hi]; rfl

theorem row_kept {w w' : World} {b off : Nat} {xs : List Nat} (h : FRow w b off xs) (k : Below w.heap.size w w') : FRow w' b off xs := by
  intro i hi
  have c := h i hi
  rw [k.cell (World.block_lt_of_cell? _ _ c)]; exact c

theorem own_empty (w : World) : (w.alloc (.cells #[] 22)).ownsRow w.heap.size 22 1 (.slice (some ⟨w.heap.size, 0, none⟩) 0 0) 0 [] := by
  refine ⟨rfl, Or.inr ⟨w.heap.size, 0, #[], rfl, Nat.le_refl _, (MapKept.heap_alloc w _).1, Nat.le_refl _, Nat.zero_le _, rfl, rfl⟩⟩

theorem walk_some (w0 : World) (b off len cap : Nat) (zs : List Nat) (hz : zs.length = len) (hc : len ≤ cap) (hm : cap ≤ maxLen) (hr : FRow w0 b off zs) (hl : ∀ n ∈ zs, n < 18446744073709551616) (h200 : len ≤ 200) :
    Calls Try.prog 7 #[.slice (some ⟨b, off, none⟩) len cap] w0 fun e w' => e = .returned (.bool true) ∧ Kp w0 w' := by
  obtain ⟨i0, hi, hz0, hz1, hz2⟩ := info_parts info_float
  have hm' : cap ≤ 9223372036854775807 := hm
  have HZ := Lib.hid hz
  have HR := Lib.hid hr
  have HL := Lib.hid hl
  have HI := Lib.hid hi
  have HI0 := Lib.hid hz0
  have HI1 := Lib.hid hz1
  have HI2 := Lib.hid hz2
  clear hz hr hl hi hz0 hz1 hz2
  go_enter Try.func7, Try.ntmps7
  go_wp2_with (at_builtin; refine wpList_append_own _ rfl _ _ 42 rfl w0.heap.size 22 i0 (.float .f64 0) 1 8 Try.underlying42 HI.out HI0.out HI1.out HI2.out rfl (by decide) _ 0 [] rfl (own_empty w0) ⟨b, off, none⟩ len cap (zs.map (Value.float .f64)) rfl ?c1 ?c2 ?c3 ?c4 ?c5 ?c6 ?_)
  case c1 => rw [List.length_map, Nat.mul_one]; exact HZ.out
  case c2 =>
    intro j u hu
    rw [List.getElem?_map] at hu
    obtain ⟨z, hz1, hz2⟩ := Option.map_eq_some_iff.1 hu
    obtain ⟨hj, hz3⟩ := List.getElem?_eq_some_iff.1 hz1
    have c := HR.out j hj
    rw [List.getD_eq_getElem?_getD, hz1] at c
    rw [show (⟨b, off, none⟩ : Addr).add j = ⟨b, off + j, none⟩ by simp [Addr.add]]
    rw [World.cell?_alloc_lt _ _ _ (World.block_lt_of_cell? w0 ⟨b, off + j, none⟩ c)]
    rw [← hz2]; exact c
  case c3 =>
    intro u hu
    obtain ⟨z, _, rfl⟩ := List.mem_map.1 hu
    rfl
  case c4 => unfold maxLen; omega
  case c5 => omega
  case c6 => simp
  intro v' w1 hown hg hnil
  have B1 : Below w0.heap.size w0 w1 := ((Below.refl _ w0).alloc (Nat.le_refl _) _).grown hg (by simp) (by
    intro k hk
    have : some w0.heap.size = some k := hk
    injection this with this
    omega)
  have HB := Lib.hid B1
  have HO := Lib.hid hown
  clear hown hg hnil B1
  by_cases h0 : len = 0
  · subst h0
    obtain ⟨a', cap', hv⟩ : ∃ a' cap', v' = .slice a' 0 cap' := by
      rcases HO.out.2 with ⟨h, _⟩ | ⟨g, c, cur, h, _⟩
      · exact ⟨_, _, h⟩
      · exact ⟨_, _, h⟩
    rw [hv]
    clear hv
    go_wp2_with fail
    refine (least_none _ _ _).mono ?_
    rintro e w2 ⟨rfl, rfl⟩
    go_wp2_with fail
    refine (rleast_none _ _ _).mono ?_
    rintro e w3 ⟨rfl, hg3⟩
    go_wp2_with fail
    refine (awake_any _).mono ?_
    rintro e w4 ⟨rfl, hg4⟩
    go_wp2_with fail
    refine (same_any _ _ (by decide) (by decide) (Or.inl rfl) _).mono ?_
    rintro e w5 ⟨rfl, rfl⟩
    go_wp2_with fail
    go_ret
    exact ⟨rfl, grown_trans HB.out (grown_trans hg3 hg4)⟩
  · obtain ⟨y, t, hzs⟩ : ∃ y t, zs = y :: t := by
      cases zs with
      | nil => exact absurd HZ.out.symm h0
      | cons y t => exact ⟨y, t, rfl⟩
    subst hzs
    have hl1 : t.length + 1 = len := HZ.out
    subst hl1
    obtain ⟨g, cap', hv, hcap1, hcap2⟩ : ∃ g cap', v' = .slice (some ⟨g, 0, none⟩) (t.length + 1) cap' ∧ t.length + 1 ≤ cap' ∧ cap' ≤ maxLen := by
      rcases HO.out.2 with ⟨_, h⟩ | ⟨g, c, cur, h, _, _, k1, k2, _⟩
      · omega
      · exact ⟨g, c, h, k1, k2⟩
    have hown := HO.out
    rw [hv] at hown ⊢
    have hcopy := copy_row hown rfl
    have HC := Lib.hid hcopy
    have hcap3 : cap' ≤ 9223372036854775807 := hcap2
    clear hown hv hcopy HO
    go_wp2_with fail
    refine (least_some g 0 cap' y t _ HC.out hcap1 hcap3 HL.out).mono ?_
    rintro e w2 ⟨rfl, rfl⟩
    go_wp2_with fail
    refine (rleast_some b off cap y t _ (row_kept HR.out HB.out) hc hm' HL.out).mono ?_
    rintro e w3 ⟨rfl, hg3⟩
    go_wp2_with fail
    refine (awake_any _).mono ?_
    rintro e w4 ⟨rfl, hg4⟩
    have hlt := leastF_lt t y (HL.out y (by simp)) (fun x hx => HL.out x (List.mem_cons_of_mem _ hx))
    go_wp2_with fail
    refine (same_any _ _ hlt hlt (Or.inl rfl) _).mono ?_
    rintro e w5 ⟨rfl, rfl⟩
    go_wp2_with fail
    go_ret
    exact ⟨rfl, grown_trans HB.out (grown_trans hg3 hg4)⟩

theorem walk_nil (w0 : World) : Calls Try.prog 7 #[.slice none 0 0] w0 fun e w' => e = .returned (.bool true) ∧ Kp w0 w' := by
  obtain ⟨i0, hi, hz0, hz1, hz2⟩ := info_parts info_float
  have HI := Lib.hid hi
  clear hi hz0 hz1 hz2
  go_enter Try.func7, Try.ntmps7
  go_wp2_with (at_builtin; refine wpList_append_own_none rfl _ _ 42 rfl w0.heap.size 22 i0 1 Try.underlying42 HI.out _ 0 [] rfl (own_empty w0) rfl ?_)
  refine (least_none _ _ _).mono ?_
  rintro e w2 ⟨rfl, rfl⟩
  go_wp2_with fail
  refine (rleast_none _ _ _).mono ?_
  rintro e w3 ⟨rfl, hg3⟩
  go_wp2_with fail
  refine (awake_any _).mono ?_
  rintro e w4 ⟨rfl, hg4⟩
  go_wp2_with fail
  refine (same_any _ _ (by decide) (by decide) (Or.inl rfl) _).mono ?_
  rintro e w5 ⟨rfl, rfl⟩
  go_wp2_with fail
  go_ret
  exact ⟨rfl, grown_trans ((Below.refl _ w0).alloc (Nat.le_refl _) _) (grown_trans hg3 hg4)⟩

theorem walk_zero (w0 : World) (x : Addr) (cap : Nat) : Calls Try.prog 7 #[.slice (some x) 0 cap] w0 fun e w' => e = .returned (.bool true) ∧ Kp w0 w' := by
  obtain ⟨i0, hi, hz0, hz1, hz2⟩ := info_parts info_float
  have HI := Lib.hid hi
  have HI0 := Lib.hid hz0
  have HI1 := Lib.hid hz1
  have HI2 := Lib.hid hz2
  clear hi hz0 hz1 hz2
  go_enter Try.func7, Try.ntmps7
  go_wp2_with (at_builtin; refine wpList_append_own _ rfl _ _ 42 rfl w0.heap.size 22 i0 (.float .f64 0) 1 8 Try.underlying42 HI.out HI0.out HI1.out HI2.out rfl (by decide) _ 0 [] rfl (own_empty w0) x 0 cap [] rfl ?c1 ?c2 ?c3 ?c4 ?c5 ?c6 ?_)
  case c1 => rfl
  case c2 => intro j u hu; simp at hu
  case c3 => intro u hu; simp at hu
  case c4 => unfold maxLen; omega
  case c5 => omega
  case c6 => simp
  intro v' w1 hown hg hnil
  have B1 : Below w0.heap.size w0 w1 := ((Below.refl _ w0).alloc (Nat.le_refl _) _).grown hg (by simp) (by
    intro k hk
    have : some w0.heap.size = some k := hk
    injection this with this
    omega)
  have HB := Lib.hid B1
  have HO := Lib.hid hown
  clear hown hg hnil B1
  obtain ⟨a', cap', hv⟩ : ∃ a' cap', v' = .slice a' 0 cap' := by
    rcases HO.out.2 with ⟨h, _⟩ | ⟨g, c, cur, h, _⟩
    · exact ⟨_, _, h⟩
    · exact ⟨_, _, h⟩
  rw [hv]
  clear hv
  go_wp2_with fail
  refine (least_none _ _ _).mono ?_
  rintro e w2 ⟨rfl, rfl⟩
  go_wp2_with fail
  refine (rleast_none _ _ _).mono ?_
  rintro e w3 ⟨rfl, hg3⟩
  go_wp2_with fail
  refine (awake_any _).mono ?_
  rintro e w4 ⟨rfl, hg4⟩
  go_wp2_with fail
  refine (same_any _ _ (by decide) (by decide) (Or.inl rfl) _).mono ?_
  rintro e w5 ⟨rfl, rfl⟩
  go_wp2_with fail
  go_ret
  exact ⟨rfl, grown_trans HB.out (grown_trans hg3 hg4)⟩

theorem walk_long (w0 : World) (a : Option Addr) (len cap : Nat) (h : ¬ len ≤ 200) :
    Calls Try.prog 7 #[.slice a len cap] w0 fun e w' => e = .returned (.bool true) ∧ Kp w0 w' := by
  go_enter Try.func7, Try.ntmps7
  go_wp2_with fail
  refine (awake_any _).mono ?_
  rintro e w4 ⟨rfl, hg4⟩
  go_wp2_with fail
  go_ret
  exact ⟨rfl, hg4⟩

theorem walk (a : Option Addr) (len cap : Nat) (zs : List Nat) (w : World) (h : IsF w a len cap zs) :
    Calls Try.prog 7 #[.slice a len cap] w fun e w' => e = .returned (.bool true) ∧ Kp w w' := by
  by_cases h200 : len ≤ 200
  · rcases h with ⟨hz, ⟨rfl, rfl, rfl⟩ | ⟨rfl, x, rfl⟩ | ⟨b, off, rfl, hc, hm, hr, hl⟩⟩
    · exact walk_nil w
    · exact walk_zero w x cap
    · exact walk_some w b off len cap zs hz hc hm hr hl h200
  · exact walk_long w a len cap h200

theorem own : ownKnob Try.prog.godebug = none := by kernel_rfl
theorem laidOut : laidOutB Try.prog = true := by kernel_rfl
set_option maxRecDepth 100000 in
theorem lifted (os : Os) (started : os.Started) (H : Type) (enc : TypeId × Value → H) :
    ReturnsInHanded {} Try.checked os 7 .any (Rows.numLeastsSpec.pre6 enc Try.prog Try.f7 Rows.numLeastsRow.domain false) (Rows.numLeastsSpec.post enc Try.prog Try.f7 false true false false) := by
  refine returnsInHanded_of_change (C := Try.checked) own started (by kernel_rfl) Try.func7
    (ChangeSpec.witness6 (enc := enc) (C := Try.checked) false ⟨#[], #[.slice none 0 0], []⟩ 8 (by kernel_rfl) (by kernel_rfl) (by kernel_rfl) (by kernel_rfl)) ?_
  intro W base args ds gs before hval0 hW hcnd _
  have hval : ∀ (j : Nat) t v, Try.f7.params[j]? = some t → args[j]? = some v → Value.okWide Try.prog W .any base t v := hval0
  have hW' := hW
  obtain ⟨p, q, hA0, hV, rfl, hfz, hnd⟩ := hW
  have hA : DataW.TrodAll enc Try.prog W 0 (fun _ => true) true Try.f7.params.toList args.toList ds p := hA0
  rw [Try.params7] at hA hval
  obtain ⟨v0, vs0, d0, ds0, p0, q0, hargs, rfl, rfl, h0, r0⟩ := trodAll_cons hA
  obtain ⟨rfl, rfl, rfl⟩ := trodAll_nil r0
  obtain rfl : args = #[v0] := by cases args; simp_all
  obtain ⟨rfl, rfl⟩ := trodVars_none hV
  obtain ⟨a0, len0, cap0, rfl⟩ := okWide_slice Try.underlying42 (hval 0 42 v0 rfl rfl)
  have k0 := h0
  have lt0 : ∀ x ∈ p0, x.block < W.heap.size := by obtain ⟨m, hm⟩ := k0; exact DataW.trod_lt m _ _ _ hm
  obtain ⟨z0, w0⟩ : ∃ zs, IsF W a0 len0 cap0 zs := by
    obtain ⟨fuel, hf⟩ := h0
    rcases Deep.open_slice1 Try.underlying42 (by kernel_rfl) hf with ⟨hcs, _⟩ | ⟨x, l, c, m, n, V, D, Pl, hcs, _, hl, hm, hmm, _, hV⟩
    · simp [Value.cells] at hcs
      obtain ⟨rfl, rfl, rfl⟩ := hcs
      exact ⟨[], rfl, .inl ⟨rfl, rfl, rfl⟩⟩
    · simp [Value.cells] at hcs
      obtain ⟨rfl, rfl, rfl⟩ := hcs
      have hmc : m = cap0 := by simpa using hmm
      have each : ∀ i, i < cap0 → ∃ z, W.cell? (x.add i) = some (.float .f64 z) ∧ (Lit.float .f64 z).wf = true := by
        intro i hi
        obtain ⟨c1, c2⟩ := hV i (by omega)
        obtain ⟨z, hz, hw⟩ := trod_float (k := .f64) Try.underlying22 c2
        simp only [List.cons.injEq, and_true] at hz
        exact ⟨z, by rw [c1, hz], hw⟩
      obtain ⟨f, hf⟩ := Deep.choose_lt (α := Nat) (p := fun i z => W.cell? (x.add i) = some (.float .f64 z) ∧ (Lit.float .f64 z).wf = true) each
      obtain ⟨b, off, spot⟩ := x
      by_cases hlen : len0 = 0
      · subst hlen
        exact ⟨[], rfl, .inr (.inl ⟨rfl, _, rfl⟩)⟩
      · have hspot : spot = none := by simpa [Addr.add] using World.cell?_spot (hf 0 (by omega)).1
        subst hspot
        refine ⟨(List.range len0).map f, by simp, .inr (.inr ⟨b, off, rfl, hl, hm, ?_, ?_⟩)⟩
        · intro i hi
          have hi' : i < len0 := by simpa using hi
          have := (hf i (by omega)).1
          rw [show (⟨b, off, none⟩ : Addr).add i = ⟨b, off + i, none⟩ by simp [Addr.add]] at this
          rw [this]; simp [hi']
        · intro z hz
          obtain ⟨i, hi, rfl⟩ := List.mem_map.1 hz
          exact f64_lt (hf i (by have := List.mem_range.1 hi; omega)).2
  clear hA0 hval0
  refine (walk a0 len0 cap0 z0 W w0).mono fun e W' ⟨he, bel⟩ => ?_
  subst he
  exact ⟨_, rfl, _, _, _, [], _, [], hW', trodAll_mk1 (shut_bool Try.underlying4 _), (trodAll_cons_mk (Below.trod laidOut (by kernel_rfl) (of_decide_eq_true (by kernel_rfl)) k0 bel lt0) trodAll_mk0), rfl, bel.frame _, fun h => by cases h⟩

theorem proved : Rows.NumLeastsSaid :=
  OpenClaim.holds_of_wide 7 Try.f7 rfl rfl rfl rfl rfl rfl rfl ⟨rfl, rfl, rfl, rfl, rfl⟩ rfl rfl rfl rfl rfl (by kernel_rfl) Try.func7 (by kernel_rfl)
    (of_decide_eq_true (by kernel_rfl)) (by unfold Func.isWrapper; first | (rw [if_pos (by decide +kernel)]; kernel_rfl) | (rw [if_neg (by decide +kernel)]; exact ⟨rfl, rfl⟩))
    (fun os started H enc _ => lifted os started H enc)
#print axioms proved
end Go.Proofs.Ytjicdbkpklikfaa.numLeasts
