/- Arguments opened at layer 2: a value, a list of values, a text. -/
import Derived.Test.YtmaeacklloaeaaaWireJ
import Derived.Deep.Slices
import Derived.Deep.Fields
import Derived.Deep.RegionHeld3
import Derived.Deep.RegionWith
import Derived.Laws.AppendOwnNone
import Derived.Carry
import Derived.ChangeOld
import Derived.OpenShut
import Derived.ShutString
namespace Go.Proofs.Ytmaeacklloaeaaa
open Go.ChangeShapes Go.WideShapes Go.ChangeAt Go.RowKit Go.Fl Go.Wr
set_option linter.unusedVariables false
set_option linter.unusedSimpArgs false

theorem add_at (b o x : Nat) : (⟨b, o, none⟩ : Addr).add x = ⟨b, o + x, none⟩ := by unfold Addr.add; split <;> simp_all
instance : Inhabited Val := ⟨⟨0, 0, 0, 0, ⟨#[]⟩⟩⟩

section
variable {H : Type} {enc : TypeId × Value → H} {W : World} {base fuel : Nat} {spare : Nat → Bool} {held : Bool}

theorem float_of {P : Program} {t : TypeId} {cs : List Value} {x : DataW H × List MemPlace} {k : FloatKind} (ht : P.underlying t = some (.float k)) (h : DataW.trod enc P W base spare held fuel t cs = some x) :
    ∃ n, cs = [.float k n] ∧ (Lit.float k n).wf = true := by
  cases fuel with
  | zero => simp [DataW.trod] at h
  | succ n =>
    unfold DataW.trod at h
    rw [ht] at h
    split at h <;> simp_all

theorem list5 {α : Type} {l : List α} (h : l.length = 5) : ∃ a b c d e, l = [a, b, c, d, e] := by
  match l, h with
  | [a, b, c, d, e], _ => exact ⟨a, b, c, d, e, rfl⟩

theorem val_of {cs : List Value} {x : DataW H × List MemPlace} (h : DataW.trod enc Try.prog W base spare held fuel 36 cs = some x) : ∃ v : Val, cs = cellsV v ∧ v.wf := by
  obtain ⟨xs, n, -, -, hl, hxl, hf⟩ := DataW.trod_struct Try.underlying36 h
  rw [show Try.prog.cellsOf 36 = 5 by kernel_rfl] at hl
  obtain ⟨c0, c1, c2, c3, c4, rfl⟩ := list5 hl
  obtain ⟨y0, y1, y2, y3, y4, rfl⟩ := list5 (l := xs) (by simpa using hxl)
  have h0 : DataW.trod enc Try.prog W base spare held n 32 (([c0, c1, c2, c3, c4].drop 0).take (Try.prog.cellsOf 32)) = some y0 := hf 0 _ rfl
  have h1 : DataW.trod enc Try.prog W base spare held n 33 (([c0, c1, c2, c3, c4].drop 1).take (Try.prog.cellsOf 33)) = some y1 := hf 1 _ rfl
  have h2 : DataW.trod enc Try.prog W base spare held n 2 (([c0, c1, c2, c3, c4].drop 2).take (Try.prog.cellsOf 2)) = some y2 := hf 2 _ rfl
  have h3 : DataW.trod enc Try.prog W base spare held n 34 (([c0, c1, c2, c3, c4].drop 3).take (Try.prog.cellsOf 34)) = some y3 := hf 3 _ rfl
  have h4 : DataW.trod enc Try.prog W base spare held n 9 (([c0, c1, c2, c3, c4].drop 4).take (Try.prog.cellsOf 9)) = some y4 := hf 4 _ rfl
  rw [show Try.prog.cellsOf 32 = 1 by kernel_rfl] at h0
  rw [show Try.prog.cellsOf 33 = 1 by kernel_rfl] at h1
  rw [show Try.prog.cellsOf 2 = 1 by kernel_rfl] at h2
  rw [show Try.prog.cellsOf 34 = 1 by kernel_rfl] at h3
  rw [show Try.prog.cellsOf 9 = 1 by kernel_rfl] at h4
  obtain ⟨k, e0, -, w0⟩ := DataW.trod_int Try.underlying32 h0
  obtain ⟨u, e1, -, w1⟩ := DataW.trod_int Try.underlying33 h1
  obtain ⟨i, e2, -, w2⟩ := DataW.trod_int Try.underlying2 h2
  obtain ⟨f, e3, w3⟩ := float_of (k := .f64) Try.underlying34 h3
  obtain ⟨s, e4, -, w4⟩ := DataW.trod_string Try.underlying9 h4
  simp only [List.drop_succ_cons, List.drop_zero, List.take_succ_cons, List.take_zero, List.cons.injEq, and_true] at e0 e1 e2 e3 e4
  subst e0 e1 e2 e3 e4
  have b0 := bounds_i64 w0
  have b1 := bounds_u64 w1
  have b2 := bounds_i64 w2
  have b3 : f < 18446744073709551616 := by simpa [Lit.wf] using w3
  exact ⟨⟨k, u, i, f, s⟩, rfl, b0.1, by simp only; omega, b1.1, by simp only; omega, b2.1, by simp only; omega, b3, w4⟩

theorem open_val {r : Reach} {b0 : Nat} {v : Value} {d : DataW H} {p : List MemPlace} (hv : Value.okWide Try.prog W r b0 36 v) (h : DataW.Trod enc Try.prog W base spare held 36 v d p) : ∃ x : Val, v = aggV x ∧ x.wf := by
  obtain ⟨cs, rfl, hsz⟩ := okWide_struct Try.underlying36 hv
  obtain ⟨m, hm⟩ := h
  obtain ⟨x, hx, hw⟩ := val_of hm
  refine ⟨x, ?_, hw⟩
  have : cs.toList = cellsV x := by simpa [Value.cells] using hx
  cases cs
  simp at this
  rw [this]; rfl

/-- What a list of values that came in is like. -/
def IsL (w : World) (A : Option Addr) (len cap : Nat) (l : List Val) : Prop :=
  l.length = len ∧ (∀ v ∈ l, v.wf) ∧ SeesV w w.heap.size A l ∧ len ≤ cap ∧ cap ≤ 9223372036854775807 ∧ (A = none → cap = 0)

theorem open_vals {A : Option Addr} {len cap : Nat} {d : DataW H} {p : List MemPlace} (h : DataW.Trod enc Try.prog W 0 (fun _ => true) held 22 (.slice A len cap) d p) : ∃ l, IsL W A len cap l := by
  obtain ⟨m, hm⟩ := h
  rcases Deep.open_slice Try.underlying22 hm with ⟨hcs, _⟩ | ⟨a, l, c, k, n, D, Pl, hcs, _, hl, hc, hk, _, hi⟩
  · simp [Value.cells] at hcs
    obtain ⟨rfl, rfl, rfl⟩ := hcs
    exact ⟨[], rfl, fun v hv => by simp at hv, Sees.nothing _ _ _ _, by omega, by omega, fun _ => rfl⟩
  · simp [Value.cells] at hcs
    obtain ⟨rfl, rfl, rfl⟩ := hcs
    have hkc : k = cap := by simpa using hk
    subst hkc
    rw [show Try.prog.cellsOf 36 = 5 by kernel_rfl] at hi
    have each : ∀ i, i < k → ∃ v : Val, v.wf ∧ ∀ j, j < 5 → W.cell? ((a.add (i * 5)).add j) = (cellsV v)[j]? := by
      intro i hik
      obtain ⟨cs', h1, h2⟩ := hi i hik
      obtain ⟨v, rfl, hw⟩ := val_of h2
      refine ⟨v, hw, fun j hj => ?_⟩
      obtain ⟨_, _, hat⟩ := World.cells?_some h1
      exact hat j hj
    obtain ⟨f, hf⟩ := Deep.choose_lt (α := Val) (p := fun i v => v.wf ∧ ∀ j, j < 5 → W.cell? ((a.add (i * 5)).add j) = (cellsV v)[j]?) each
    refine ⟨(List.range len).map f, by simp, ?_, ?_, hl, by unfold maxLen at hc; omega, fun h => by cases h⟩
    · intro v hv
      obtain ⟨i, hi, rfl⟩ := List.mem_map.1 hv
      exact (hf i (by have := List.mem_range.1 hi; omega)).1
    · refine ⟨by rw [rowV_length], fun h0 => ?_⟩
      rw [List.length_map, List.length_range] at h0
      obtain ⟨b, off, spot⟩ := a
      have hc0 : W.cell? (((⟨b, off, spot⟩ : Addr).add (0 * 5)).add 0) = some (.int .i64 (f 0).k) := (hf 0 (by omega)).2 0 (by omega)
      rw [show ((⟨b, off, spot⟩ : Addr).add (0 * 5)).add 0 = ⟨b, off, spot⟩ by simp [Addr.add]] at hc0
      have hspot : spot = none := by simpa [Addr.add] using World.cell?_spot hc0
      subst hspot
      have hb := World.block_lt_of_cell? W ⟨b, off, none⟩ hc0
      refine ⟨b, off, rfl, hb, fun j u hu => ?_⟩
      have hj : j < len * 5 := by
        have := (List.getElem?_eq_some_iff.1 hu).1
        rw [rowV_length, List.length_map, List.length_range] at this
        exact this
      have hk2 : j / 5 < len := by omega
      have hat := rowV_at ((List.range len).map f) (j / 5) (f (j / 5)) (by rw [List.getElem?_map, List.getElem?_range hk2]; rfl) (j % 5) (by omega)
      rw [show j / 5 * 5 + j % 5 = j by omega] at hat
      rw [hat] at hu
      have := (hf (j / 5) (by omega)).2 (j % 5) (by omega)
      rw [hu] at this
      rw [show ((⟨b, off, none⟩ : Addr).add (j / 5 * 5)).add (j % 5) = ⟨b, off + j, none⟩ by
        rw [add_at, add_at]; congr 1; omega] at this
      exact this
end

/-- append(v, x...): items of a slice that shows them come behind what is owned; the source may be nil. -/
theorem wpList_appG {ops : Array Oper} {rest : List Oper} {o : Oper} {a : Act} {Q : Exit → Act → World → Prop} {w : World} (hgd : o.guard = none) (s x : Operand) (t e : TypeId) (z : Value) (size bytes : Nat)
    (ho : o.op = .call { callee := .builtin .append, args := #[s, x], argTypes := #[t, t] }) (hinfo : (Try.prog.info? e).map (fun i => (i.zero, i.size, i.bytes)) = some (some z, size, bytes))
    (ht : Try.prog.underlying t = some (.slice e)) (hzs : z.cells.size = size) (hsz : 0 < size)
    (B : Nat) (v : Value) (n : Nat) (xs : List Value) (hs : a.eval s = v) (hown : w.ownsRow B e size v n xs) (B2 : Nat) (A : Option Addr) (m c : Nat) (news : List Value) (hx : a.eval x = .slice A m c) (hsee : Sees w B2 size A m news)
    (hc0 : A = none → c = 0) (h1 : ∀ u ∈ news, u.oneCell' = true) (h63 : n + m ≤ 9223372036854775807) (hbytes : (n + m) * bytes ≤ 140737488355328) (hB : B ≤ w.heap.size)
    (h : ∀ v' w', w'.ownsRow B e size v' (n + m) (xs ++ news) → w.grownBy w' v.ownBlock → wpList Try.prog ops Q rest (a.put o.dst v') w') :
    wpList Try.prog ops Q (o :: rest) a w := by
  obtain ⟨i0, hi, hz0, hz1, hz2⟩ := info_parts hinfo
  cases A with
  | none =>
    have hm : m = 0 := by
      rcases Nat.eq_zero_or_pos m with h0 | h0
      · exact h0
      · obtain ⟨b, off, hA, _⟩ := hsee.2 h0
        cases hA
    subst hm
    have hn : news = [] := List.eq_nil_of_length_eq_zero (by simpa using hsee.1)
    subst hn
    obtain rfl := hc0 rfl
    refine wpList_append_own_none hgd s x t ho B e i0 size ht hi v n xs hs hown hx ?_
    exact h v w (by simpa using hown) ⟨rfl, rfl, rfl, Nat.le_refl _, fun _ _ _ => rfl⟩
  | some ad =>
    refine wpList_append_own w hgd s x t ho B e i0 z size bytes ht hi hz0 hz1 hz2 hzs hsz v n xs hs hown ad m c news hx hsee.1 ?_ h1 (by unfold maxLen; exact h63) hbytes hB ?_
    · intro j u hu
      rcases Nat.eq_zero_or_pos m with h0 | h0
      · subst h0
        have hn : news = [] := List.eq_nil_of_length_eq_zero (by simpa using hsee.1)
        subst hn
        simp at hu
      · obtain ⟨b, off, hA, _, hc⟩ := hsee.2 h0
        injection hA with hA
        subst hA
        rw [add_at]; exact hc j u hu
    · intro v' w' hown' hg _
      exact h v' w' hown' hg
/-- The same of an operation behind a guard that is met. -/
theorem wpList_appH {ops : Array Oper} {rest : List Oper} {o : Oper} {a : Act} {Q : Exit → Act → World → Prop} {w : World} (hgd : Region.wanted o (yielded ops a.tmps) = true) (s x : Operand) (t e : TypeId) (z : Value) (size bytes : Nat)
    (ho : o.op = .call { callee := .builtin .append, args := #[s, x], argTypes := #[t, t] }) (hinfo : (Try.prog.info? e).map (fun i => (i.zero, i.size, i.bytes)) = some (some z, size, bytes))
    (ht : Try.prog.underlying t = some (.slice e)) (hzs : z.cells.size = size) (hsz : 0 < size)
    (B : Nat) (v : Value) (n : Nat) (xs : List Value) (hs : a.eval s = v) (hown : w.ownsRow B e size v n xs) (B2 : Nat) (A : Option Addr) (m c : Nat) (news : List Value) (hx : a.eval x = .slice A m c) (hsee : Sees w B2 size A m news)
    (hc0 : A = none → c = 0) (h1 : ∀ u ∈ news, u.oneCell' = true) (h63 : n + m ≤ 9223372036854775807) (hbytes : (n + m) * bytes ≤ 140737488355328) (hB : B ≤ w.heap.size)
    (h : ∀ v' w', w'.ownsRow B e size v' (n + m) (xs ++ news) → w.grownBy w' v.ownBlock → wpList Try.prog ops Q rest (a.put o.dst v') w') :
    wpList Try.prog ops Q (o :: rest) a w := by
  refine wpList_step fun K hK => ?_
  rw [if_pos hgd]
  obtain ⟨i0, hi, hz0, hz1, hz2⟩ := info_parts hinfo
  cases A with
  | none =>
    have hm : m = 0 := by
      rcases Nat.eq_zero_or_pos m with h0 | h0
      · exact h0
      · obtain ⟨b, off, hA, _⟩ := hsee.2 h0
        cases hA
    subst hm
    have hn : news = [] := List.eq_nil_of_length_eq_zero (by simpa using hsee.1)
    subst hn
    obtain rfl := hc0 rfl
    have hrun := run_append_owned_none (P := Try.prog) (w := w) B t o.type e i0 size ht hi v n xs hown
    unfold Oper.wp
    simp [execOp, ho, resolve, invoke, builtin, hs, hx, hrun, Result.andThen]
    exact hK _ _ (h v w (by simpa using hown) ⟨rfl, rfl, rfl, Nat.le_refl _, fun _ _ _ => rfl⟩)
  | some ad =>
    refine wp_append_own w s x t ho B e i0 z size bytes ht hi hz0 hz1 hz2 hzs hsz v n xs hs hown ad m c news hx hsee.1 ?_ h1 (by unfold maxLen; exact h63) hbytes hB fun v' w' h2 h3 _ => hK _ _ (h v' w' h2 h3)
    intro j u hu
    rcases Nat.eq_zero_or_pos m with h0 | h0
    · subst h0
      have hn : news = [] := List.eq_nil_of_length_eq_zero (by simpa using hsee.1)
      subst hn
      simp at hu
    · obtain ⟨b, off, hA, _, hc⟩ := hsee.2 h0
      injection hA with hA
      subst hA
      rw [add_at]; exact hc j u hu
theorem own_empty (w : World) (e : TypeId) (size : Nat) : (w.alloc (.cells #[] e)).ownsRow w.heap.size e size (.slice (some ⟨w.heap.size, 0, none⟩) 0 0) 0 [] :=
  ⟨by simp, .inr ⟨w.heap.size, 0, #[], rfl, Nat.le_refl _, heap_alloc_new w _, Nat.le_refl _, Nat.zero_le _, by simp, by simp⟩⟩
theorem rowV_one (l : List Val) : ∀ u ∈ rowV l, u.oneCell' = true := by
  intro u hu
  obtain ⟨v, _, hv⟩ := List.mem_flatMap.1 hu
  exact cellsV_one v u hv
theorem rowV_append (l m : List Val) : rowV (l ++ m) = rowV l ++ rowV m := by simp [rowV]
/-- A slice that came in as nil has no room. -/
theorem OwnB.slice0 {w : World} {B : Nat} {v : Value} {bs : List UInt8} (h : OwnB w B v bs) : ∃ a c, v = .slice a bs.length c ∧ bs.length ≤ c ∧ c ≤ maxLen ∧ (a = none → c = 0) := by
  rcases h.2 with ⟨h, h0⟩ | ⟨g, c, cur, h, _, _, h1, h2, _⟩
  · exact ⟨none, 0, by rw [h, h0], by omega, by unfold maxLen; omega, fun _ => rfl⟩
  · exact ⟨_, c, h, h1, h2, fun h => by cases h⟩
theorem laidOut : laidOutB Try.prog = true := by kernel_rfl
theorem own : ownKnob Try.prog.godebug = none := by kernel_rfl
end Go.Proofs.Ytmaeacklloaeaaa
