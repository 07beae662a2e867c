/- Layer 13: a table's new rows and new parties, in memory. -/
import Derived.Test.YtcjefigcaifmeaaLokU
import Derived.Test.YtcjefigcaifmeaaInv
import Derived.Test.YtcjefigcaifmeaaTail
namespace Go.Proofs.Ytcjefigcaifmeaa
open Go.RowKit Go.Lk
set_option linter.unusedVariables false
set_option linter.unusedSimpArgs false
set_option maxRecDepth 100000

/-- The worlds behind one in which nothing old has changed, as a class of which nothing else is told. -/
theorem below_class (w : World) : ∃ C : World → Prop, C w.drew ∧ Hid (∀ a b, C a → Below a.heap.size a b → C b) ∧ Hid (∀ a, C a → Below w.heap.size w a) :=
  ⟨fun a => Below w.heap.size w a, drew_below w 1, Lib.hid fun a b ha hb => ha.trans (hb.mono ha.size), Lib.hid fun a ha => ha⟩
section
variable {w w' : World} {s s' : Tb} {loc loc' : Nm → Nat}
/-- Two new blocks, and a map that tells of them. -/
theorem Tm.grow (T : Tm w s loc) (a b m : Nm) (hne : loc' a ≠ loc' b) (hA : w.heap.size ≤ loc' a) (hB : w.heap.size ≤ loc' b) (hm : live s m = true)
    (hcl : ∀ n, live s' n = true → n = a ∨ n = b ∨ (live s n = true ∧ loc' n = loc n)) (ho : Off (fun i => i = loc m) w w')
    (hs : ∀ n, n ≠ m → n ≠ a → n ≠ b → live s n = true → Has w s loc n → loc' n = loc n → Has w s' loc' n) (ha : Has w' s' loc' a) (hb : Has w' s' loc' b) (hmm : Has w' s' loc' m) : Tm w' s' loc' := by
  have old : ∀ n, live s n = true → loc n < w.heap.size := fun n hn => (T.has n hn).lt
  refine ⟨fun p q hp hq e => ?_, fun n hn => ?_⟩
  · rcases hcl p hp with rfl | rfl | ⟨h1, h2⟩
    · rcases hcl q hq with rfl | rfl | ⟨h3, h4⟩
      · rfl
      · exact absurd e hne
      · have := old q h3; omega
    · rcases hcl q hq with rfl | rfl | ⟨h3, h4⟩
      · exact absurd e.symm hne
      · rfl
      · have := old q h3; omega
    · rcases hcl q hq with rfl | rfl | ⟨h3, h4⟩
      · have := old p h1; omega
      · have := old p h1; omega
      · exact T.inj p q h1 h3 (by rw [← h2, ← h4]; exact e)
  · by_cases e1 : n = a
    · rw [e1]; exact ha
    · by_cases e2 : n = b
      · rw [e2]; exact hb
      · by_cases e3 : n = m
        · rw [e3]; exact hmm
        · rcases hcl n hn with h | h | ⟨h1, h2⟩
          · exact absurd h e1
          · exact absurd h e2
          · have h3 := hs n e3 e1 e2 h1 (T.has n h1) h2
            refine h3.at (ho.block _ (by rw [h2]; exact old n h1) fun e => e3 (T.inj n m h1 hm ?_))
            rw [← h2]; exact e
def locR (loc : Nm → Nat) (k : Int) (A B : Nat) : Nm → Nat
  | .h j => if j = k then A else loc (.h j)
  | .w j => if j = k then B else loc (.w j)
  | n => loc n
def locP (loc : Nm → Nat) (x : Int) (A B : Nat) : Nm → Nat
  | .p y => if y = x then A else loc (.p y)
  | .ks y => if y = x then B else loc (.ks y)
  | n => loc n
theorem Tm.addRow (T : Tm w s loc) {k : Int} (hr : s.row k = false) (hh : ∀ x, s.h k x = none ∧ s.w k x = none) {A B : Nat} (hA : w.heap.size ≤ A) (hB : w.heap.size ≤ B) (hAB : A ≠ B)
    (ho : Off (fun i => i = loc .rows) w w') (hm : Mv rE w' (loc .rows) (upd (rowF s loc) k (some (some A, some B)))) (ha : Mh w' A fun _ => none) (hb : Mh w' B fun _ => none) : Tm w' { s with row := upd s.row k true } (locR loc k A B) := by
  have eA : locR loc k A B (.h k) = A := if_pos rfl
  have eB : locR loc k A B (.w k) = B := if_pos rfl
  refine T.grow (.h k) (.w k) .rows (by rw [eA, eB]; exact hAB) (by rw [eA]; exact hA) (by rw [eB]; exact hB) rfl (fun n hn => ?_) ho (fun n h1 h2 h3 h4 h5 h6 => ?_) ?_ ?_ ?_
  · cases n with
    | h j =>
      by_cases e : j = k
      · exact .inl (by rw [e])
      · exact .inr (.inr ⟨by have : upd s.row k true j = true := hn; rwa [upd_other _ e] at this, if_neg e⟩)
    | w j =>
      by_cases e : j = k
      · exact .inr (.inl (by rw [e]))
      · exact .inr (.inr ⟨by have : upd s.row k true j = true := hn; rwa [upd_other _ e] at this, if_neg e⟩)
    | _ => exact .inr (.inr ⟨hn, rfl⟩)
  · cases n with
    | rows => exact absurd rfl h1
    | h j =>
      show Mh w (locR loc k A B (.h j)) (s.h j)
      rw [h6]; exact h5
    | w j =>
      show Mh w (locR loc k A B (.w j)) (s.w j)
      rw [h6]; exact h5
    | _ => exact h5
  · show Mh w' (locR loc k A B (.h k)) (s.h k)
    rw [eA, show s.h k = fun _ => none from funext fun x => (hh x).1]
    exact ha
  · show Mh w' (locR loc k A B (.w k)) (s.w k)
    rw [eB, show s.w k = fun _ => none from funext fun x => (hh x).2]
    exact hb
  · show Mv rE w' (loc .rows) (rowF { s with row := upd s.row k true } (locR loc k A B))
    refine hm.congr fun j => ?_
    unfold rowF
    by_cases e : j = k
    · subst e
      rw [upd_same]
      simp only [upd_same, if_true, eA, eB]
    · rw [upd_other _ e]
      have e1 : locR loc k A B (.h j) = loc (.h j) := if_neg e
      have e2 : locR loc k A B (.w j) = loc (.w j) := if_neg e
      simp only [upd_other _ e, e1, e2]
theorem Tm.addPar (T : Tm w s loc) {x : Int} (hr : s.inn x = false) (hk : ∀ k, s.ks x k = false) (hw : s.waits x = false) (hd : s.dead x = false) {A B : Nat} (hA : w.heap.size ≤ A) (hB : w.heap.size ≤ B) (hAB : A ≠ B)
    (ho : Off (fun i => i = loc .pars) w w') (hm : Mv pE w' (loc .pars) (upd (parF s loc) x (some (some A)))) (ha : Whole w' A 69 #[.map (some B), .bool false, .bool false]) (hb : Mv uE w' B fun _ => none) : Tm w' { s with inn := upd s.inn x true } (locP loc x A B) := by
  have eA : locP loc x A B (.p x) = A := if_pos rfl
  have eB : locP loc x A B (.ks x) = B := if_pos rfl
  refine T.grow (.p x) (.ks x) .pars (by rw [eA, eB]; exact hAB) (by rw [eA]; exact hA) (by rw [eB]; exact hB) rfl (fun n hn => ?_) ho (fun n h1 h2 h3 h4 h5 h6 => ?_) ?_ ?_ ?_
  · cases n with
    | p j =>
      by_cases e : j = x
      · exact .inl (by rw [e])
      · exact .inr (.inr ⟨by have : upd s.inn x true j = true := hn; rwa [upd_other _ e] at this, if_neg e⟩)
    | ks j =>
      by_cases e : j = x
      · exact .inr (.inl (by rw [e]))
      · exact .inr (.inr ⟨by have : upd s.inn x true j = true := hn; rwa [upd_other _ e] at this, if_neg e⟩)
    | _ => exact .inr (.inr ⟨hn, rfl⟩)
  · cases n with
    | pars => exact absurd rfl h1
    | p j =>
      have e : j ≠ x := fun e => h2 (by rw [e])
      show Whole w (locP loc x A B (.p j)) 69 #[.map (some (locP loc x A B (.ks j))), .bool (s.waits j), .bool (s.dead j)]
      rw [h6, show locP loc x A B (.ks j) = loc (.ks j) from if_neg e]; exact h5
    | ks j =>
      show Mv uE w (locP loc x A B (.ks j)) (ksF s j)
      rw [h6]; exact h5
    | _ => exact h5
  · show Whole w' (locP loc x A B (.p x)) 69 #[.map (some (locP loc x A B (.ks x))), .bool (s.waits x), .bool (s.dead x)]
    rw [eA, eB, hw, hd]
    exact ha
  · show Mv uE w' (locP loc x A B (.ks x)) (ksF s x)
    rw [eB]
    refine hb.congr fun k => ?_
    unfold ksF uF
    rw [hk k]; rfl
  · show Mv pE w' (loc .pars) (parF { s with inn := upd s.inn x true } (locP loc x A B))
    refine hm.congr fun j => ?_
    unfold parF
    by_cases e : j = x
    · subst e
      rw [upd_same]
      simp only [upd_same, if_true, eA]
    · rw [upd_other _ e]
      have e1 : locP loc x A B (.p j) = loc (.p j) := if_neg e
      simp only [upd_other _ e, e1]
theorem uF_upd (g : Int → Bool) (k : Int) : upd (uF g) k (some ()) = uF (upd g k true) := by
  funext j
  unfold uF upd
  split <;> simp_all
theorem keys_few {α : Type} {f : Int → Option α} (hf : Fin1 f) (h : ∀ k, (f k).isSome = true → isK k = true) : (supp f).length ≤ 8192 := by
  have := len_sub (supp_rises hf).nodup (m := (List.range 8192).map fun (n : Nat) => (n : Int)) fun k hk => by
    have := (isK_iff k).1 (h k ((supp_mem hf k).1 hk))
    exact List.mem_map.2 ⟨k.toNat, List.mem_range.2 (by omega), by omega⟩
  simpa using this
end
end Go.Proofs.Ytcjefigcaifmeaa
