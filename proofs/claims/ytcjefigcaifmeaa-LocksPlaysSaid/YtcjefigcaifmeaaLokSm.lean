/- Locks: rows told that are the same by the document's words; rows that are written over; what LocksOwn needs. -/
import Derived.Test.YtcjefigcaifmeaaLokP2
namespace Go.Proofs.Ytcjefigcaifmeaa
open Go.ChangeShapes Go.WideShapes Go.ChangeAt Go.RowKit Go.Lk
set_option linter.unusedVariables false
set_option linter.unusedSimpArgs false
set_option maxRecDepth 100000
def encN (n : Int) : List Value := [.int .i64 n]
theorem encN_len (n : Int) : (encN n).length = 1 := rfl
theorem flat_encN (l : List Int) : flat encN l = l.map (Value.int .i64) := by
  unfold flat encN
  induction l with
  | nil => rfl
  | cons a l ih => simp [ih]
set_option maxHeartbeats 2000000 in
theorem rints_any (A : Option Addr) (cap : Nat) (A' : Option Addr) (cap' : Nat) (l : List Int) (w : World) (hr : Sees w w.heap.size 1 A l.length (flat encN l)) (hr' : Sees w w.heap.size 1 A' l.length (flat encN l)) (hc : l.length ≤ cap) (hc' : l.length ≤ cap') (hl : l.length ≤ 9223372036854775807) :
    Calls Try.prog 8 #[.slice A l.length cap, .slice A' l.length cap'] w fun e w' => e = .returned (.bool true) ∧ Below w.heap.size w w' := by
  have HR := Lib.hid hr
  have HR' := Lib.hid hr'
  clear hr hr'
  go_enter Try.func8, Try.ntmps8
  go_wp2_with fail
  go_loopw [5] (fun i wr => ∃ k : Nat, k ≤ l.length ∧ i = .int .i64 (k : Int) ∧ Below w.heap.size w wr) (fun i _ => l.length - (intOf i).toNat)
  case atStart => exact ⟨0, by omega, rfl, Below.refl _ _⟩
  case round =>
    obtain ⟨k, hk, rfl, hb⟩ := hrel
    have HB := Lib.hid hb
    clear hb
    by_cases hlt : k < l.length
    · obtain ⟨v, hv⟩ : ∃ v, l[k]? = some v := ⟨_, List.getElem?_eq_getElem hlt⟩
      obtain ⟨b0, off, rfl, hb0, h0⟩ := (HR.out.below HB.out).item encN_len (by omega) k v hv
      obtain ⟨b1, off1, rfl, hb1, h1⟩ := (HR'.out.below HB.out).item encN_len (by omega) k v hv
      have g0 := h0 0 _ rfl
      have k0 := h1 0 _ rfl
      rw [Nat.mul_one] at g0 k0
      rw [Nat.add_zero] at g0 k0
      have hkl : (k : Int) < (l.length : Int) := by omega
      clear hv h0 h1
      go_wp2_with fail
      go_quiet (fail)
      go_wp2_with fail
      go_roundw
      case rel => exact ⟨k + 1, by omega, by go_num, below_drewN HB.out _⟩
      case measure => simp [intOf]; omega
    · obtain rfl : k = l.length := by omega
      go_wp2_with fail
      go_ret
      exact ⟨rfl, HB.out⟩
set_option maxHeartbeats 2000000 in
theorem rgrants_any (A : Option Addr) (cap : Nat) (A' : Option Addr) (cap' : Nat) (l : List (Int × Int)) (w : World) (hr : Sees w w.heap.size 2 A l.length (flat encG l)) (hr' : Sees w w.heap.size 2 A' l.length (flat encG l)) (hc : l.length ≤ cap) (hc' : l.length ≤ cap') (hl : l.length ≤ 9223372036854775807) :
    Calls Try.prog 9 #[.slice A l.length cap, .slice A' l.length cap'] w fun e w' => e = .returned (.bool true) ∧ Below w.heap.size w w' := by
  have HR := Lib.hid hr
  have HR' := Lib.hid hr'
  clear hr hr'
  go_enter Try.func9, Try.ntmps9
  go_wp2_with fail
  go_loopw [5] (fun i wr => ∃ k : Nat, k ≤ l.length ∧ i = .int .i64 (k : Int) ∧ Below w.heap.size w wr) (fun i _ => l.length - (intOf i).toNat)
  case atStart => exact ⟨0, by omega, rfl, Below.refl _ _⟩
  case round =>
    obtain ⟨k, hk, rfl, hb⟩ := hrel
    have HB := Lib.hid hb
    clear hb
    by_cases hlt : k < l.length
    · obtain ⟨v, hv⟩ : ∃ v, l[k]? = some v := ⟨_, List.getElem?_eq_getElem hlt⟩
      obtain ⟨b0, off, rfl, hb0, h0⟩ := (HR.out.below HB.out).item encG_len (by omega) k v hv
      obtain ⟨b1, off1, rfl, hb1, h1⟩ := (HR'.out.below HB.out).item encG_len (by omega) k v hv
      obtain ⟨v1, v2⟩ := v
      have g0 := h0 0 _ rfl
      have g1 := h0 1 _ rfl
      have k0 := h1 0 _ rfl
      have k1 := h1 1 _ rfl
      rw [Nat.add_zero] at g0 k0
      have hkl : (k : Int) < (l.length : Int) := by omega
      clear hv h0 h1
      go_wp2_with fail
      go_quiet (fail)
      go_wp2_with fail
      go_roundw
      case rel => exact ⟨k + 1, by omega, by go_num, below_drewN HB.out _⟩
      case measure => simp [intOf]; omega
    · obtain rfl : k = l.length := by omega
      go_wp2_with fail
      go_ret
      exact ⟨rfl, HB.out⟩
set_option maxHeartbeats 2000000 in
theorem rholds_any (A : Option Addr) (cap : Nat) (A' : Option Addr) (cap' : Nat) (vl : Int → Bool) (l : List Int) (w : World) (hr : Sees w w.heap.size 2 A l.length (flat (encH vl) l)) (hr' : Sees w w.heap.size 2 A' l.length (flat (encH vl) l)) (hc : l.length ≤ cap) (hc' : l.length ≤ cap') (hl : l.length ≤ 9223372036854775807) :
    Calls Try.prog 27 #[.slice A l.length cap, .slice A' l.length cap'] w fun e w' => e = .returned (.bool true) ∧ Below w.heap.size w w' := by
  have HR := Lib.hid hr
  have HR' := Lib.hid hr'
  clear hr hr'
  go_enter Try.func27, Try.ntmps27
  go_wp2_with fail
  go_loopw [5] (fun i wr => ∃ k : Nat, k ≤ l.length ∧ i = .int .i64 (k : Int) ∧ Below w.heap.size w wr) (fun i _ => l.length - (intOf i).toNat)
  case atStart => exact ⟨0, by omega, rfl, Below.refl _ _⟩
  case round =>
    obtain ⟨k, hk, rfl, hb⟩ := hrel
    have HB := Lib.hid hb
    clear hb
    by_cases hlt : k < l.length
    · obtain ⟨v, hv⟩ : ∃ v, l[k]? = some v := ⟨_, List.getElem?_eq_getElem hlt⟩
      obtain ⟨b0, off, rfl, hb0, h0⟩ := (HR.out.below HB.out).item (encH_len vl) (by omega) k v hv
      obtain ⟨b1, off1, rfl, hb1, h1⟩ := (HR'.out.below HB.out).item (encH_len vl) (by omega) k v hv
      have g0 := h0 0 _ rfl
      have g1 := h0 1 _ rfl
      have k0 := h1 0 _ rfl
      have k1 := h1 1 _ rfl
      rw [Nat.add_zero] at g0 k0
      have hkl : (k : Int) < (l.length : Int) := by omega
      clear hv h0 h1
      go_wp2_with fail
      go_quiet (fail)
      go_wp2_with fail
      go_roundw
      case rel => exact ⟨k + 1, by omega, by go_num, below_drewN HB.out _⟩
      case measure => simp [intOf]; omega
    · obtain rfl : k = l.length := by omega
      go_wp2_with fail
      go_ret
      exact ⟨rfl, HB.out⟩

theorem own_room {w : World} {B size n cap : Nat} {e : TypeId} {A : Option Addr} {xs : List Value} (h : w.ownsRow B e size (.slice A n cap) n xs) : n ≤ cap := by
  obtain ⟨_, _, e, h1, h2, _⟩ := own_slice0 h
  injection e with _ _ e
  omega
/-- The row (A, k) lies in a block of cells of its own, if it has an item. -/
def KN (W w : World) (t : TypeId) (size : Nat) (A : Option Addr) (k : Nat) : Prop := k = 0 ∨ ∃ q cs, A = some ⟨q, 0, none⟩ ∧ W.heap.size ≤ q ∧ Whole w q t cs ∧ k * size ≤ cs.size
section
variable {W w w' : World} {t : TypeId} {size k : Nat} {A : Option Addr}
theorem KN.call (h : KN W w t size A k) (hb : Below w.heap.size w w') : KN W w' t size A k := by
  rcases h with h | ⟨q, cs, h1, h2, h3, h4⟩
  · exact .inl h
  · exact .inr ⟨q, cs, h1, h2, h3.below hb h3.lt, h4⟩
theorem KN.set (h : KN W w t size A k) (x i : Nat) (u : Value) : KN W (w.setCell ⟨x, i, none⟩ u) t size A k := by
  rcases h with h | ⟨q, cs, h1, h2, h3, h4⟩
  · exact .inl h
  · by_cases e : q = x
    · subst e
      exact .inr ⟨q, _, h1, h2, h3.set i u, by simpa using h4⟩
    · exact .inr ⟨q, cs, h1, h2, h3.away (p := ⟨x, i, none⟩) e u, h4⟩
theorem KN.own {B cap : Nat} {xs : List Value} (ho : w.ownsRow B t size (.slice A k cap) k xs) (hB : W.heap.size ≤ B) : KN W w t size A k := by
  rcases ho.2 with ⟨h0, h1⟩ | ⟨g', cap', cur, hv, hb, hg, h1, h2, h3, h4⟩
  · exact .inl h1
  · simp only [Value.slice.injEq, true_and] at hv
    obtain ⟨rfl, rfl⟩ := hv
    exact .inr ⟨g', cur, rfl, by omega, hg, by rw [h3]; exact Nat.mul_le_mul_right _ h1⟩
theorem KN.at (h : KN W w t size A k) (h0 : 0 < k) : ∃ q cs, A = some ⟨q, 0, none⟩ ∧ W.heap.size ≤ q ∧ Whole w q t cs ∧ k * size ≤ cs.size := by
  rcases h with h | h
  · omega
  · exact h
theorem whole_at {q : Nat} {cs : Array Value} (h : Whole w q t cs) {i : Nat} (hi : i < cs.size) : (∃ u, w.cell? ⟨q, i, none⟩ = some u) ∧ w.frozen? ⟨q, i, none⟩ = false ∧ q < w.heap.size :=
  ⟨⟨_, (h.cell i).trans (Array.getElem?_eq_getElem hi)⟩, h.free i, h.lt⟩
variable {L : List Row} {g : Nat} {s : Tb} {g2 : Nat} {s2 : Tb} {n : Nat}
/-- A block that is neither a table's nor a known one is told something. -/
theorem Pk2.setK (h : Pk2 W w L g s g2 s2 n) {q : Nat} {cs : Array Value} (hq : Whole w q t cs) (ht : Okt t) (hL : ∀ r ∈ L, r.2.1 ≠ t) (hW : W.heap.size ≤ q) (i : Nat) (u : Value) : Pk2 W (w.setCell ⟨q, i, none⟩ u) L g s g2 s2 n :=
  ((h.row hq ht).set0 hW (fun r hr => whole_unlike (h.st.knows r hr) hq (hL r hr)) i u).keep fun r hr => List.mem_cons_of_mem _ hr
/-- A row that was told, among the known blocks. -/
theorem Pk2.tell (h : Pk2 W w L g s g2 s2 n) {B cap : Nat} {xs : List Value} (ho : w.ownsRow B t size (.slice A k cap) k xs) (ht : Okt t) (hB : W.heap.size ≤ B) :
    ∃ Lr : List Row, Pk2 W w (Lr ++ L) g s g2 s2 n ∧ Hid (∀ y, (∀ r ∈ Lr, Whole y r.1 r.2.1 r.2.2) → Sees y y.heap.size size A k xs ∧ KN W y t size A k) := by
  have hxl := ho.1
  rcases h.told ho ht with h0 | ⟨q, cs, rfl, h1, h2, h3, h4⟩
  · refine ⟨[], h, Lib.hid fun y hy => ⟨?_, .inl h0⟩⟩
    subst h0
    have : xs = [] := List.eq_nil_of_length_eq_zero (by simpa using hxl)
    subst this
    exact Sees.nothing _ _ _ _
  · refine ⟨[(q, t, cs)], h4, Lib.hid fun y hy => ?_⟩
    have hw : Whole y q t cs := hy _ (List.mem_singleton.2 rfl)
    refine ⟨⟨hxl, fun hk => ⟨q, 0, rfl, hw.lt, fun j u hu => ?_⟩⟩, .inr ⟨q, cs, rfl, by omega, hw, h2⟩⟩
    rw [Nat.zero_add, hw.cell j, ← Array.getElem?_toList]
    rw [← h3] at hu
    have hj : j < k * size := by
      have := (List.getElem?_eq_some_iff.1 hu).1
      simp at this
      omega
    rwa [List.getElem?_take_of_lt hj] at hu
end
theorem twoT {a b : Nat} {c d : Array Value} {t : TypeId} (ht : 34 ≠ t) : ∀ r ∈ ([(a, 34, c), (b, 34, d)] : List Row), r.2.1 ≠ t := fun r hr => by
  simp only [List.mem_cons, List.not_mem_nil, or_false] at hr
  rcases hr with rfl | rfl <;> exact ht
/-- Behind a world four rows of holds are told, each behind its call: of both tables, who holds, and who waits. -/
structure H4 (wr y : World) (S1 S2 : List Int) (f1 f2 : Int → Bool) (A1 : Option Addr) (c1 : Nat) (A2 : Option Addr) (c2 : Nat) (A3 : Option Addr) (c3 : Nat) (A4 : Option Addr) (c4 : Nat) (a b c d : Bool) : Prop where
  bel : Below wr.heap.size wr y
  h1 : a = true → Sees y y.heap.size 2 A1 S1.length (flat (encH f1) S1) ∧ S1.length ≤ c1
  h2 : b = true → Sees y y.heap.size 2 A2 S1.length (flat (encH f1) S1) ∧ S1.length ≤ c2
  h3 : c = true → Sees y y.heap.size 2 A3 S2.length (flat (encH f2) S2) ∧ S2.length ≤ c3
  h4 : d = true → Sees y y.heap.size 2 A4 S2.length (flat (encH f2) S2) ∧ S2.length ≤ c4
section
variable {wr y y' : World} {S1 S2 : List Int} {f1 f2 : Int → Bool} {A1 A2 A3 A4 : Option Addr} {c1 c2 c3 c4 : Nat} {a b c d : Bool}
theorem H4.start (wr : World) (hb : Below wr.heap.size wr y) : H4 wr y S1 S2 f1 f2 none 0 none 0 none 0 none 0 false false false false := ⟨hb, fun h => (by cases h), fun h => (by cases h), fun h => (by cases h), fun h => by cases h⟩
theorem H4.call (k : H4 wr y S1 S2 f1 f2 A1 c1 A2 c2 A3 c3 A4 c4 a b c d) (hb : Below y.heap.size y y') : H4 wr y' S1 S2 f1 f2 A1 c1 A2 c2 A3 c3 A4 c4 a b c d :=
  ⟨k.bel.trans (hb.mono k.bel.size), fun e => ⟨((k.h1 e).1.below hb).more hb.size, (k.h1 e).2⟩, fun e => ⟨((k.h2 e).1.below hb).more hb.size, (k.h2 e).2⟩, fun e => ⟨((k.h3 e).1.below hb).more hb.size, (k.h3 e).2⟩, fun e => ⟨((k.h4 e).1.below hb).more hb.size, (k.h4 e).2⟩⟩
theorem H4.row1 (k : H4 wr y S1 S2 f1 f2 A1 c1 A2 c2 A3 c3 A4 c4 a b c d) (hb : Below y.heap.size y y') {A : Option Addr} {cp : Nat} (hs : Sees y' y'.heap.size 2 A S1.length (flat (encH f1) S1)) (hc : S1.length ≤ cp) : H4 wr y' S1 S2 f1 f2 A cp A2 c2 A3 c3 A4 c4 true b c d :=
  ⟨(k.call hb).bel, fun _ => ⟨hs, hc⟩, (k.call hb).h2, (k.call hb).h3, (k.call hb).h4⟩
theorem H4.row2 (k : H4 wr y S1 S2 f1 f2 A1 c1 A2 c2 A3 c3 A4 c4 a b c d) (hb : Below y.heap.size y y') {A : Option Addr} {cp : Nat} (hs : Sees y' y'.heap.size 2 A S1.length (flat (encH f1) S1)) (hc : S1.length ≤ cp) : H4 wr y' S1 S2 f1 f2 A1 c1 A cp A3 c3 A4 c4 a true c d :=
  ⟨(k.call hb).bel, (k.call hb).h1, fun _ => ⟨hs, hc⟩, (k.call hb).h3, (k.call hb).h4⟩
theorem H4.row3 (k : H4 wr y S1 S2 f1 f2 A1 c1 A2 c2 A3 c3 A4 c4 a b c d) (hb : Below y.heap.size y y') {A : Option Addr} {cp : Nat} (hs : Sees y' y'.heap.size 2 A S2.length (flat (encH f2) S2)) (hc : S2.length ≤ cp) : H4 wr y' S1 S2 f1 f2 A1 c1 A2 c2 A cp A4 c4 a b true d :=
  ⟨(k.call hb).bel, (k.call hb).h1, (k.call hb).h2, fun _ => ⟨hs, hc⟩, (k.call hb).h4⟩
theorem H4.row4 (k : H4 wr y S1 S2 f1 f2 A1 c1 A2 c2 A3 c3 A4 c4 a b c d) (hb : Below y.heap.size y y') {A : Option Addr} {cp : Nat} (hs : Sees y' y'.heap.size 2 A S2.length (flat (encH f2) S2)) (hc : S2.length ≤ cp) : H4 wr y' S1 S2 f1 f2 A1 c1 A2 c2 A3 c3 A cp a b c true :=
  ⟨(k.call hb).bel, (k.call hb).h1, (k.call hb).h2, (k.call hb).h3, fun _ => ⟨hs, hc⟩⟩
end
end Go.Proofs.Ytcjefigcaifmeaa
