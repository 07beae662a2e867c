/- Words that the laws of layer 9 share: rows that were told, changed, appended to. -/
import Derived.Test.YtmbednikbdfnmaaPostO
import Derived.Laws.StructEq
namespace Go.Po
variable {α : Type}
theorem copy_sent (n : Nt α) (i : Int) : (n.copy i).1.sent = n.sent ∧ (n.copy i).1.nodes = n.nodes ∧ (n.copy i).1.off = n.off ∧ (n.copy i).1.puts = n.puts := by
  unfold Nt.copy
  split
  · split
    · exact ⟨rfl, rfl, rfl, rfl⟩
    · unfold Nt.put; split <;> exact ⟨rfl, rfl, rfl, rfl⟩
  · exact ⟨rfl, rfl, rfl, rfl⟩
theorem send_same (n : Nt α) (a b : Int) (m : α) : (n.send a b m).1.nodes = n.nodes ∧ (n.send a b m).1.off = n.off ∧ (n.send a b m).1.puts = n.puts := by
  unfold Nt.send
  split
  · exact ⟨rfl, rfl, rfl⟩
  · split <;> exact ⟨rfl, rfl, rfl⟩
theorem drop_same (n : Nt α) (i : Nat) : (n.drop i).sent = n.sent ∧ (n.drop i).nodes = n.nodes ∧ (n.drop i).off = n.off ∧ (n.drop i).puts = n.puts := ⟨rfl, rfl, rfl, rfl⟩
/-- Where the next letter that stays stands. -/
theorem filter_at (q : Lt α → Bool) (l : List (Lt α)) (c : Nat) (y : Lt α) (hy : l[c]? = some y) (hq : q y = true) : (l.filter q)[((l.take c).filter q).length]? = some y := by
  obtain ⟨h1, h2⟩ := List.getElem?_eq_some_iff.1 hy
  have e : l.filter q = (l.take c).filter q ++ (l.drop c).filter q := by rw [← List.filter_append, List.take_append_drop]
  rw [e, List.getElem?_append_right (Nat.le_refl _), Nat.sub_self, List.drop_eq_getElem_cons h1, h2, List.filter_cons_of_pos hq]
  rfl
theorem filter_next (q : Lt α → Bool) (l : List (Lt α)) (c : Nat) (y : Lt α) (hy : l[c]? = some y) : (l.take (c + 1)).filter q = if q y = true then (l.take c).filter q ++ [y] else (l.take c).filter q := by
  rw [List.take_add_one, hy, List.filter_append]
  by_cases h : q y = true <;> simp [h]
theorem filter_le (q : Lt α → Bool) (l : List (Lt α)) (c : Nat) : ((l.take c).filter q).length ≤ c := by
  have := List.length_filter_le q (l.take c)
  rw [List.length_take] at this
  omega
end Go.Po
namespace Go.Proofs.Ytmbednikbdfnmaa
open Go.ChangeShapes Go.WideShapes Go.ChangeAt Go.RowKit Go.Po
set_option linter.unusedVariables false
set_option linter.unusedSimpArgs false
set_option maxRecDepth 100000

section
variable {α : Type} {t e : TypeId} {p : α → Value} {g : Nat} {W w w' : World} {L : List Row} {n n' : Nt α}
/-- The first block that is known has turned, and new blocks have come. -/
theorem Lp.grown {x : Nat} {t' : TypeId} {cs : Array Value} (h : Lp t e p W w ((x, t', cs) :: L) g n) (hx : W.heap.size ≤ x) (hd : ∀ r ∈ L, r.1 ≠ x) (hg : w.grownBy w' (some x)) : Lp t e p W w' L g n := by
  obtain ⟨F, ⟨mb, v, y⟩, h1, h2⟩ := h.net
  refine ⟨⟨h.st.below.trans ⟨hg.os, hg.tape, hg.output, hg.size, fun k hk => hg.block k (Nat.lt_of_lt_of_le hk h.st.below.size) fun e => by injection e with e; omega⟩, fun r hr => ?_⟩, F, ⟨mb, v, y.away hg.size fun b hb => hg.block b (y.low b hb) fun e => ?_⟩, h1, fun r hr => h2 r (List.mem_cons_of_mem _ hr)⟩
  · exact (h.st.knows r (List.mem_cons_of_mem _ hr)).grown hg fun e => hd r hr (by injection e)
  · injection e with e
    subst e
    exact h2 _ (List.mem_cons_self ..) hb
/-- A row whose block is known whole. -/
theorem own_of_whole {B b n cap size : Nat} {cs : Array Value} (h : Whole w b e cs) (hB : B ≤ b) (hn : n ≤ cap) (hc : cap ≤ 9223372036854775807) (hs : cs.size = cap * size) : w.ownsRow B e size (.slice (some ⟨b, 0, none⟩) n cap) n (cs.toList.take (n * size)) :=
  ⟨by rw [List.length_take, Array.length_toList, hs]; exact Nat.min_eq_left (Nat.mul_le_mul_right _ hn), .inr ⟨b, cap, cs, rfl, hB, h, hn, hc, hs, rfl⟩⟩
theorem whole_size {B b n cap size : Nat} {cs : Array Value} {xs : List Value} (h : Whole w b e cs) (ho : w.ownsRow B e size (.slice (some ⟨b, 0, none⟩) n cap) n xs) : cs.size = cap * size := by
  rcases ho.2 with ⟨hn, h0⟩ | ⟨g', cap', cur, hv, hb, hg, h2, h3, h4, h5⟩
  · simp at hn
  · simp only [Value.slice.injEq, Option.some.injEq, Addr.mk.injEq, and_true, true_and] at hv
    obtain ⟨rfl, rfl⟩ := hv
    have := (show w.heap[b]? = _ from h).symm.trans hg
    injection this with this
    injection this with h1
    rw [h1]; exact h4
theorem whole_at {b i : Nat} {cs : Array Value} (h : Whole w b e cs) (hi : i < cs.size) : w.cell? ⟨b, i, none⟩ = some cs[i] ∧ w.frozen? ⟨b, i, none⟩ = false := ⟨(h.cell i).trans (Array.getElem?_eq_getElem hi), h.free i⟩
end
/-- Four cells of the first block that is known are set. -/
theorem Lp.set4 {α : Type} {t e : TypeId} {p : α → Value} {g : Nat} {W w : World} {L : List Row} {n : Nt α} {x : Nat} {t' : TypeId} {cs : Array Value} (h : Lp t e p W w ((x, t', cs) :: L) g n) (hx : W.heap.size ≤ x) (hd : ∀ r ∈ L, r.1 ≠ x) (i : Nat) (a b c d : Value) :
    ∃ cs', cs'.size = cs.size ∧ Lp t e p W ((((w.setCell ⟨x, i, none⟩ a).setCell ⟨x, i + 1, none⟩ b).setCell ⟨x, i + 2, none⟩ c).setCell ⟨x, i + 3, none⟩ d) ((x, t', cs') :: L) g n :=
  ⟨_, by simp, (((h.set0 hx hd i a).set0 hx hd (i + 1) b).set0 hx hd (i + 2) c).set0 hx hd (i + 3) d⟩
/-- The arms of a drawn region that only reads, in one world. -/
theorem row_some {w : World} {B k size cap : Nat} {e : TypeId} {A : Option Addr} {xs : List Value} (ho : w.ownsRow B e size (.slice A k cap) k xs) (hk : 0 < k) : ∃ b, A = some ⟨b, 0, none⟩ := by
  rcases ho.2 with ⟨h, h0⟩ | ⟨g', cap', cur, h, -⟩
  · omega
  · simp only [Value.slice.injEq, true_and] at h; exact ⟨g', h.1⟩
/-- The row (A, m, cap) lies in the block of Rw, which is none of W nor of R. -/
def Mine (W : World) (Rw R : List Row) (A : Option Addr) (cap m : Nat) : Prop :=
  (A = none ∧ m = 0 ∧ cap = 0 ∧ Rw = []) ∨ ∃ b cs, A = some ⟨b, 0, none⟩ ∧ Rw = [(b, 54, cs)] ∧ W.heap.size ≤ b ∧ (∀ r ∈ R, r.1 ≠ b) ∧ cs.size = cap * 4 ∧ m ≤ cap ∧ cap ≤ 9223372036854775807
section
variable {W w w' : World} {Rw R : List Row} {A : Option Addr} {cap m g : Nat} {n : Nt (List UInt8)}
theorem Mine.own (h : Mine W Rw R A cap m) (hk : Knows w Rw) : ∃ xs, w.ownsRow 0 54 4 (.slice A m cap) m xs := by
  rcases h with ⟨rfl, rfl, rfl, rfl⟩ | ⟨b, cs, rfl, rfl, h1, h2, h3, h4, h5⟩
  · exact ⟨[], World.ownsRow_nil _ _ _ _⟩
  · exact ⟨_, own_of_whole (hk _ (List.mem_singleton.2 rfl)) (Nat.zero_le _) h4 h5 h3⟩
theorem Mine.store (h : Mine W Rw R A cap m) (hl : sLp W w (Rw ++ R) g n) {k : Nat} (hk : k < m) : ∃ b, A = some ⟨b, 0, none⟩ ∧
    (∃ u, w.cell? ⟨b, k * 4, none⟩ = some u) ∧ (∃ u, w.cell? ⟨b, k * 4 + 1, none⟩ = some u) ∧ (∃ u, w.cell? ⟨b, k * 4 + 2, none⟩ = some u) ∧ (∃ u, w.cell? ⟨b, k * 4 + 3, none⟩ = some u) ∧
    (w.frozen? ⟨b, k * 4, none⟩ = false ∧ w.frozen? ⟨b, k * 4 + 1, none⟩ = false ∧ w.frozen? ⟨b, k * 4 + 2, none⟩ = false ∧ w.frozen? ⟨b, k * 4 + 3, none⟩ = false) ∧
    ∀ u0 u1 u2 u3, ∃ Rw', Mine W Rw' R A cap m ∧ sLp W ((((w.setCell ⟨b, k * 4, none⟩ u0).setCell ⟨b, k * 4 + 1, none⟩ u1).setCell ⟨b, k * 4 + 2, none⟩ u2).setCell ⟨b, k * 4 + 3, none⟩ u3) (Rw' ++ R) g n := by
  rcases h with ⟨rfl, rfl, rfl, rfl⟩ | ⟨b, cs, rfl, rfl, h1, h2, h3, h4, h5⟩
  · omega
  · have hw : Whole w b 54 cs := hl.knows (b, 54, cs) (by simp)
    have c0 := whole_at hw (i := k * 4) (by omega)
    have c1 := whole_at hw (i := k * 4 + 1) (by omega)
    have c2 := whole_at hw (i := k * 4 + 2) (by omega)
    have c3 := whole_at hw (i := k * 4 + 3) (by omega)
    refine ⟨b, rfl, ⟨_, c0.1⟩, ⟨_, c1.1⟩, ⟨_, c2.1⟩, ⟨_, c3.1⟩, ⟨c0.2, c1.2, c2.2, c3.2⟩, fun u0 u1 u2 u3 => ?_⟩
    obtain ⟨cs', hz, hl'⟩ := Lp.set4 (L := R) (by simpa using hl) h1 h2 (k * 4) u0 u1 u2 u3
    exact ⟨[(b, 54, cs')], .inr ⟨b, cs', rfl, rfl, h1, h2, by rw [hz]; exact h3, h4, h5⟩, by simpa using hl'⟩
theorem Mine.append (h : Mine W Rw R A cap m) (hl : sLp W w (Rw ++ R) g n) (hg : w.grownBy w' (Value.slice A m cap).ownBlock) : sLp W w' R g n := by
  rcases h with ⟨rfl, rfl, rfl, rfl⟩ | ⟨b, cs, rfl, rfl, h1, h2, h3, h4, h5⟩
  · exact Lp.call (by simpa using hl) ⟨hg.os, hg.tape, hg.output, hg.size, fun k hk => hg.block k hk (by simp [Value.ownBlock])⟩
  · exact Lp.grown (by simpa using hl) h1 h2 hg
/-- A row that was told. -/
theorem Mine.told {L R1 R2 : List Row} {w1 w2 : World} {xs : List Value} (hl : sLp W w2 (R2 ++ R1) g n) (hW : W.heap.size ≤ w1.heap.size) (hR2 : ∀ r ∈ R2, w1.heap.size ≤ r.1) (hR1 : ∀ r ∈ R1, W.heap.size ≤ r.1 ∧ r.1 < w1.heap.size) (hA : A = none → cap = 0) (hc : m ≤ cap) (htop : cap ≤ 9223372036854775807)
    (hown : ∀ w2, Knows w2 R1 → w2.ownsRow 0 54 4 (.slice A m cap) m xs) (hlast : ∀ b, A = some b → ∃ cs, R1 = [(b.block, 54, cs)]) : ∃ Rw, Mine W Rw R2 A cap m ∧ sLp W w2 (Rw ++ R2) g n := by
  have ho := hown w2 (fun r hr => hl.knows r (List.mem_append.2 (.inr hr)))
  cases A with
  | none =>
    have := hA rfl
    exact ⟨[], .inl ⟨rfl, by omega, this, rfl⟩, hl.few (fun r hr => List.mem_append.2 (.inl (by simpa using hr)))⟩
  | some a =>
    obtain ⟨cs, rfl⟩ := hlast a rfl
    obtain ⟨b, hb⟩ : ∃ b, a = ⟨b, 0, none⟩ := by
      rcases ho.2 with ⟨h, h0⟩ | ⟨g', cap', cur, h, -⟩
      · simp at h
      · simp only [Value.slice.injEq, true_and] at h; exact ⟨g', by injection h.1⟩
    subst hb
    have hw := hl.knows (b, 54, cs) (by simp)
    have hb1 := hR1 (b, 54, cs) (by simp)
    refine ⟨_, .inr ⟨b, cs, rfl, rfl, hb1.1, fun r hr => ?_, whole_size hw ho, hc, htop⟩, hl.few (fun r hr => ?_)⟩
    · have := hR2 r hr
      have := hb1.2
      simp only at this
      omega
    · rcases List.mem_append.1 hr with hr | hr
      · exact List.mem_append.2 (.inr hr)
      · exact List.mem_append.2 (.inl hr)
end
theorem low_two (a : Int) (h : 0 ≤ a ∧ a ≤ 255) : 0 ≤ wrap64 (bits BinOp.and IntKind.u8 a 3) ∧ wrap64 (bits BinOp.and IntKind.u8 a 3) ≤ 3 := by
  have key : ∀ n : Fin 256, 0 ≤ wrap64 (bits BinOp.and IntKind.u8 ((n.val : Nat) : Int) 3) ∧ wrap64 (bits BinOp.and IntKind.u8 ((n.val : Nat) : Int) 3) ≤ 3 := by decide +kernel
  have := key ⟨a.toNat, by omega⟩
  simp only [show ((a.toNat : Nat) : Int) = a by omega] at this
  exact this
end Go.Proofs.Ytmbednikbdfnmaa
