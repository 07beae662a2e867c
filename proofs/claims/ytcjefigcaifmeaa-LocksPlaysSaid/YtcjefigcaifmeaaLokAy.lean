/- Locks: the document's Ask: more words: where a grant that wakes is told, and where the results are laid down. -/
import Derived.Test.YtcjefigcaifmeaaLokAw
namespace Go.Proofs.Ytcjefigcaifmeaa
open Go.ChangeShapes Go.WideShapes Go.ChangeAt Go.RowKit Go.Lk
set_option linter.unusedVariables false
set_option linter.unusedSimpArgs false
set_option maxRecDepth 100000
theorem sees_whole {w : World} {p n size : Nat} {t : TypeId} {cs : Array Value} {xs : List Value} (h : Whole w p t cs) (hl : xs.length = n * size) (hx : cs.toList = xs) : Sees w (p + 1) size (some ⟨p, 0, none⟩) n xs := by
  refine ⟨hl, fun _ => ⟨p, 0, rfl, by omega, fun j u hu => ?_⟩⟩
  rw [Nat.zero_add, h.cell j, ← Array.getElem?_toList, hx]
  exact hu
/-- Where 'out.Woken = append(out.Woken, l[i])' stands: the new item is made (a), the row has it (b), it is stored (c). -/
structure Gv (w y : World) (L : List Row) (B p q1 : Nat) (gr : Bool) (vwd vk v3 vq vh vw vd : Value) (H W : List Rw) (D wd : List Int) (G us : List (Int × Int)) (x1 x2 : Int) (p8 : Nat) (a b c : Bool) : Prop where
  t : Ts w y ((q1, 34, #[.bool gr, vwd, if c = true then v3 else vk]) :: L) B p vh vw vd H W D
  wo : OwD y w.heap.size vwd wd
  vo : OwG y w.heap.size vq G
  old : b = false → OwG y w.heap.size vk us
  far : ∀ q, vk.ownBlock = some q → vq.ownBlock ≠ some q
  item : a = true → b = false → Whole y p8 57 #[.int .i64 x1, .int .i64 x2]
  new : b = true → OwG y w.heap.size v3 (us ++ [(x1, x2)])
  far3 : b = true → ∀ q, v3.ownBlock = some q → vq.ownBlock ≠ some q
  apart : a = true → b = false → vk.ownBlock ≠ some p8
  ord : (c = true → b = true) ∧ (b = true → a = true)
  low : w.heap.size ≤ q1 ∧ (∀ r ∈ L, r.1 ≠ q1) ∧ ∀ r ∈ L, r.2.1 ≠ 57
section
variable {w y y' : World} {L : List Row} {B p q1 : Nat} {gr : Bool} {vwd vk v3 vq vh vw vd : Value} {H W : List Rw} {D wd : List Int} {G us : List (Int × Int)} {x1 x2 : Int} {p8 : Nat} {a b c : Bool}
theorem Gv.start (t : Ts w y ((q1, 34, #[.bool gr, vwd, vk]) :: L) B p vh vw vd H W D) (wo : OwD y w.heap.size vwd wd) (ho : OwG y w.heap.size vq G) (hk : OwG y w.heap.size vk us) (far : ∀ q, vk.ownBlock = some q → vq.ownBlock ≠ some q) (low : w.heap.size ≤ q1 ∧ (∀ r ∈ L, r.1 ≠ q1) ∧ ∀ r ∈ L, r.2.1 ≠ 57) (v3 : Value) (x1 x2 : Int) (p8 : Nat) :
    Gv w y L B p q1 gr vwd vk v3 vq vh vw vd H W D wd G us x1 x2 p8 false false false :=
  ⟨t, wo, ho, fun _ => hk, far, (fun h => by cases h), (fun h => by cases h), (fun h => by cases h), (fun h => by cases h), ⟨(fun h => by cases h), fun h => by cases h⟩, low⟩
theorem Gv.make (k : Gv w y L B p q1 gr vwd vk v3 vq vh vw vd H W D wd G us x1 x2 p8 false b c) : Gv w (y.alloc (.cells #[.int .i64 x1, .int .i64 x2] 57)) L B p q1 gr vwd vk v3 vq vh vw vd H W D wd G us x1 x2 y.heap.size true b c := by
  have hb : b = false := by cases b with | false => rfl | true => have := k.ord.2 rfl; cases this
  subst hb
  have hal := (Below.refl y.heap.size y).alloc (Nat.le_refl _) (.cells #[.int .i64 x1, .int .i64 x2] 57)
  exact ⟨k.t.call hal, own_call k.wo hal, own_call k.vo hal, fun h => own_call (k.old h) hal, k.far, fun _ _ => Whole.fresh y _ _, (fun h => by cases h), (fun h => by cases h), fun _ _ e => by have := ((k.old rfl).lt _ e).2; omega, ⟨k.ord.1, fun h => rfl⟩, k.low⟩
theorem Gv.app (k : Gv w y L B p q1 gr vwd vk v3 vq vh vw vd H W D wd G us x1 x2 p8 true false c) {v : Value} (ho : OwG y' w.heap.size v (us ++ [(x1, x2)])) (hg : y.grownBy y' vk.ownBlock) (hv : v.ownBlock = vk.ownBlock ∨ v.ownBlock = some y.heap.size) : Gv w y' L B p q1 gr vwd vk v vq vh vw vd H W D wd G us x1 x2 p8 true true c := by
  have hc : c = false := by cases c with | false => rfl | true => have := k.ord.1 rfl; cases this
  subst hc
  have hk := k.old rfl
  have ht := k.t.grown hg fun q hq => ⟨own_block_ge hk hq, fun e => own_kind hk k.t.box (by decide) (by rw [hq, e]), fun r hr e => by
      subst e
      rcases List.mem_cons.1 hr with rfl | hr2
      · exact own_kind hk (k.t.st.knows _ (List.mem_cons_self ..)) (by show 34 ≠ 57; decide) hq
      · exact own_kind hk (k.t.st.knows r hr) (k.low.2.2 r hr2) hq, fun e => own_apart k.t.hh hk (by decide) q e hq, fun e => own_apart k.t.hw hk (by decide) q e hq, fun e => own_apart k.t.hd hk (by decide) q e hq⟩
  refine ⟨by simpa using ht, own_grow k.wo hg fun q hq e => own_apart k.wo hk (by decide) q hq e, own_grow k.vo hg fun q hq e => k.far q e hq, (fun h => by cases h), k.far, (fun _ h => by cases h), fun _ => ho, fun _ q hq e => ?_, (fun _ h => by cases h), ⟨(fun _ => rfl), fun _ => rfl⟩, k.low⟩
  rcases hv with h | h
  · exact k.far q (by rw [← h]; exact hq) e
  · have h1 := (k.vo.lt q e).2
    rw [h] at hq
    injection hq with hq
    omega
theorem Gv.store (k : Gv w y L B p q1 gr vwd vk v3 vq vh vw vd H W D wd G us x1 x2 p8 a true false) : Gv w (y.setCell ⟨q1, 2, none⟩ v3) L B p q1 gr vwd vk v3 vq vh vw vd H W D wd G us x1 x2 p8 a true true := by
  have hq : Whole y q1 34 #[.bool gr, vwd, if false = true then v3 else vk] := k.t.st.knows _ (List.mem_cons_self ..)
  have ht := k.t.set0 k.low.1 k.low.2.1 (by decide) (by decide) 2 v3
  exact ⟨by simpa using ht, own_set k.wo (own_kind k.wo hq (by decide)), own_set k.vo (own_kind k.vo hq (by decide)), (fun h => by cases h), k.far, (fun _ h => by cases h), fun _ => own_set (k.new rfl) (own_kind (k.new rfl) hq (by decide)), k.far3, (fun _ h => by cases h), ⟨(fun _ => rfl), k.ord.2⟩, k.low⟩
end
/-- Where the results are laid down: the table's (a), the turn's (b). -/
structure Gx (w y : World) (L : List Row) (B p q9 q8 : Nat) (g9 g8 : Value × Value × Value) (z9 z8 : Array Value) (vh vw vd : Value) (H W : List Rw) (D : List Int) (va vb : Value) (wd : List Int) (us : List (Int × Int)) (a b : Bool) : Prop where
  t : Ts w y ((q9, 34, if b = true then #[g9.1, g9.2.1, g9.2.2] else z9) :: (q8, 28, if a = true then #[g8.1, g8.2.1, g8.2.2] else z8) :: L) B p vh vw vd H W D
  wo : OwD y w.heap.size va wd
  vo : OwG y w.heap.size vb us
  low : (w.heap.size ≤ q9 ∧ w.heap.size ≤ q8) ∧ q8 ≠ q9 ∧ (∀ r ∈ L, r.1 ≠ q9 ∧ r.1 ≠ q8) ∧ z9.size = 3 ∧ z8.size = 3
theorem arr3 (z : Array Value) (h : z.size = 3) (u0 u1 u2 : Value) : ((z.setIfInBounds 0 u0).setIfInBounds 1 u1).setIfInBounds 2 u2 = #[u0, u1, u2] := by
  obtain ⟨l⟩ := z
  match l, h with
  | [a, b, c], _ => rfl
section
variable {w y y' : World} {L : List Row} {B p q9 q8 : Nat} {g9 g8 : Value × Value × Value} {z9 z8 : Array Value} {vh vw vd va vb : Value} {H W : List Rw} {D wd : List Int} {us : List (Int × Int)} {a b : Bool}
theorem Gx.st9 (k : Gx w y L B p q9 q8 g9 g8 z9 z8 vh vw vd H W D va vb wd us a false) : Gx w (((y.setCell ⟨q9, 0, none⟩ g9.1).setCell ⟨q9, 1, none⟩ g9.2.1).setCell ⟨q9, 2, none⟩ g9.2.2) L B p q9 q8 g9 g8 z9 z8 vh vw vd H W D va vb wd us a true := by
  obtain ⟨⟨l1, l2⟩, l3, l4, l5, l6⟩ := k.low
  have hq : Whole y q9 34 (if false = true then #[g9.1, g9.2.1, g9.2.2] else z9) := k.t.st.knows _ (List.mem_cons_self ..)
  have hd : ∀ r ∈ ((q8, 28, if a = true then #[g8.1, g8.2.1, g8.2.2] else z8) :: L : List Row), r.1 ≠ q9 := fun r hr => by
    rcases List.mem_cons.1 hr with rfl | hr
    · exact l3
    · exact (l4 r hr).1
  have ht := ((k.t.set0 l1 hd (by decide) (by decide) 0 g9.1).set0 l1 hd (by decide) (by decide) 1 g9.2.1).set0 l1 hd (by decide) (by decide) 2 g9.2.2
  rw [if_neg (by decide), arr3 z9 l5] at ht
  have h1 := own_kind k.wo hq (by decide)
  have h2 := own_kind k.vo hq (by decide)
  exact ⟨by rw [if_pos rfl]; exact ht, own_set (own_set (own_set k.wo h1) h1) h1, own_set (own_set (own_set k.vo h2) h2) h2, k.low⟩
theorem Gx.st8 (k : Gx w y L B p q9 q8 g9 g8 z9 z8 vh vw vd H W D va vb wd us false b) : Gx w (((y.setCell ⟨q8, 0, none⟩ g8.1).setCell ⟨q8, 1, none⟩ g8.2.1).setCell ⟨q8, 2, none⟩ g8.2.2) L B p q9 q8 g9 g8 z9 z8 vh vw vd H W D va vb wd us true b := by
  obtain ⟨⟨l1, l2⟩, l3, l4, l5, l6⟩ := k.low
  have hq : Whole y q8 28 (if false = true then #[g8.1, g8.2.1, g8.2.2] else z8) := k.t.st.knows _ (List.mem_cons_of_mem _ (List.mem_cons_self ..))
  have hd : ∀ r ∈ ((q9, 34, if b = true then #[g9.1, g9.2.1, g9.2.2] else z9) :: L : List Row), r.1 ≠ q8 := fun r hr => by
    rcases List.mem_cons.1 hr with rfl | hr
    · exact fun e => l3 e.symm
    · exact (l4 r hr).2
  have kt := k.t.few (L' := (q8, 28, if false = true then #[g8.1, g8.2.1, g8.2.2] else z8) :: (q9, 34, if b = true then #[g9.1, g9.2.1, g9.2.2] else z9) :: L) fun r hr => by
    simp only [List.mem_cons] at hr ⊢
    rcases hr with h | h | h
    · exact .inr (.inl h)
    · exact .inl h
    · exact .inr (.inr h)
  have ht := ((kt.set0 l2 hd (by decide) (by decide) 0 g8.1).set0 l2 hd (by decide) (by decide) 1 g8.2.1).set0 l2 hd (by decide) (by decide) 2 g8.2.2
  rw [if_neg (by decide), arr3 z8 l6] at ht
  have h1 := own_kind k.wo hq (by decide)
  have h2 := own_kind k.vo hq (by decide)
  refine ⟨?_, own_set (own_set (own_set k.wo h1) h1) h1, own_set (own_set (own_set k.vo h2) h2) h2, k.low⟩
  rw [if_pos rfl]
  exact ht.few fun r hr => by
    simp only [List.mem_cons] at hr ⊢
    rcases hr with h | h | h
    · exact .inr (.inl h)
    · exact .inl h
    · exact .inr (.inr h)
end
end Go.Proofs.Ytcjefigcaifmeaa
