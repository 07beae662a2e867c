/- Layer 12: three appends in whatever order, of whole numbers (XStmpN's, at int); where a key is put in (plain). -/
import Derived.Test.YtcpcepbjdohdmaaStoDb
import Derived.Test.YtcpcepbjdohdmaaStoT
namespace Go.So
open Go.Cn
set_option linter.unusedVariables false
/-- How many of the first ones are below a number. -/
def ltN : List Int → Int → Nat
  | [], _ => 0
  | x :: l, a => if x < a then ltN l a + 1 else 0
theorem ltN_le (l : List Int) (a : Int) : ltN l a ≤ l.length := by
  induction l with
  | nil => exact Nat.le_refl _
  | cons v l ih => unfold ltN; split <;> simp <;> omega
theorem lt_ltN {l : List Int} (h : l.Pairwise fun x y => x < y) (a : Int) (k : Nat) (v : Int) (hk : l[k]? = some v) : v < a ↔ k < ltN l a := by
  induction l generalizing k with
  | nil => simp at hk
  | cons x l ih =>
    obtain ⟨h1, h2⟩ := List.pairwise_cons.1 h
    unfold ltN
    cases k with
    | zero =>
      have : x = v := by simpa using hk
      subst this
      split <;> rename_i h3
      · exact ⟨fun _ => by omega, fun _ => h3⟩
      · exact ⟨fun h => absurd h h3, fun h => by omega⟩
    | succ k =>
      have hk' : l[k]? = some v := by simpa using hk
      have h4 := h1 v (List.mem_of_getElem? hk')
      have := ih h2 k hk'
      split <;> rename_i h3
      · rw [this]; omega
      · constructor <;> intro h5 <;> omega
def ins (l : List Int) (a : Int) : List Int := if a ∈ l then l else l.take (ltN l a) ++ [a] ++ l.drop (ltN l a)
theorem ins_rise {l : List Int} (h : l.Pairwise fun x y => x < y) (a : Int) : (ins l a).Pairwise fun x y => x < y := by
  unfold ins
  split
  · exact h
  · rename_i hn
    have h1 : ∀ x ∈ l.take (ltN l a), x < a := fun x hx => by
      obtain ⟨i, hi, e⟩ := List.mem_take_iff_getElem.1 hx
      exact (lt_ltN h a i x (by rw [← e]; exact List.getElem?_eq_getElem _)).2 (by omega)
    have h2 : ∀ x ∈ l.drop (ltN l a), a < x := fun x hx => by
      obtain ⟨i, hi⟩ := List.mem_iff_getElem?.1 hx
      rw [List.getElem?_drop] at hi
      have h3 := lt_ltN h a _ x hi
      have h4 : x ≠ a := fun e => hn (e ▸ List.mem_of_mem_drop hx)
      omega
    rw [List.append_assoc, List.pairwise_append]
    refine ⟨h.sublist (List.take_sublist _ _), ?_, fun x hx y hy => ?_⟩
    · rw [List.singleton_append, List.pairwise_cons]
      exact ⟨h2, h.sublist (List.drop_sublist _ _)⟩
    · rw [List.singleton_append, List.mem_cons] at hy
      have := h1 x hx
      rcases hy with rfl | hy
      · exact this
      · have := h2 y hy; omega
theorem ins_mem (l : List Int) (a x : Int) : x ∈ ins l a ↔ x ∈ l ∨ x = a := by
  unfold ins
  split
  · rename_i h
    exact ⟨.inl, fun h2 => h2.elim id fun e => e ▸ h⟩
  · rw [List.append_assoc, List.mem_append, List.singleton_append, List.mem_cons]
    constructor
    · rintro (h | h | h)
      · exact .inl (List.mem_of_mem_take h)
      · exact .inr h
      · exact .inl (List.mem_of_mem_drop h)
    · rintro (h | h)
      · rw [← List.take_append_drop (ltN l a) l, List.mem_append] at h
        rcases h with h | h
        · exact .inl h
        · exact .inr (.inr h)
      · exact .inr (.inl h)
/-- The keys of rows, rising. -/
def keysD (l : List Dr) : List Int := l.foldl (fun o d => ins o d.2.1) []
theorem keysD_take (l : List Dr) (n : Nat) (d : Dr) (h : l[n]? = some d) : keysD (l.take (n + 1)) = ins (keysD (l.take n)) d.2.1 := by
  unfold keysD
  rw [List.take_add_one, h]
  simp only [Option.toList]
  rw [List.foldl_append]
  rfl
theorem keysD_all (l : List Dr) : (keysD l).Pairwise (fun x y => x < y) ∧ ∀ x, x ∈ keysD l ↔ ∃ d ∈ l, d.2.1 = x := by
  unfold keysD
  have key : ∀ (o : List Int), o.Pairwise (fun x y => x < y) → (l.foldl (fun o d => ins o d.2.1) o).Pairwise (fun x y => x < y) ∧ ∀ x, x ∈ l.foldl (fun o d => ins o d.2.1) o ↔ x ∈ o ∨ ∃ d ∈ l, d.2.1 = x := by
    induction l with
    | nil => exact fun o ho => ⟨ho, fun x => by simp⟩
    | cons a l ih =>
      intro o ho
      obtain ⟨h1, h2⟩ := ih (ins o a.2.1) (ins_rise ho _)
      refine ⟨h1, fun x => ?_⟩
      rw [List.foldl_cons, h2 x, ins_mem]
      constructor
      · rintro ((h | h) | ⟨d, hd, h⟩)
        · exact .inl h
        · exact .inr ⟨a, List.mem_cons_self .., h.symm⟩
        · exact .inr ⟨d, List.mem_cons_of_mem _ hd, h⟩
      · rintro (h | ⟨d, hd, h⟩)
        · exact .inl (.inl h)
        · rcases List.mem_cons.1 hd with rfl | hd
          · exact .inl (.inr h.symm)
          · exact .inr ⟨d, hd, h⟩
  obtain ⟨h1, h2⟩ := key [] List.Pairwise.nil
  exact ⟨h1, fun x => by rw [h2 x]; simp⟩
theorem Rel.keys {d : Ds} {s : Sto} (h : Rel d s) (hf : Fine s) : keysD d.l = keysL s := by
  obtain ⟨h1, h2⟩ := keysD_all d.l
  refine rise_eq h1 (keysL_rise s) fun x => ?_
  rw [h2 x, keysL_mem hf]
  constructor
  · rintro ⟨y, hy, rfl⟩
    have hm : ((y.1, y.2.2) : Ve) ∈ chainOf d.l y.2.1 := chainOf_mem.2 ⟨y, hy, rfl, rfl⟩
    rw [h.rows] at hm
    unfold verL at hm
    cases hc : s.ch y.2.1 with
    | none => rw [hc] at hm; cases hm
    | some c => rfl
  · intro hx
    obtain ⟨c, hc⟩ := Option.isSome_iff_exists.1 hx
    have hp := hf.pos x c hc
    have hr := h.rows x
    unfold verL at hr
    rw [hc] at hr
    simp only at hr
    obtain ⟨v, hv⟩ : ∃ v, v ∈ chainOf d.l x := by
      rw [hr]
      exact ⟨c.l[0], List.getElem_mem hp⟩
    obtain ⟨y, hy, h3, -⟩ := chainOf_mem.1 hv
    exact ⟨y, hy, h3⟩
theorem keysD_len (l : List Dr) (h : ∀ x ∈ l, 0 ≤ x.2.1 ∧ x.2.1 < 8192) (n : Nat) : (keysD (l.take n)).length ≤ 8192 := by
  obtain ⟨h1, h2⟩ := keysD_all (l.take n)
  have hs : ∀ x ∈ keysD (l.take n), x ∈ allK := fun x hx => by
    obtain ⟨d, hd, rfl⟩ := (h2 x).1 hx
    exact (allK_mem _).2 (h d (List.mem_of_mem_take hd))
  have h3 : (allK.filter fun k => decide (k ∈ keysD (l.take n))) = keysD (l.take n) := rise_eq (List.Pairwise.filter _ allK_rise) h1 fun x => by
    rw [List.mem_filter]
    simp only [decide_eq_true_eq]
    exact ⟨fun h => h.2, fun h => ⟨hs x h, h⟩⟩
  have := List.length_filter_le (fun k => decide (k ∈ keysD (l.take n))) allK
  rw [h3, allK_len] at this
  exact this
end Go.So
namespace Go.Proofs.Ytcpcepbjdohdmaa
open Go.RowKit Go.Cn Go.So
set_option linter.unusedVariables false
set_option linter.unusedSimpArgs false
set_option maxRecDepth 100000

def ints (l : List Int) : List Value := l.map (Value.int .i64)
theorem ints_append (l m : List Int) : ints (l ++ m) = ints l ++ ints m := by unfold ints; rw [List.map_append]
theorem ints_len (l : List Int) : (ints l).length = l.length := by unfold ints; rw [List.length_map]
theorem ints_one (l : List Int) : ∀ u ∈ ints l, u.oneCell' = true := by
  intro u hu
  unfold ints at hu
  obtain ⟨a, -, rfl⟩ := List.mem_map.1 hu
  rfl
theorem ints_flat (l : List Int) : ints l = flat (fun k => [Value.int .i64 k]) l := (map_flat l).symm
theorem own_at0 (w : World) (e : TypeId) (size g : Nat) (hg : g = w.heap.size) : (w.alloc (.cells #[] e)).ownsRow g e size (.slice (some ⟨g, 0, none⟩) 0 0) 0 [] := ow_new w e size g hg
theorem own_block_ge {w : World} {B size n : Nat} {e : TypeId} {v : Value} {xs : List Value} (h : w.ownsRow B e size v n xs) {q : Nat} (hq : v.ownBlock = some q) : B ≤ q := (h.lt q hq).1
/-! ### Three appends in whatever order -/
theorem St.callB {W w w' : World} {L : List Row} {B : Nat} (h : St W w L) (hb : Below B w w') (hB : W.heap.size ≤ B) (hr : ∀ r ∈ L, r.1 < B) : St W w' L :=
  ⟨h.below.trans (hb.mono hB), fun r hr' => (h.knows r hr').below hb (hr r hr')⟩
/-- Where that region stands: B is above all blocks that are known; a: the empty row is made, b: the list was put behind it, d: the item is made, e: it was put behind the list, c: the others were put behind that. -/
structure Ag (w y : World) (L : List Row) (B p0 p8 : Nat) (v1 v2 v3 : Value) (l m : List Int) (n : Int) (a b d e c : Bool) : Prop where
  st : St w y L
  low : w.heap.size ≤ B ∧ B ≤ y.heap.size ∧ ∀ r ∈ L, r.1 < B
  own0 : a = true → b = false → y.ownsRow B 3 1 (.slice (some ⟨p0, 0, none⟩) 0 0) 0 []
  own1 : b = true → e = false → y.ownsRow B 3 1 v1 l.length (ints l)
  item : d = true → e = false → Whole y p8 3 #[.int .i64 n] ∧ B ≤ p8
  own2 : e = true → c = false → y.ownsRow B 3 1 v2 (l.length + 1) (ints (l ++ [n]))
  own3 : c = true → y.ownsRow B 3 1 v3 (l.length + 1 + m.length) (ints (l ++ [n] ++ m))
  far : a = true → b = false → d = true → e = false → p0 ≠ p8
  ord : (b = true → a = true) ∧ (e = true → b = true ∧ d = true) ∧ (c = true → e = true)
  lt0 : a = true → b = false → p0 < y.heap.size
section
variable {w y : World} {L : List Row} {B p0 p8 : Nat} {v1 v2 v3 : Value} {l m : List Int} {n : Int} {a b d e c : Bool}
theorem Ag.start (hs : St w y L) (hB : B = y.heap.size) (p0 p8 : Nat) (v1 v2 v3 : Value) (l m : List Int) (n : Int) : Ag w y L B p0 p8 v1 v2 v3 l m n false false false false false :=
  ⟨hs, ⟨by rw [hB]; exact hs.below.size, by omega, fun r hr => by rw [hB]; exact (hs.knows r hr).lt⟩, (fun h => by cases h), (fun h => by cases h), (fun h => by cases h), (fun h => by cases h), (fun h => by cases h), (fun h => by cases h), ⟨(fun h => by cases h), (fun h => by cases h), fun h => by cases h⟩, fun h => by cases h⟩
theorem Ag.noC (k : Ag w y L B p0 p8 v1 v2 v3 l m n a b d e c) (h : e = false) : c = false := by
  cases c with
  | false => rfl
  | true => have := k.ord.2.2 rfl; rw [h] at this; cases this
theorem Ag.noE (k : Ag w y L B p0 p8 v1 v2 v3 l m n a b d e c) (h : b = false ∨ d = false) : e = false := by
  cases e with
  | false => rfl
  | true =>
    have := k.ord.2.1 rfl
    rcases h with h | h
    · rw [h] at this; cases this.1
    · rw [h] at this; cases this.2
theorem Ag.noB (k : Ag w y L B p0 p8 v1 v2 v3 l m n a b d e c) (h : a = false) : b = false := by
  cases b with
  | false => rfl
  | true => have := k.ord.1 rfl; rw [h] at this; cases this
theorem own_lessB {y : World} {B g size n : Nat} {e : TypeId} {v : Value} {xs : List Value} (h : y.ownsRow g e size v n xs) (hB : B ≤ g) : y.ownsRow B e size v n xs := by
  refine ⟨h.1, ?_⟩
  rcases h.2 with hn | ⟨g', cap, cur, e1, hb, r⟩
  · exact .inl hn
  · exact .inr ⟨g', cap, cur, e1, Nat.le_trans hB hb, r⟩
theorem Ag.made (k : Ag w y L B p0 p8 v1 v2 v3 l m n false b d e c) : Ag w (y.alloc (.cells #[] 3)) L B y.heap.size p8 v1 v2 v3 l m n true b d e c := by
  have hb := k.noB rfl
  subst hb
  have he := k.noE (.inl rfl)
  subst he
  have hc := k.noC rfl
  subst hc
  refine ⟨k.st.other _, ⟨k.low.1, by have := k.low.2.1; simp; omega, k.low.2.2⟩, fun _ _ => own_lessB (own_at0 y 3 1 y.heap.size rfl) k.low.2.1, (fun h => by cases h), fun h1 h2 => ⟨(k.item h1 h2).1.alloc _, (k.item h1 h2).2⟩, (fun h => by cases h), (fun h => by cases h), fun _ _ h1 h2 => ?_, ⟨(fun h => by cases h), (fun h => by cases h), fun h => by cases h⟩, fun _ _ => by simp⟩
  have := (k.item h1 h2).1.lt
  omega
theorem Ag.item8 (k : Ag w y L B p0 p8 v1 v2 v3 l m n a b false e c) : Ag w (y.alloc (.cells #[.int .i64 n] 3)) L B p0 y.heap.size v1 v2 v3 l m n a b true e c := by
  have he := k.noE (.inr rfl)
  subst he
  have hc := k.noC rfl
  subst hc
  refine ⟨k.st.other _, ⟨k.low.1, by have := k.low.2.1; simp; omega, k.low.2.2⟩, fun h1 h2 => (k.own0 h1 h2).alloc _, fun h1 h2 => (k.own1 h1 h2).alloc _, fun _ _ => ⟨Whole.fresh y _ _, k.low.2.1⟩, (fun h => by cases h), (fun h => by cases h), fun h1 h2 _ _ => by have := k.lt0 h1 h2; omega, ⟨k.ord.1, (fun h => by cases h), fun h => by cases h⟩, fun h1 h2 => by have := k.lt0 h1 h2; simp; omega⟩
theorem Ag.app1 (k : Ag w y L B p0 p8 v1 v2 v3 l m n true false d e c) {v : Value} {y2 : World} (ho : y2.ownsRow B 3 1 v l.length (ints l)) (hg : y.grownBy y2 (some p0)) : Ag w y2 L B p0 p8 v v2 v3 l m n true true d e c := by
  have he := k.noE (.inl rfl)
  subst he
  have hc := k.noC rfl
  subst hc
  have hp : B ≤ p0 := own_block_ge (k.own0 rfl rfl) rfl
  have hb : Below B y y2 := (Below.refl _ _).grown hg k.low.2.1 (fun q hq => by injection hq with hq; omega)
  exact ⟨k.st.callB hb k.low.1 k.low.2.2, ⟨k.low.1, Nat.le_trans k.low.2.1 hb.size, k.low.2.2⟩, (fun _ h => by cases h), fun _ _ => ho, fun h1 h2 => ⟨(k.item h1 h2).1.grown hg (fun e => k.far rfl rfl h1 h2 (by injection e with e; exact e.symm)), (k.item h1 h2).2⟩, (fun h => by cases h), (fun h => by cases h), (fun _ h => by cases h), ⟨(fun _ => rfl), (fun h => by cases h), fun h => by cases h⟩, fun _ h => by cases h⟩
theorem Ag.app2 (k : Ag w y L B p0 p8 v1 v2 v3 l m n a true true false c) {v : Value} {y2 : World} (ho : y2.ownsRow B 3 1 v (l.length + 1) (ints (l ++ [n]))) (hg : y.grownBy y2 v1.ownBlock) : Ag w y2 L B p0 p8 v1 v v3 l m n a true true true c := by
  have hc := k.noC rfl
  subst hc
  have ho1 := k.own1 rfl rfl
  have hb : Below B y y2 := (Below.refl _ _).grown hg k.low.2.1 (fun q hq => own_block_ge ho1 hq)
  exact ⟨k.st.callB hb k.low.1 k.low.2.2, ⟨k.low.1, Nat.le_trans k.low.2.1 hb.size, k.low.2.2⟩, (fun _ h => by cases h), (fun _ h => by cases h), (fun _ h => by cases h), fun _ _ => ho, (fun h => by cases h), (fun _ h => by cases h), ⟨k.ord.1, (fun _ => ⟨rfl, rfl⟩), fun h => by cases h⟩, fun _ h => by cases h⟩
theorem Ag.app3 (k : Ag w y L B p0 p8 v1 v2 v3 l m n a b d true false) {v : Value} {y2 : World} (ho : y2.ownsRow B 3 1 v (l.length + 1 + m.length) (ints (l ++ [n] ++ m))) (hg : y.grownBy y2 v2.ownBlock) : Ag w y2 L B p0 p8 v1 v2 v l m n a b d true true := by
  have h1 := (k.ord.2.1 rfl).1
  subst h1
  have ho1 := k.own2 rfl rfl
  have hb : Below B y y2 := (Below.refl _ _).grown hg k.low.2.1 (fun q hq => own_block_ge ho1 hq)
  exact ⟨k.st.callB hb k.low.1 k.low.2.2, ⟨k.low.1, Nat.le_trans k.low.2.1 hb.size, k.low.2.2⟩, (fun _ h => by cases h), (fun _ h => by cases h), (fun _ h => by cases h), (fun _ h => by cases h), fun _ => ho, (fun _ h => by cases h), ⟨k.ord.1, k.ord.2.1, fun _ => rfl⟩, fun _ h => by cases h⟩
theorem Ag.sees (k : Ag w y L B p0 p8 v1 v2 v3 l m n a b true false c) : Sees y (p8 + 1) 1 (some ⟨p8, 0, none⟩) 1 (ints [n]) := by
  have hw := (k.item rfl rfl).1
  refine ⟨rfl, fun _ => ⟨p8, 0, rfl, by omega, fun j u hu => ?_⟩⟩
  rw [Nat.zero_add, hw.cell j, ← Array.getElem?_toList]
  exact hu
end

end Go.Proofs.Ytcpcepbjdohdmaa
