/- Locks: the document's Ask: words (plain: what it comes to, and its loops; memory: where its drawn regions stand). -/
import Derived.Test.YtcjefigcaifmeaaLokEv
namespace Go.Lk
set_option linter.unusedVariables false
structure AskO where
  H : List Rw
  W : List Rw
  D : List Int
  granted : Bool
  wounded : List Int
  woken : List (Int × Int)
  err : Int
def askO (H W : List Rw) (D : List Int) (x k : Int) (b : Bool) : AskO :=
  if x < 1 then ⟨H, W, D, false, [], [], 130⟩ else if k < 0 ∨ 8191 < k then ⟨H, W, D, false, [], [], 131⟩ else if x ∈ D then ⟨H, W, D, false, [], [], 132⟩ else
  if (W.any fun y => y.tx == x) = true then ⟨H, W, D, false, [], [], 133⟩ else if ownsR H x k b = true then ⟨H, W, D, true, [], [], 0⟩ else
  ⟨(giveR (killR (woundsR H x k b) H) (putR ⟨x, k, b⟩ (killR (woundsR H x k b) W))).1, (giveR (killR (woundsR H x k b) H) (putR ⟨x, k, b⟩ (killR (woundsR H x k b) W))).2.1, D ++ woundsR H x k b,
    (giveR (killR (woundsR H x k b) H) (putR ⟨x, k, b⟩ (killR (woundsR H x k b) W))).2.2.any (fun p => p.1 == x), woundsR H x k b, (giveR (killR (woundsR H x k b) H) (putR ⟨x, k, b⟩ (killR (woundsR H x k b) W))).2.2.filter (fun p => p.1 != x), 0⟩
theorem woundsR_len (H : List Rw) (x k : Int) (b : Bool) : (woundsR H x k b).length ≤ H.length := by
  unfold woundsR
  rw [List.length_map]
  exact List.length_filter_le _ _
theorem wounds_next {H : List Rw} {c : Nat} {y : Rw} (h : H[c]? = some y) (x k : Int) (b : Bool) : woundsR (H.take (c + 1)) x k b = woundsR (H.take c) x k b ++ if (y.key == k && decide (x < y.tx) && !(togR ⟨x, k, b⟩ y)) = true then [y.tx] else [] := by
  unfold woundsR
  rw [List.take_add_one, h, List.filter_append, List.map_append]
  cases e : (y.key == k && decide (x < y.tx) && !(togR ⟨x, k, b⟩ y))
  · simp only [Option.toList_some, List.filter_cons, List.filter_nil, e]; rfl
  · simp only [Option.toList_some, List.filter_cons, List.filter_nil, e]; rfl
theorem owns_at {H : List Rw} {c : Nat} {y : Rw} {x k : Int} {b : Bool} (h : H[c]? = some y) (hp : (y.key == k && y.tx == x && (y.b || !b)) = true) : ownsR H x k b = true := List.any_eq_true.2 ⟨y, List.mem_of_getElem? h, hp⟩
theorem any_none {α : Type} {l : List α} {p : α → Bool} (h : ∀ j y, j < l.length → l[j]? = some y → p y = false) : l.any p = false := by
  rw [List.any_eq_false]
  intro y hy
  obtain ⟨j, hj⟩ := List.mem_iff_getElem?.1 hy
  rw [h j y (List.getElem?_eq_some_iff.1 hj).1 hj]
  simp
theorem next_none {α : Type} {l : List α} {p : α → Bool} {c : Nat} {y : α} (h : ∀ j z, j < c → l[j]? = some z → p z = false) (hy : l[c]? = some y) (hp : p y = false) : ∀ j z, j < c + 1 → l[j]? = some z → p z = false := fun j z hj hz => by
  rcases Nat.lt_or_ge j c with h1 | h1
  · exact h j z h1 hz
  · obtain rfl : j = c := by omega
    rw [hy] at hz
    injection hz with hz
    rw [← hz]; exact hp
theorem kill_next {l : List Int} {c : Nat} {o : Int} (h : l[c]? = some o) (H : List Rw) : killR (l.take (c + 1)) H = withoutR (killR (l.take c) H) o := by
  unfold killR
  rw [List.take_add_one, h]
  simp
theorem killR_len : ∀ (l : List Int) (H : List Rw), (killR l H).length ≤ H.length
  | [], H => Nat.le_refl _
  | x :: l, H => Nat.le_trans (killR_len l (withoutR H x)) (withoutR_len H x)
theorem take_next {α : Type} {l : List α} {c : Nat} {y : α} (h : l[c]? = some y) : l.take (c + 1) = l.take c ++ [y] := by rw [List.take_add_one, h]; rfl
theorem giveR_len (H W : List Rw) : (giveR H W).1.length ≤ H.length + W.length ∧ (giveR H W).2.1.length ≤ W.length ∧ (giveR H W).2.2.length ≤ W.length := by
  have := atR_len H W W.length
  rwa [atR_all] at this
end Go.Lk
namespace Go.Proofs.Ytcjefigcaifmeaa
open Go.ChangeShapes Go.WideShapes Go.ChangeAt Go.RowKit Go.Lk
set_option linter.unusedVariables false
set_option linter.unusedSimpArgs false
set_option maxRecDepth 100000
abbrev OwG (y : World) (B : Nat) (v : Value) (l : List (Int × Int)) : Prop := y.ownsRow B 57 2 v l.length (flat encG l)
/-- Six cells of two boxes are told anew: the results. -/
theorem Ts.exit {w y : World} {L : List Row} {B p q9 q8 : Nat} {c9 c8 : Array Value} {vh vw vd : Value} {H W : List Rw} {D : List Int} (g : Ts w y ((q9, 34, c9) :: (q8, 28, c8) :: L) B p vh vw vd H W D) (h8 : w.heap.size ≤ q8) (h9 : w.heap.size ≤ q9) (u0 u1 u2 u3 u4 u5 : Value) :
    ∀ y', y' = ((((((y.setCell ⟨q8, 0, none⟩ u0).setCell ⟨q8, 1, none⟩ u1).setCell ⟨q8, 2, none⟩ u2).setCell ⟨q9, 0, none⟩ u3).setCell ⟨q9, 1, none⟩ u4).setCell ⟨q9, 2, none⟩ u5) →
    OwR y' B vh H ∧ OwR y' B vw W ∧ OwD y' B vd D ∧ Below w.heap.size w y' ∧ ∀ (B' size n : Nat) (e : TypeId) (v : Value) (xs : List Value), y.ownsRow B' e size v n xs → 34 ≠ e → 28 ≠ e → y'.ownsRow B' e size v n xs := by
  rintro y' rfl
  have k9 : Whole y q9 34 c9 := g.st.knows _ (List.mem_cons_self ..)
  have k8 : Whole y q8 28 c8 := g.st.knows _ (List.mem_cons_of_mem _ (List.mem_cons_self ..))
  have key : ∀ (B' size n : Nat) (e : TypeId) (v : Value) (xs : List Value), y.ownsRow B' e size v n xs → 34 ≠ e → 28 ≠ e → ((((((y.setCell ⟨q8, 0, none⟩ u0).setCell ⟨q8, 1, none⟩ u1).setCell ⟨q8, 2, none⟩ u2).setCell ⟨q9, 0, none⟩ u3).setCell ⟨q9, 1, none⟩ u4).setCell ⟨q9, 2, none⟩ u5).ownsRow B' e size v n xs := fun B' size n e v xs h h1 h2 => by
    have a1 := own_kind h k9 h1
    have b1 := own_kind h k8 h2
    exact own_set (own_set (own_set (own_set (own_set (own_set h b1) b1) b1) a1) a1) a1
  exact ⟨key _ _ _ _ _ _ g.hh (by decide) (by decide), key _ _ _ _ _ _ g.hw (by decide) (by decide), key _ _ _ _ _ _ g.hd (by decide) (by decide),
    (((((g.st.below.setCell (p := ⟨q8, 0, none⟩) h8 _).setCell (p := ⟨q8, 1, none⟩) h8 _).setCell (p := ⟨q8, 2, none⟩) h8 _).setCell (p := ⟨q9, 0, none⟩) h9 _).setCell (p := ⟨q9, 1, none⟩) h9 _).setCell (p := ⟨q9, 2, none⟩) h9 _, key⟩
/-- Where the rows of one that is wounded are taken out: Gq, the row of the wounded, and the row of the dead under way: made (m), the old ones put into it (m5), the new item is made (m8). -/
structure Gk (w y : World) (L : List Row) (B Bz p : Nat) (vh vw vd : Value) (H W : List Rw) (D : List Int) (v1 v2 v3 : Value) (H' W' : List Rw) (x : Int) (vo : Value) (wd : List Int) (p0 p8 : Nat) (v5 : Value) (a b c d e f m m5 m8 : Bool) : Prop where
  g : Gq w y L B p vh vw vd H W D v1 v2 v3 H' W' (D ++ [x]) a b c d e f
  wo : OwD y w.heap.size vo wd
  low : w.heap.size ≤ Bz ∧ Bz ≤ y.heap.size ∧ p < Bz ∧ (∀ r ∈ L, r.1 < Bz) ∧ (∀ q, vh.ownBlock = some q → q < Bz) ∧ (∀ q, vw.ownBlock = some q → q < Bz) ∧ (∀ q, vd.ownBlock = some q → q < Bz) ∧ ∀ q, vo.ownBlock = some q → q < Bz
  made : m = true → m5 = false → OwD y Bz (.slice (some ⟨p0, 0, none⟩) 0 0) []
  old : m5 = true → c = false → OwD y Bz v5 D
  item : m8 = true → c = false → Whole y p8 3 #[.int .i64 x] ∧ Bz ≤ p8
  apart : m = true → m5 = false → m8 = true → c = false → p0 ≠ p8
  ap5 : m5 = true → m8 = true → c = false → v5.ownBlock ≠ some p8
  ord : (m5 = true → m = true) ∧ (c = true → m5 = true ∧ m8 = true)
section
variable {w y y' : World} {L : List Row} {B Bz p : Nat} {vh vw vd : Value} {H W : List Rw} {D : List Int} {v1 v2 v3 : Value} {H' W' : List Rw} {x : Int} {vo : Value} {wd : List Int} {p0 p8 : Nat} {v5 : Value} {a b c d e f m m5 m8 : Bool}
theorem Gk.start (g : Ts w y L B p vh vw vd H W D) (ho : OwD y w.heap.size vo wd) (v1 v2 v3 v5 : Value) (p0 p8 : Nat) (H' W' : List Rw) (x : Int) : Gk w y L B y.heap.size p vh vw vd H W D v1 v2 v3 H' W' x vo wd p0 p8 v5 false false false false false false false false false :=
  ⟨Gq.start g v1 v2 v3 H' W' _, ho, ⟨g.st.below.size, Nat.le_refl _, g.box.lt, fun r hr => (g.st.knows r hr).lt, fun q hq => (g.hh.lt q hq).2, fun q hq => (g.hw.lt q hq).2, fun q hq => (g.hd.lt q hq).2, fun q hq => (ho.lt q hq).2⟩, (fun h => by cases h), (fun h => by cases h), (fun h => by cases h), (fun h => by cases h), (fun h => by cases h), ⟨(fun h => by cases h), fun h => by cases h⟩⟩
theorem Gk.call (k : Gk w y L B Bz p vh vw vd H W D v1 v2 v3 H' W' x vo wd p0 p8 v5 a b c d e f m m5 m8) (hb : Below y.heap.size y y') : Gk w y' L B Bz p vh vw vd H W D v1 v2 v3 H' W' x vo wd p0 p8 v5 a b c d e f m m5 m8 :=
  ⟨k.g.call hb, own_call k.wo hb, ⟨k.low.1, Nat.le_trans k.low.2.1 hb.size, k.low.2.2⟩, fun h1 h2 => own_call (k.made h1 h2) hb, fun h1 h2 => own_call (k.old h1 h2) hb, fun h1 h2 => ⟨(k.item h1 h2).1.below hb (k.item h1 h2).1.lt, (k.item h1 h2).2⟩, k.apart, k.ap5, k.ord⟩
theorem Gk.got1 (k : Gk w y L B Bz p vh vw vd H W D v1 v2 v3 H' W' x vo wd p0 p8 v5 false b c d e f m m5 m8) (hb : Below y.heap.size y y') {v : Value} (ho : OwR y' y.heap.size v H') : Gk w y' L B Bz p vh vw vd H W D v v2 v3 H' W' x vo wd p0 p8 v5 true b c d e f m m5 m8 := by
  have k2 := k.call hb
  exact ⟨k.g.got1 hb ho, k2.wo, k2.low, k2.made, k2.old, k2.item, k2.apart, k2.ap5, k2.ord⟩
theorem Gk.got2 (k : Gk w y L B Bz p vh vw vd H W D v1 v2 v3 H' W' x vo wd p0 p8 v5 a false c d e f m m5 m8) (hb : Below y.heap.size y y') {v : Value} (ho : OwR y' y.heap.size v W') : Gk w y' L B Bz p vh vw vd H W D v1 v v3 H' W' x vo wd p0 p8 v5 a true c d e f m m5 m8 := by
  have k2 := k.call hb
  exact ⟨k.g.got2 hb ho, k2.wo, k2.low, k2.made, k2.old, k2.item, k2.apart, k2.ap5, k2.ord⟩
theorem Gk.noC (k : Gk w y L B Bz p vh vw vd H W D v1 v2 v3 H' W' x vo wd p0 p8 v5 a b c d e f m m5 m8) (h : m5 = false ∨ m8 = false) : c = false := by
  cases c with
  | false => rfl
  | true =>
    have := k.ord.2 rfl
    rcases h with h | h
    · rw [h] at this; cases this.1
    · rw [h] at this; cases this.2
theorem Gk.make (k : Gk w y L B Bz p vh vw vd H W D v1 v2 v3 H' W' x vo wd p0 p8 v5 a b c d e f false m5 m8) : Gk w (y.alloc (.cells #[] 3)) L B Bz p vh vw vd H W D v1 v2 v3 H' W' x vo wd y.heap.size p8 v5 a b c d e f true m5 m8 := by
  have h5 : m5 = false := by cases m5 with | false => rfl | true => have := k.ord.1 rfl; cases this
  subst h5
  have hc := k.noC (.inl rfl)
  subst hc
  have k2 := k.call ((Below.refl y.heap.size y).alloc (Nat.le_refl _) (.cells #[] 3))
  refine ⟨k2.g, k2.wo, k2.low, fun _ _ => own_lessB (own_at0 y 3 1 y.heap.size rfl) k.low.2.1, k2.old, k2.item, fun _ _ h1 h2 => ?_, k2.ap5, ⟨(fun h => by cases h), fun h => by cases h⟩⟩
  have := (k.item h1 h2).1.lt
  omega
theorem Gk.make8 (k : Gk w y L B Bz p vh vw vd H W D v1 v2 v3 H' W' x vo wd p0 p8 v5 a b c d e f m m5 false) : Gk w (y.alloc (.cells #[.int .i64 x] 3)) L B Bz p vh vw vd H W D v1 v2 v3 H' W' x vo wd p0 y.heap.size v5 a b c d e f m m5 true := by
  have hc := k.noC (.inr rfl)
  subst hc
  have k2 := k.call ((Below.refl y.heap.size y).alloc (Nat.le_refl _) (.cells #[.int .i64 x] 3))
  refine ⟨k2.g, k2.wo, k2.low, k2.made, k2.old, fun _ _ => ⟨Whole.fresh y _ _, k.low.2.1⟩, fun h1 h2 _ _ => ?_, fun h1 _ h3 e => ?_, ⟨k.ord.1, fun h => by cases h⟩⟩
  · have := ((k.made h1 h2).lt p0 rfl).2
    omega
  · have := ((k.old h1 h3).lt _ e).2
    omega
/-- A row of int that is new grows. -/
theorem Gk.far (k : Gk w y L B Bz p vh vw vd H W D v1 v2 v3 H' W' x vo wd p0 p8 v5 a b false d e f m m5 m8) {row : Option Nat} (hg : y.grownBy y' row) (hr : ∀ q, row = some q → Bz ≤ q ∧ (a = true → v1.ownBlock ≠ some q) ∧ (b = true → v2.ownBlock ≠ some q)) : Gq w y' L B p vh vw vd H W D v1 v2 v3 H' W' (D ++ [x]) a b false d e f ∧ OwD y' w.heap.size vo wd ∧ Bz ≤ y'.heap.size := by
  obtain ⟨l1, l2, l3, l4, l5, l6, l7, l8⟩ := k.low
  refine ⟨k.g.grown hg (fun q hq => ?_) rfl, own_grow k.wo hg fun q hq e2 => ?_, Nat.le_trans l2 hg.size⟩
  · obtain ⟨r1, r2, r3⟩ := hr q hq
    exact ⟨by omega, by omega, fun r hr2 e2 => by have := l4 r hr2; omega, fun e2 => by have := l5 q e2; omega, fun e2 => by have := l6 q e2; omega, fun e2 => by have := l7 q e2; omega, r2, r3⟩
  · have := l8 q hq
    have := (hr q e2).1
    omega
theorem Gk.app5 (k : Gk w y L B Bz p vh vw vd H W D v1 v2 v3 H' W' x vo wd p0 p8 v5 a b c d e f true false m8) {v : Value} (ho : OwD y' Bz v D) (hg : y.grownBy y' (some p0)) (hv : v.ownBlock = some p0 ∨ v.ownBlock = some y.heap.size) : Gk w y' L B Bz p vh vw vd H W D v1 v2 v3 H' W' x vo wd p0 p8 v a b c d e f true true m8 := by
  have hc := k.noC (.inl rfl)
  subst hc
  have hm := k.made rfl rfl
  obtain ⟨k1, k2, k3⟩ := k.far hg fun q hq => by
    injection hq with hq
    subst hq
    exact ⟨(hm.lt p0 rfl).1, fun h e2 => own_apart (k.g.n1 h) hm (by decide) _ e2 rfl, fun h e2 => own_apart (k.g.n2 h) hm (by decide) _ e2 rfl⟩
  refine ⟨k1, k2, ⟨k.low.1, k3, k.low.2.2⟩, (fun _ h => by cases h), fun _ _ => ho, fun h1 h2 => ⟨(k.item h1 h2).1.grown hg fun e2 => k.apart rfl rfl h1 h2 (by injection e2 with e2; exact e2.symm), (k.item h1 h2).2⟩, (fun _ h => by cases h), fun _ h1 h2 e2 => ?_, ⟨fun _ => rfl, fun h => by cases h⟩⟩
  rcases hv with h | h
  · rw [h] at e2
    injection e2 with e2
    exact k.apart rfl rfl h1 h2 e2
  · rw [h] at e2
    injection e2 with e2
    have := (k.item h1 h2).1.lt
    omega
theorem Gk.app3 (k : Gk w y L B Bz p vh vw vd H W D v1 v2 v3 H' W' x vo wd p0 p8 v5 a b false d e f m true true) {v : Value} (ho : OwD y' Bz v (D ++ [x])) (hg : y.grownBy y' v5.ownBlock) : Gk w y' L B Bz p vh vw vd H W D v1 v2 v H' W' x vo wd p0 p8 v5 a b true d e f m true true := by
  have hm := k.old rfl rfl
  obtain ⟨k1, k2, k3⟩ := k.far hg fun q hq => ⟨(hm.lt q hq).1, fun h e2 => own_apart (k.g.n1 h) hm (by decide) _ e2 hq, fun h e2 => own_apart (k.g.n2 h) hm (by decide) _ e2 hq⟩
  exact ⟨k1.got3 (own_lessB ho k.low.1), k2, ⟨k.low.1, k3, k.low.2.2⟩, (fun _ h => by cases h), (fun _ h => by cases h), (fun _ h => by cases h), (fun _ _ _ h => by cases h), (fun _ _ h => by cases h), ⟨k.ord.1, fun _ => ⟨rfl, rfl⟩⟩⟩
theorem Gk.setH (k : Gk w y L B Bz p vh vw vd H W D v1 v2 v3 H' W' x vo wd p0 p8 v5 true b c false e f m m5 m8) : Gk w (y.setCell ⟨p, 0, none⟩ v1) L B Bz p vh vw vd H W D v1 v2 v3 H' W' x vo wd p0 p8 v5 true b c true e f m m5 m8 :=
  ⟨k.g.setH, own_set k.wo (own_kind k.wo k.g.box (by decide)), ⟨k.low.1, by simpa using k.low.2.1, k.low.2.2⟩, fun h1 h2 => own_set (k.made h1 h2) (own_kind (k.made h1 h2) k.g.box (by decide)), fun h1 h2 => own_set (k.old h1 h2) (own_kind (k.old h1 h2) k.g.box (by decide)), fun h1 h2 => ⟨(k.item h1 h2).1.away (p := ⟨p, 0, none⟩) (whole_unlike (k.item h1 h2).1 k.g.box (by decide)) _, (k.item h1 h2).2⟩, k.apart, k.ap5, k.ord⟩
theorem Gk.setW (k : Gk w y L B Bz p vh vw vd H W D v1 v2 v3 H' W' x vo wd p0 p8 v5 a true c d false f m m5 m8) : Gk w (y.setCell ⟨p, 1, none⟩ v2) L B Bz p vh vw vd H W D v1 v2 v3 H' W' x vo wd p0 p8 v5 a true c d true f m m5 m8 :=
  ⟨k.g.setW, own_set k.wo (own_kind k.wo k.g.box (by decide)), ⟨k.low.1, by simpa using k.low.2.1, k.low.2.2⟩, fun h1 h2 => own_set (k.made h1 h2) (own_kind (k.made h1 h2) k.g.box (by decide)), fun h1 h2 => own_set (k.old h1 h2) (own_kind (k.old h1 h2) k.g.box (by decide)), fun h1 h2 => ⟨(k.item h1 h2).1.away (p := ⟨p, 1, none⟩) (whole_unlike (k.item h1 h2).1 k.g.box (by decide)) _, (k.item h1 h2).2⟩, k.apart, k.ap5, k.ord⟩
theorem Gk.setD (k : Gk w y L B Bz p vh vw vd H W D v1 v2 v3 H' W' x vo wd p0 p8 v5 a b true d e false m m5 m8) : Gk w (y.setCell ⟨p, 2, none⟩ v3) L B Bz p vh vw vd H W D v1 v2 v3 H' W' x vo wd p0 p8 v5 a b true d e true m m5 m8 :=
  ⟨k.g.setD, own_set k.wo (own_kind k.wo k.g.box (by decide)), ⟨k.low.1, by simpa using k.low.2.1, k.low.2.2⟩, fun h1 h2 => own_set (k.made h1 h2) (own_kind (k.made h1 h2) k.g.box (by decide)), (fun _ h => by cases h), (fun _ h => by cases h), (fun _ _ _ h => by cases h), (fun _ _ h => by cases h), k.ord⟩
end
end Go.Proofs.Ytcjefigcaifmeaa
