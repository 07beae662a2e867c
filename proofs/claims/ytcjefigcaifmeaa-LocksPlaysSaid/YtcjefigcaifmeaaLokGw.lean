/- Locks: the document's Give: words (plain: the rows behind so many waiting ones; memory: where its two calls and two stores stand). -/
import Derived.Test.YtcjefigcaifmeaaLokMy
import Derived.Test.YtcjefigcaifmeaaLokPn
import Derived.Test.YtcjefigcaifmeaaLokOf
import Derived.Deep.CutRange
namespace Go.Lk
set_option linter.unusedVariables false
def anyR (H : List Rw) (x : Rw) : Bool := H.any fun y => y.tx == x.tx && y.key == x.key && y.b
def notR (H : List Rw) (x : Rw) : List Rw := H.filter fun y => !(y.tx == x.tx && y.key == x.key)
theorem step_eq (t : List Rw × List Rw × List (Int × Int)) (x : Rw) : stepR t x = if mayR t.1 t.2.1 x = true then (putR ⟨x.tx, x.key, x.b || anyR t.1 x⟩ (notR t.1 x), withoutR t.2.1 x.tx, t.2.2 ++ [(x.tx, x.key)]) else t := rfl
/-- Behind the first k waiting ones. -/
def atR (H W : List Rw) (k : Nat) : List Rw × List Rw × List (Int × Int) := (W.take k).foldl stepR (H, W, [])
theorem atR_next {H W : List Rw} {k : Nat} {x : Rw} (h : W[k]? = some x) : atR H W (k + 1) = stepR (atR H W k) x := by
  unfold atR
  rw [List.take_add_one, h]
  simp
theorem atR_all (H W : List Rw) : atR H W W.length = giveR H W := by unfold atR giveR; rw [List.take_length]
theorem putR_len (x : Rw) : ∀ l : List Rw, (putR x l).length = l.length + 1
  | [] => rfl
  | a :: l => by
    unfold putR
    split
    · simp [putR_len x l]
    · simp
theorem notR_len (H : List Rw) (x : Rw) : (notR H x).length ≤ H.length := List.length_filter_le _ _
theorem withoutR_len (H : List Rw) (x : Int) : (withoutR H x).length ≤ H.length := List.length_filter_le _ _
theorem atR_len (H W : List Rw) (k : Nat) : (atR H W k).1.length ≤ H.length + k ∧ (atR H W k).2.1.length ≤ W.length ∧ (atR H W k).2.2.length ≤ k := by
  induction k with
  | zero => simp [atR]
  | succ k ih =>
    cases hx : W[k]? with
    | none =>
      have : atR H W (k + 1) = atR H W k := by unfold atR; rw [List.take_add_one, hx]; simp
      rw [this]; omega
    | some x =>
      rw [atR_next hx, step_eq]
      split
      · dsimp only
        rw [putR_len, List.length_append]
        have h1 := notR_len (atR H W k).1 x
        have h2 := withoutR_len (atR H W k).2.1 x.tx
        simp
        omega
      · omega
theorem any_next {H : List Rw} {c : Nat} {y : Rw} (h : H[c]? = some y) (x : Rw) : anyR (H.take (c + 1)) x = (anyR (H.take c) x || (y.tx == x.tx && y.key == x.key && y.b)) := by
  unfold anyR
  rw [List.take_add_one, h]
  simp [List.any_append]
theorem not_next {H : List Rw} {c : Nat} {y : Rw} (h : H[c]? = some y) (x : Rw) : notR (H.take (c + 1)) x = notR (H.take c) x ++ if (y.tx == x.tx && y.key == x.key) = true then [] else [y] := by
  unfold notR
  rw [List.take_add_one, h, List.filter_append]
  cases e : (y.tx == x.tx && y.key == x.key)
  · simp only [Option.toList_some, List.filter_cons, List.filter_nil, e]; rfl
  · simp only [Option.toList_some, List.filter_cons, List.filter_nil, e]; rfl
end Go.Lk
namespace Go.Proofs.Ytcjefigcaifmeaa
open Go.ChangeShapes Go.WideShapes Go.ChangeAt Go.RowKit Go.Lk
set_option linter.unusedVariables false
set_option linter.unusedSimpArgs false
set_option maxRecDepth 100000
theorem own_kind {w : World} {B size n p : Nat} {e t : TypeId} {v : Value} {xs : List Value} {cs : Array Value} (h : w.ownsRow B e size v n xs) (hp : Whole w p t cs) (hne : t ≠ e) : v.ownBlock ≠ some p := fun hv => by
  rcases h.2 with ⟨rfl, _⟩ | ⟨g', cap, cur, rfl, hb, hh, _⟩
  · simp [Value.ownBlock] at hv
  · have : g' = p := by simpa [Value.ownBlock] using hv
    subst this
    exact whole_unlike hp hh hne rfl
theorem own_set {w : World} {B size n p i : Nat} {e : TypeId} {v u : Value} {xs : List Value} (h : w.ownsRow B e size v n xs) (hp : v.ownBlock ≠ some p) : (w.setCell ⟨p, i, none⟩ u).ownsRow B e size v n xs :=
  own_off h ((Off.refl (fun b => b = p) w).set (p := ⟨p, i, none⟩) (.inl rfl) u) fun b hb e => hp (by rw [hb, e])
theorem own_call {w w' : World} {B size n : Nat} {e : TypeId} {v : Value} {xs : List Value} (h : w.ownsRow B e size v n xs) (hb : Below w.heap.size w w') : w'.ownsRow B e size v n xs := own_keep h hb (Nat.le_refl _)
theorem own_grow {w w' : World} {B size n : Nat} {e : TypeId} {v : Value} {xs : List Value} {row : Option Nat} (h : w.ownsRow B e size v n xs) (hg : w.grownBy w' row) (hv : ∀ b, v.ownBlock = some b → row ≠ some b) : w'.ownsRow B e size v n xs :=
  own_off h (.grown (Off.refl (fun b => row = some b) w) hg fun g hr => .inl hr) fun b hb => hv b hb
theorem own_apart {w : World} {B B' size size' n n' : Nat} {e e' : TypeId} {v v' : Value} {xs xs' : List Value} (h : w.ownsRow B e size v n xs) (h' : w.ownsRow B' e' size' v' n' xs') (hne : e ≠ e') : ∀ b, v.ownBlock = some b → v'.ownBlock ≠ some b := fun b hb hb' => by
  rcases h.2 with ⟨rfl, _⟩ | ⟨g, cap, cur, rfl, _, hh, _⟩
  · simp [Value.ownBlock] at hb
  · have : g = b := by simpa [Value.ownBlock] using hb
    subst this
    exact own_kind h' hh hne hb'
/-- Where Give stands: behind the first k waiting ones (S); its box and its result's. -/
structure Gs (w wr : World) (B : Nat) (vD v0 : Value) (W : List Rw) (S : List Rw × List Rw × List (Int × Int)) (vh vw vo : Value) : Prop where
  bel : Below w.heap.size w wr
  box : Whole wr w.heap.size 28 #[vh, vw, vD]
  res : Whole wr (w.heap.size + 1) 28 #[.slice none 0 0, .slice none 0 0, .slice none 0 0]
  hh : wr.ownsRow B 74 3 vh S.1.length (flat encR S.1)
  hw : wr.ownsRow B 74 3 vw S.2.1.length (flat encR S.2.1)
  ho : wr.ownsRow w.heap.size 57 2 vo S.2.2.length (flat encG S.2.2)
  old : wr.ownsRow B 74 3 v0 W.length (flat encR W)
theorem Gs.call {w wr wn : World} {B : Nat} {vD v0 : Value} {W : List Rw} {S : List Rw × List Rw × List (Int × Int)} {vh vw vo : Value} (g : Gs w wr B vD v0 W S vh vw vo) (hb : Below wr.heap.size wr wn) : Gs w wn B vD v0 W S vh vw vo :=
  ⟨g.bel.trans (hb.mono g.bel.size), g.box.below hb g.box.lt, g.res.below hb g.res.lt, own_call g.hh hb, own_call g.hw hb, own_call g.ho hb, own_call g.old hb⟩
/-- Where 't.Holds, t.Waits = Put(holds, x), without(t.Waits, x.Tx)' stands: Put was called (a), without was (b), the first is stored (c), the second is (d). -/
structure Gr (w wi y : World) (B : Nat) (vD v0 : Value) (W : List Rw) (S : List Rw × List Rw × List (Int × Int)) (vh vw vo : Value) (q : Nat) (x : Rw) (vf v1 v2 : Value) (F : List Rw) (a b c d : Bool) : Prop where
  bel : Below w.heap.size w y
  box : Whole y w.heap.size 28 #[if c = true then v1 else vh, if d = true then v2 else vw, vD]
  res : Whole y (w.heap.size + 1) 28 #[.slice none 0 0, .slice none 0 0, .slice none 0 0]
  xbox : Whole y q 74 #[.int .i64 x.tx, .int .i64 x.key, .bool x.b]
  hf : y.ownsRow w.heap.size 74 3 vf F.length (flat encR F)
  hw : y.ownsRow B 74 3 vw S.2.1.length (flat encR S.2.1)
  ho : y.ownsRow w.heap.size 57 2 vo S.2.2.length (flat encG S.2.2)
  old : y.ownsRow B 74 3 v0 W.length (flat encR W)
  put : a = true → y.ownsRow w.heap.size 74 3 v1 (putR x F).length (flat encR (putR x F))
  wo : b = true → y.ownsRow w.heap.size 74 3 v2 (withoutR S.2.1 x.tx).length (flat encR (withoutR S.2.1 x.tx))
  ord : (c = true → a = true) ∧ (d = true → b = true)
section
variable {w wi y y' : World} {B : Nat} {vD v0 : Value} {W : List Rw} {S : List Rw × List Rw × List (Int × Int)} {vh vw vo : Value} {q : Nat} {x : Rw} {vf v1 v2 : Value} {F : List Rw} {a b c d : Bool}
theorem Gr.start (g : Gs w y B vD v0 W S vh vw vo) (hx : Whole y q 74 #[.int .i64 x.tx, .int .i64 x.key, .bool x.b]) (hf : y.ownsRow w.heap.size 74 3 vf F.length (flat encR F)) (v1 v2 : Value) : Gr w wi y B vD v0 W S vh vw vo q x vf v1 v2 F false false false false :=
  ⟨g.bel, g.box, g.res, hx, hf, g.hw, g.ho, g.old, (fun h => by cases h), (fun h => by cases h), (fun h => by cases h), fun h => by cases h⟩
theorem Gr.call (g : Gr w wi y B vD v0 W S vh vw vo q x vf v1 v2 F a b c d) (hb : Below y.heap.size y y') : Gr w wi y' B vD v0 W S vh vw vo q x vf v1 v2 F a b c d :=
  ⟨g.bel.trans (hb.mono g.bel.size), g.box.below hb g.box.lt, g.res.below hb g.res.lt, g.xbox.below hb g.xbox.lt, own_call g.hf hb, own_call g.hw hb, own_call g.ho hb, own_call g.old hb, fun h => own_call (g.put h) hb, fun h => own_call (g.wo h) hb, g.ord⟩
theorem Gr.putd (g : Gr w wi y B vD v0 W S vh vw vo q x vf v1 v2 F false b c d) (hb : Below y.heap.size y y') {v : Value} (ho : y'.ownsRow y.heap.size 74 3 v (putR x F).length (flat encR (putR x F))) : Gr w wi y' B vD v0 W S vh vw vo q x vf v v2 F true b c d := by
  have hc : c = false := by cases c with | false => rfl | true => have := g.ord.1 rfl; cases this
  subst hc
  have k := g.call hb
  exact ⟨k.bel, k.box, k.res, k.xbox, k.hf, k.hw, k.ho, k.old, fun _ => own_lessB ho g.bel.size, k.wo, (fun h => by cases h), k.ord.2⟩
theorem Gr.wod (g : Gr w wi y B vD v0 W S vh vw vo q x vf v1 v2 F a false c d) (hb : Below y.heap.size y y') {v : Value} (ho : y'.ownsRow y.heap.size 74 3 v (withoutR S.2.1 x.tx).length (flat encR (withoutR S.2.1 x.tx))) : Gr w wi y' B vD v0 W S vh vw vo q x vf v1 v F a true c d := by
  have hd : d = false := by cases d with | false => rfl | true => have := g.ord.2 rfl; cases this
  subst hd
  have k := g.call hb
  exact ⟨k.bel, k.box, k.res, k.xbox, k.hf, k.hw, k.ho, k.old, k.put, fun _ => own_lessB ho g.bel.size, k.ord.1, fun h => by cases h⟩
theorem Gr.far (g : Gr w wi y B vD v0 W S vh vw vo q x vf v1 v2 F a b c d) : vf.ownBlock ≠ some w.heap.size ∧ vw.ownBlock ≠ some w.heap.size ∧ vo.ownBlock ≠ some w.heap.size ∧ v0.ownBlock ≠ some w.heap.size ∧ (a = true → v1.ownBlock ≠ some w.heap.size) ∧ (b = true → v2.ownBlock ≠ some w.heap.size) ∧ q ≠ w.heap.size :=
  ⟨own_kind g.hf g.box (by decide), own_kind g.hw g.box (by decide), own_kind g.ho g.box (by decide), own_kind g.old g.box (by decide), fun h => own_kind (g.put h) g.box (by decide), fun h => own_kind (g.wo h) g.box (by decide), whole_unlike g.xbox g.box (by decide)⟩
theorem Gr.setH (g : Gr w wi y B vD v0 W S vh vw vo q x vf v1 v2 F true b false d) : Gr w wi (y.setCell ⟨w.heap.size, 0, none⟩ v1) B vD v0 W S vh vw vo q x vf v1 v2 F true b true d := by
  obtain ⟨f1, f2, f3, f4, f5, f6, f7⟩ := g.far
  refine ⟨g.bel.setCell (p := ⟨w.heap.size, 0, none⟩) (Nat.le_refl _) v1, ?_, g.res.away (by show w.heap.size + 1 ≠ w.heap.size; omega) v1, g.xbox.away (p := ⟨w.heap.size, 0, none⟩) f7 v1, own_set g.hf f1, own_set g.hw f2, own_set g.ho f3, own_set g.old f4, fun h => own_set (g.put h) (f5 h), fun h => own_set (g.wo h) (f6 h), (fun _ => rfl), g.ord.2⟩
  have := g.box.set 0 v1
  simpa using this
theorem Gr.setW (g : Gr w wi y B vD v0 W S vh vw vo q x vf v1 v2 F a true c false) : Gr w wi (y.setCell ⟨w.heap.size, 1, none⟩ v2) B vD v0 W S vh vw vo q x vf v1 v2 F a true c true := by
  obtain ⟨f1, f2, f3, f4, f5, f6, f7⟩ := g.far
  refine ⟨g.bel.setCell (p := ⟨w.heap.size, 1, none⟩) (Nat.le_refl _) v2, ?_, g.res.away (by show w.heap.size + 1 ≠ w.heap.size; omega) v2, g.xbox.away (p := ⟨w.heap.size, 1, none⟩) f7 v2, own_set g.hf f1, own_set g.hw f2, own_set g.ho f3, own_set g.old f4, fun h => own_set (g.put h) (f5 h), fun h => own_set (g.wo h) (f6 h), g.ord.1, (fun _ => rfl)⟩
  have := g.box.set 1 v2
  simpa using this
/-- Behind it, and behind the answer's append: one waiting one more. -/
theorem Gr.fin (g : Gr w wi y B vD v0 W S vh vw vo q x vf v1 v2 F true true true true) (hB : B ≤ w.heap.size) (cs : Array Value) (t : TypeId) {y2 : World} {vo' : Value} (hg : (y.alloc (.cells cs t)).grownBy y2 vo.ownBlock) (ho : y2.ownsRow w.heap.size 57 2 vo' (S.2.2.length + 1) (flat encG (S.2.2 ++ [(x.tx, x.key)]))) :
    Gs w y2 B vD v0 W (putR x F, withoutR S.2.1 x.tx, S.2.2 ++ [(x.tx, x.key)]) v1 v2 vo' := by
  have k := g.call ((Below.refl y.heap.size y).alloc (Nat.le_refl _) (.cells cs t))
  refine ⟨k.bel.grown hg k.bel.size fun i hi => own_block_ge k.ho hi, ?_, k.res.grown hg fun e => own_kind k.ho k.res (by decide) e.symm, own_grow (own_lessB (k.put rfl) hB) hg fun b hb e => own_apart (k.put rfl) k.ho (by decide) b hb e, own_grow (own_lessB (k.wo rfl) hB) hg fun b hb e => own_apart (k.wo rfl) k.ho (by decide) b hb e, ?_, own_grow k.old hg fun b hb e => own_apart k.old k.ho (by decide) b hb e⟩
  · have := k.box.grown hg fun e => own_kind k.ho k.box (by decide) e.symm
    simpa using this
  · rw [List.length_append]
    exact ho
/-- Its result is laid down. -/
theorem Gs.out {wr : World} (g : Gs w wr B vD v0 W S vh vw vo) : ∀ u0 u1 u2 : Value, (((wr.setCell ⟨w.heap.size + 1, 0, none⟩ u0).setCell ⟨w.heap.size + 1, 1, none⟩ u1).setCell ⟨w.heap.size + 1, 2, none⟩ u2).ownsRow B 74 3 vh S.1.length (flat encR S.1) ∧
    (((wr.setCell ⟨w.heap.size + 1, 0, none⟩ u0).setCell ⟨w.heap.size + 1, 1, none⟩ u1).setCell ⟨w.heap.size + 1, 2, none⟩ u2).ownsRow B 74 3 vw S.2.1.length (flat encR S.2.1) ∧
    (((wr.setCell ⟨w.heap.size + 1, 0, none⟩ u0).setCell ⟨w.heap.size + 1, 1, none⟩ u1).setCell ⟨w.heap.size + 1, 2, none⟩ u2).ownsRow w.heap.size 57 2 vo S.2.2.length (flat encG S.2.2) ∧
    Below w.heap.size w (((wr.setCell ⟨w.heap.size + 1, 0, none⟩ u0).setCell ⟨w.heap.size + 1, 1, none⟩ u1).setCell ⟨w.heap.size + 1, 2, none⟩ u2) := fun u0 u1 u2 => by
  have a1 := own_kind g.hh g.res (by decide)
  have a2 := own_kind g.hw g.res (by decide)
  have a3 := own_kind g.ho g.res (by decide)
  exact ⟨own_set (own_set (own_set g.hh a1) a1) a1, own_set (own_set (own_set g.hw a2) a2) a2, own_set (own_set (own_set g.ho a3) a3) a3, ((g.bel.setCell (p := ⟨w.heap.size + 1, 0, none⟩) (Nat.le_succ _) _).setCell (p := ⟨w.heap.size + 1, 1, none⟩) (Nat.le_succ _) _).setCell (p := ⟨w.heap.size + 1, 2, none⟩) (Nat.le_succ _) _⟩
end
end Go.Proofs.Ytcjefigcaifmeaa
