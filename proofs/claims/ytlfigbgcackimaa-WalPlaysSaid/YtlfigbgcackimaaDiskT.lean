/- The document's disk: words for its Act (written by gract.py). -/
import Derived.Test.YtlfigbgcackimaaDiskC
namespace Go.Proofs.Ytlfigbgcackimaa
open Go.RowKit Go.Dk
set_option linter.unusedVariables false
set_option linter.unusedSimpArgs false
set_option maxRecDepth 100000

section
variable {g : Nat} {W w w' : World} {AL AL' : Option Addr} {cL cL' : Nat} {AK AK' : Option Addr} {cK cK' : Nat} {r r' : Rf}
theorem IsM.call {G : Nat → Prop} (h : IsM G w AL cL AK cK r) (hb : Below w.heap.size w w') : IsM G w' AL cL AK cK r := ⟨h.logs.call hb, h.keep.call hb⟩
theorem IsM.mono {G H : Nat → Prop} (h : IsM G w AL cL AK cK r) (hG : ∀ b, b < w.heap.size → G b → H b) : IsM H w AL cL AK cK r := ⟨h.logs.mono hG, h.keep.mono hG⟩
theorem seen_set {G : Nat → Prop} {size n cap : Nat} {A : Option Addr} {xs : List Value} (s : Seen G w size A n cap xs) (p : Addr) (u : Value) (hp : ∀ b, G b → b ≠ p.block) : Seen G (w.setCell p u) size A n cap xs := by
  refine ⟨⟨s.sees.1, fun hn => ?_⟩, s.far, s.room, s.top, s.nil⟩
  obtain ⟨b, off, rfl, hb, hc⟩ := s.sees.2 hn
  refine ⟨b, off, rfl, by simpa using hb, fun j v hv => ?_⟩
  rw [World.cell?_setCell_other w p ⟨b, off + j, none⟩ u (fun e => hp b (s.far hn _ rfl) (by rw [e]))]
  exact hc j v hv
theorem IsM.set {G : Nat → Prop} (h : IsM G w AL cL AK cK r) (p : Addr) (u : Value) (hp : ∀ b, G b → b ≠ p.block) : IsM G (w.setCell p u) AL cL AK cK r := ⟨seen_set h.logs p u hp, seen_set h.keep p u hp⟩
end
/-- Five cells of a disk's box are set. -/
theorem St.five {W w : World} {L : List Row} {x : Nat} {t : TypeId} {a0 a1 a2 a3 a4 : Value} (h : St W w ((x, t, #[a0, a1, a2, a3, a4]) :: L)) (hx : W.heap.size ≤ x) (hd : ∀ r ∈ L, r.1 ≠ x) (b0 b1 b2 b3 b4 : Value) :
    St W (((((w.setCell ⟨x, 0, none⟩ b0).setCell ⟨x, 1, none⟩ b1).setCell ⟨x, 2, none⟩ b2).setCell ⟨x, 3, none⟩ b3).setCell ⟨x, 4, none⟩ b4) ((x, t, #[b0, b1, b2, b3, b4]) :: L) :=
  ((((h.set0 hx hd 0 b0).set0 hx hd 1 b1).set0 hx hd 2 b2).set0 hx hd 3 b3).set0 hx hd 4 b4
theorem below_five {B : Nat} {W w : World} (h : Below B W w) {x : Nat} (hx : B ≤ x) (b0 b1 b2 b3 b4 : Value) :
    Below B W (((((w.setCell ⟨x, 0, none⟩ b0).setCell ⟨x, 1, none⟩ b1).setCell ⟨x, 2, none⟩ b2).setCell ⟨x, 3, none⟩ b3).setCell ⟨x, 4, none⟩ b4) :=
  ((((h.setCell (p := ⟨x, 0, none⟩) hx b0).setCell (p := ⟨x, 1, none⟩) hx b1).setCell (p := ⟨x, 2, none⟩) hx b2).setCell (p := ⟨x, 3, none⟩) hx b3).setCell (p := ⟨x, 4, none⟩) hx b4
theorem IsM.five {G : Nat → Prop} {w : World} {AL : Option Addr} {cL : Nat} {AK : Option Addr} {cK : Nat} {r : Rf} (h : IsM G w AL cL AK cK r) (x : Nat) (hp : ∀ b, G b → b ≠ x) (b0 b1 b2 b3 b4 : Value) :
    IsM G (((((w.setCell ⟨x, 0, none⟩ b0).setCell ⟨x, 1, none⟩ b1).setCell ⟨x, 2, none⟩ b2).setCell ⟨x, 3, none⟩ b3).setCell ⟨x, 4, none⟩ b4) AL cL AK cK r :=
  ((((h.set ⟨x, 0, none⟩ b0 hp).set ⟨x, 1, none⟩ b1 hp).set ⟨x, 2, none⟩ b2 hp).set ⟨x, 3, none⟩ b3 hp).set ⟨x, 4, none⟩ b4 hp
theorem Whole.away5 {w : World} {y : Nat} {t : TypeId} {cs : Array Value} (h : Whole w y t cs) {x : Nat} (hp : y ≠ x) (b0 b1 b2 b3 b4 : Value) :
    Whole (((((w.setCell ⟨x, 0, none⟩ b0).setCell ⟨x, 1, none⟩ b1).setCell ⟨x, 2, none⟩ b2).setCell ⟨x, 3, none⟩ b3).setCell ⟨x, 4, none⟩ b4) y t cs :=
  ((((h.away (p := ⟨x, 0, none⟩) hp b0).away (p := ⟨x, 1, none⟩) hp b1).away (p := ⟨x, 2, none⟩) hp b2).away (p := ⟨x, 3, none⟩) hp b3).away (p := ⟨x, 4, none⟩) hp b4
/-- Copy, where two boxes stand; nothing old changes. -/
theorem Sm.copyB (r : Rf) (o : Rok r) (G : Nat → Prop) {AL : Option Addr} {cL : Nat} {AK : Option Addr} {cK : Nat} {W w : World} (hm : IsM G W AL cL AK cK r) {x z : Nat} {cx cz : Array Value}
    (h : St W w [(x, 30, cx), (z, 30, cz)]) (hx : W.heap.size ≤ x) (hz : W.heap.size ≤ z) (ne : x ≠ z) :
    Calls Try.prog 58 #[vM AL cL AK cK r] w fun e w' => ∃ A1 c1 A2 c2, e = .returned (vM A1 c1 A2 c2 r) ∧ Sm W w' x z cx cz r.logs.length A1 c1 (flat encL r.logs) r.keep.length A2 c2 (ints r.keep) ∧ Below w.heap.size w w' ∧ ∀ b, (Value.slice A1 r.logs.length c1).ownBlock = some b → w.heap.size ≤ b :=
  (rcopy_any r o G AL cL AK cK w ⟨hm.logs.call h.below, hm.keep.call h.below⟩).mono fun e w' ⟨A1, c1, A2, c2, he, hb, h1, h2⟩ => ⟨A1, c1, A2, c2, he, ⟨h.call hb, hx, hz, ne, own_less h1 h.below.size, own_less h2 h.below.size⟩, hb, fun b hb => (h1.lt b hb).1⟩
end Go.Proofs.Ytlfigbgcackimaa
