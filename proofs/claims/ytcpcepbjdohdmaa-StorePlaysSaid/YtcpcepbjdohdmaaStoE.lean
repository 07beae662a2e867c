/- Layer 12: words for the walk of does. (Written by gstoe.py.) -/
import Derived.Test.YtcpcepbjdohdmaaStoDr
namespace Go.Proofs.Ytcpcepbjdohdmaa
open Go.ChangeShapes Go.WideShapes Go.ChangeAt Go.RowKit Go.Cn Go.So
set_option linter.unusedVariables false
set_option linter.unusedSimpArgs false
set_option maxRecDepth 100000
/-- The block of the document's rows. -/
def ym (A : Option Addr) : Nat → Prop := fun b => ∃ a, A = some a ∧ a.block = b
theorem Dv.keep {Y : Nat → Prop} {w w' : World} {A : Option Addr} {cap : Nat} {l : List Dr} (h : Dv w A cap l) (hk : Keep Y w w') (hf : ∀ a, A = some a → Y a.block) : Dv w' A cap l :=
  ⟨sees_keep h.sees hk (fun _ a ha => hf a ha), h.room, h.top, h.nil⟩
section
variable {W w w' : World} {L : List Row} {g : Nat} {s : Sto} {A A' : Option Addr} {p4 p5 p6 : Nat} {tO : TypeId} {oc : Array Value} {x0 x1 x2 y0 y1 y2 : Value}
theorem Ps.at (h : Ps W w L g s (ym A)) (hb : Below w.heap.size w w') (ha : At w w' A A') : Ps W w' L g s (ym A') :=
  h.more hb fun b hb => by
    obtain ⟨a, h1, h2⟩ := hb
    rcases ha a h1 with h3 | h3
    · exact .inl ⟨a, h3, h2⟩
    · exact .inr (by omega)
theorem Ps.fin3 {Y : Nat → Prop} (h : Ps W w ((p6, 27, #[x0, x1, x2]) :: L) g s Y) (h6 : W.heap.size ≤ p6) (hl : ∀ r ∈ L, r.1 ≠ p6) (a b c : Value) :
    Ps W (((w.setCell ⟨p6, 0, none⟩ a).setCell ⟨p6, 1, none⟩ b).setCell ⟨p6, 2, none⟩ c) ((p6, 27, #[a, b, c]) :: L) g s Y :=
  ((h.set0 h6 hl 0 a).set0 h6 hl 1 b).set0 h6 hl 2 c
theorem Ps.fin6 {Y : Nat → Prop} (h : Ps W w ((p6, 27, #[x0, x1, x2]) :: (p5, tO, oc) :: (p4, 27, #[y0, y1, y2]) :: L) g s Y) (h4 : W.heap.size ≤ p4) (h6 : W.heap.size ≤ p6) (h46 : p4 < p5 ∧ p5 < p6) (hl : ∀ r ∈ L, r.1 < p4) (a b c a' b' c' : Value) :
    Ps W ((((((w.setCell ⟨p4, 0, none⟩ a).setCell ⟨p4, 1, none⟩ b).setCell ⟨p4, 2, none⟩ c).setCell ⟨p6, 0, none⟩ a').setCell ⟨p6, 1, none⟩ b').setCell ⟨p6, 2, none⟩ c') L g s Y := by
  have h1 := (h.few (L' := (p4, 27, #[y0, y1, y2]) :: (p6, 27, #[x0, x1, x2]) :: L) (fun r hr => by
    rcases List.mem_cons.1 hr with rfl | hr
    · exact List.mem_cons_of_mem _ (List.mem_cons_of_mem _ (List.mem_cons_self ..))
    · rcases List.mem_cons.1 hr with rfl | hr
      · exact List.mem_cons_self ..
      · exact List.mem_cons_of_mem _ (List.mem_cons_of_mem _ (List.mem_cons_of_mem _ hr)))).fin3 h4 (fun r hr => by
    rcases List.mem_cons.1 hr with rfl | hr
    · simp only; omega
    · have := hl r hr; omega) a b c
  exact ((h1.few (L' := (p6, 27, #[x0, x1, x2]) :: L) (fun r hr => List.mem_cons_of_mem _ hr)).fin3 h6 (fun r hr => by have := hl r hr; omega) a' b' c').few fun r hr => List.mem_cons_of_mem _ hr
/-- A call's boxes. -/
theorem Ps.boxes (h : Ps W w L g s (ym A)) (c4 c6 : Array Value) (t4 t6 : TypeId) : Ps W (((w.alloc (.cells c4 t4)).alloc (.cells oc tO)).alloc (.cells c6 t6)) ((w.heap.size + 1 + 1, t6, c6) :: (w.heap.size + 1, tO, oc) :: (w.heap.size, t4, c4) :: L) g s (ym A) ∧
    Below w.heap.size w (((w.alloc (.cells c4 t4)).alloc (.cells oc tO)).alloc (.cells c6 t6)) ∧ W.heap.size ≤ w.heap.size ∧ ∀ r ∈ L, r.1 < w.heap.size :=
  ⟨((h.alloc w.heap.size rfl t4 c4).alloc (w.heap.size + 1) (by simp) tO oc).alloc (w.heap.size + 1 + 1) (by simp) t6 c6,
    (((Below.refl _ _).alloc (Nat.le_refl _) _).alloc (by simp) _).alloc (by simp; omega) _, h.st.below.size, fun r hr => (h.st.knows r hr).lt⟩
theorem does_facts {a b c x u v k0 k1 k2 k3 : Value} {Y : Nat → Prop} (h : Ps W w ((p6, 27, #[x, u, v]) :: (p5, 33, #[k0, k1, k2, k3]) :: (p4, 27, #[a, b, c]) :: L) g s Y) :
    (w.cell? ⟨p4, 0, none⟩ = some a ∧ w.cell? ⟨p4, 1, none⟩ = some b ∧ w.cell? ⟨p4, 2, none⟩ = some c ∧ w.frozen? ⟨p4, 0, none⟩ = false ∧ w.frozen? ⟨p4, 1, none⟩ = false ∧ w.frozen? ⟨p4, 2, none⟩ = false ∧ p4 < w.heap.size) ∧
    (w.cell? ⟨p6, 0, none⟩ = some x ∧ w.cell? ⟨p6, 1, none⟩ = some u ∧ w.cell? ⟨p6, 2, none⟩ = some v ∧ w.frozen? ⟨p6, 0, none⟩ = false ∧ w.frozen? ⟨p6, 1, none⟩ = false ∧ w.frozen? ⟨p6, 2, none⟩ = false ∧ p6 < w.heap.size) ∧
    (w.cell? ⟨p5, 0, none⟩ = some k0 ∧ w.cell? ⟨p5, 1, none⟩ = some k1 ∧ w.cell? ⟨p5, 2, none⟩ = some k2 ∧ w.cell? ⟨p5, 3, none⟩ = some k3 ∧ p5 < w.heap.size) := by
  have h0 := h.st.knows.at 0 rfl
  have h1 := h.st.knows.at 1 rfl
  have h2 := h.st.knows.at 2 rfl
  exact ⟨⟨h2.cell 0, h2.cell 1, h2.cell 2, h2.free 0, h2.free 1, h2.free 2, h2.lt⟩, ⟨h0.cell 0, h0.cell 1, h0.cell 2, h0.free 0, h0.free 1, h0.free 2, h0.lt⟩, ⟨h1.cell 0, h1.cell 1, h1.cell 2, h1.cell 3, h1.lt⟩⟩
end
end Go.Proofs.Ytcpcepbjdohdmaa
