/- Where the law's does stands: both nets, and its three boxes. -/
import Derived.Test.YtmbednikbdfnmaaPostRz
namespace Go.Proofs.Ytmbednikbdfnmaa
open Go.ChangeShapes Go.WideShapes Go.ChangeAt Go.RowKit Go.Po Go.Maps
set_option linter.unusedVariables false
set_option linter.unusedSimpArgs false
set_option maxRecDepth 100000

structure Dp (W : World) (s : Nat) (w : World) (L : List Row) (g : Nat) (v : Value) (u : List (Lt (List UInt8))) (n : Nt (List UInt8)) (R C Z : Array Value) : Prop where
  pq : Pq W w ((s + 2, 38, Z) :: (s + 1, 43, C) :: (s, 38, R) :: L) g v u n
  low : W.heap.size ≤ s
  far : ∀ r ∈ L, r.1 ≠ s ∧ r.1 ≠ s + 1 ∧ r.1 ≠ s + 2
section
variable {W w w' : World} {s : Nat} {L : List Row} {g : Nat} {v v' : Value} {u u' : List (Lt (List UInt8))} {n n' : Nt (List UInt8)} {R C Z : Array Value}
theorem Dp.start (h : Pq W w L g v u n) (R C Z : Array Value) : Dp W w.heap.size (((w.alloc (.cells R 38)).alloc (.cells C 43)).alloc (.cells Z 38)) L g v u n R C Z :=
  ⟨((h.alloc w.heap.size rfl _ R).alloc (w.heap.size + 1) (by simp) _ C).alloc (w.heap.size + 2) (by simp) _ Z, h.lp.st.below.size, fun r hr => by
    have := (h.lp.knows r hr).lt
    omega⟩
theorem Dp.box (h : Dp W s w L g v u n R C Z) : Whole w s 38 R := h.pq.whole (by simp)
theorem Dp.op (h : Dp W s w L g v u n R C Z) : Whole w (s + 1) 43 C := h.pq.whole (by simp)
theorem Dp.res (h : Dp W s w L g v u n R C Z) : Whole w (s + 2) 38 Z := h.pq.whole (by simp)
theorem Dp.whole (h : Dp W s w L g v u n R C Z) {x : Nat} {t : TypeId} {cs : Array Value} (hx : (x, t, cs) ∈ L) : Whole w x t cs := h.pq.whole (by simp [hx])
theorem Dp.fine (h : Dp W s w L g v u n R C Z) : Fine n := h.pq.lp.fine
theorem Dp.rs (h : Dp W s w L g v u n R C Z) : Rs w v u := h.pq.rs
theorem Dp.one (h : Dp W s w L g v u n R C Z) : v.oneCell' = true := h.pq.one
theorem Dp.call (h : Dp W s w L g v u n R C Z) (hb : Below w.heap.size w w') : Dp W s w' L g v u n R C Z := ⟨h.pq.call hb, h.low, h.far⟩
theorem Dp.turn {f : FuncId} {args : Array Value} {X : Ending} (h : Dp W s w L g v u n R C Z) (hc : ∀ L, sLp W w L g n → Calls Try.prog f args w fun e w' => e = X ∧ sLp W w' L g n') : Calls Try.prog f args w fun e w' => e = X ∧ Dp W s w' L g v u n' R C Z :=
  (h.pq.turn hc).mono fun e w' ⟨he, h'⟩ => ⟨he, h', h.low, h.far⟩
theorem Dp.told (h : Dp W s w L g v u n R C Z) (hb : Below w.heap.size w w') (hr : Rg w w' v v' u u') : Dp W s w' L g v' u' n R C Z := ⟨h.pq.told hb hr, h.low, h.far⟩
theorem Dp.setBox (h : Dp W s w L g v u n R C Z) (R' : Array Value) : Dp W s (w.setRow s R') L g v u n R' C Z :=
  ⟨h.pq.row (x := s) (t := 38) (cs := R) (by simp) h.low R' _ fun r hr => by
    rcases List.mem_cons.1 hr with rfl | hr
    · exact .inr ⟨by simp, show s + 2 ≠ s by omega⟩
    rcases List.mem_cons.1 hr with rfl | hr
    · exact .inr ⟨by simp, show s + 1 ≠ s by omega⟩
    rcases List.mem_cons.1 hr with rfl | hr
    · exact .inl rfl
    · exact .inr ⟨by simp [hr], (h.far r hr).1⟩, h.low, h.far⟩
theorem Dp.setRes (h : Dp W s w L g v u n R C Z) (Z' : Array Value) : Dp W s (w.setRow (s + 2) Z') L g v u n R C Z' :=
  ⟨h.pq.row (x := s + 2) (t := 38) (cs := Z) (by simp) (by have := h.low; omega) Z' _ fun r hr => by
    rcases List.mem_cons.1 hr with rfl | hr
    · exact .inl rfl
    rcases List.mem_cons.1 hr with rfl | hr
    · exact .inr ⟨by simp, show s + 1 ≠ s + 2 by omega⟩
    rcases List.mem_cons.1 hr with rfl | hr
    · exact .inr ⟨by simp, show s ≠ s + 2 by omega⟩
    · exact .inr ⟨by simp [hr], (h.far r hr).2.2⟩, h.low, h.far⟩
theorem Dp.lt (h : Dp W s w L g v u n R C Z) : s + 2 < w.heap.size := h.res.lt
theorem Dp.alloc (h : Dp W s w L g v u n R C Z) (x : Nat) (hx : x = w.heap.size) (t : TypeId) (cs : Array Value) : Dp W s (w.alloc (.cells cs t)) ((x, t, cs) :: L) g v u n R C Z :=
  ⟨(h.pq.alloc x hx t cs).few fun r hr => by
    simp only [List.mem_cons] at hr ⊢
    rcases hr with hr | hr | hr | hr | hr <;> simp [hr], h.low, fun r hr => by
    have := h.lt
    rcases List.mem_cons.1 hr with rfl | hr
    · show x ≠ s ∧ x ≠ s + 1 ∧ x ≠ s + 2
      omega
    · exact h.far r hr⟩
theorem Dp.setFirst {x : Nat} {t : TypeId} {cs : Array Value} (h : Dp W s w ((x, t, cs) :: L) g v u n R C Z) (hx : W.heap.size ≤ x) (hd : ∀ r ∈ L, r.1 ≠ x) (cs' : Array Value) : Dp W s (w.setRow x cs') ((x, t, cs') :: L) g v u n R C Z := by
  have hf := h.far (x, t, cs) (List.mem_cons_self ..)
  refine ⟨h.pq.row (x := x) (t := t) (cs := cs) (by simp) hx cs' _ fun r hr => ?_, h.low, fun r hr => ?_⟩
  · rcases List.mem_cons.1 hr with rfl | hr
    · exact .inr ⟨by simp, Ne.symm hf.2.2⟩
    rcases List.mem_cons.1 hr with rfl | hr
    · exact .inr ⟨by simp, Ne.symm hf.2.1⟩
    rcases List.mem_cons.1 hr with rfl | hr
    · exact .inr ⟨by simp, Ne.symm hf.1⟩
    rcases List.mem_cons.1 hr with rfl | hr
    · exact .inl rfl
    · exact .inr ⟨by simp [hr], hd r hr⟩
  · rcases List.mem_cons.1 hr with rfl | hr
    · exact hf
    · exact h.far r (List.mem_cons_of_mem _ hr)
theorem Dp.few {L' : List Row} (h : Dp W s w L g v u n R C Z) (hl : ∀ r ∈ L', r ∈ L) : Dp W s w L' g v u n R C Z :=
  ⟨h.pq.few fun r hr => by
    simp only [List.mem_cons] at hr ⊢
    rcases hr with hr | hr | hr | hr
    · simp [hr]
    · simp [hr]
    · simp [hr]
    · exact .inr (.inr (.inr (hl r hr))), h.low, fun r hr => h.far r (hl r hr)⟩
theorem Dp.out (h : Dp W s w L g v u n R C Z) : Pq W w L g v u n := h.pq.few fun r hr => by simp [hr]
/-- The blocks of L lie below a block that has just come. -/
theorem Dp.new (h : Dp W s w L g v u n R C Z) : ∀ r ∈ L, r.1 ≠ w.heap.size := fun r hr => by
  have := (h.pq.lp.knows r (by simp [hr])).lt
  omega
end
theorem encO_get (r : Option (Lt (List UInt8))) : (encO r).toArray = #[.int .i64 (r.getD ⟨0, 0, 0, []⟩).id, .int .i64 (r.getD ⟨0, 0, 0, []⟩).frm, .int .i64 (r.getD ⟨0, 0, 0, []⟩).to, .string (txt (r.getD ⟨0, 0, 0, []⟩).m)] := by
  cases r <;> rfl
end Go.Proofs.Ytmbednikbdfnmaa
