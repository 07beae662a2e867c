/- Both nets side by side: where the law's does stands. -/
import Derived.Test.YtmbednikbdfnmaaPostRw
import Derived.Test.YtmbednikbdfnmaaPostRx
namespace Go.Proofs.Ytmbednikbdfnmaa
open Go.ChangeShapes Go.WideShapes Go.ChangeAt Go.RowKit Go.Po Go.Maps
set_option linter.unusedVariables false
set_option linter.unusedSimpArgs false
set_option maxRecDepth 100000

theorem Lp.row0 {α : Type} {t e : TypeId} {p : α → Value} {g : Nat} {W w : World} {L : List Row} {n : Nt α} {x : Nat} {t' : TypeId} {cs : Array Value} (h : Lp t e p W w ((x, t', cs) :: L) g n) (hx : W.heap.size ≤ x) (hd : ∀ r ∈ L, r.1 ≠ x) (cs' : Array Value) : Lp t e p W (w.setRow x cs') ((x, t', cs') :: L) g n := by
  obtain ⟨F, ⟨mb, v, y⟩, h1, h2⟩ := h.net
  refine ⟨⟨below_setRow h.st.below hx cs', fun r hr => ?_⟩, F, ⟨mb, v, y.away (by simp) fun b hb => setRow_other w x b cs' fun e => ?_⟩, h1, fun r hr => ?_⟩
  · rcases List.mem_cons.1 hr with rfl | hr
    · exact (h.st.knows (x, t', cs) (List.mem_cons_self ..)).setRow cs'
    · exact (h.st.knows r (List.mem_cons_of_mem _ hr)).rowAway (hd r hr) cs'
  · subst e
    exact h2 _ (List.mem_cons_self ..) hb
  · rcases List.mem_cons.1 hr with rfl | hr
    · exact h2 (x, t', cs) (List.mem_cons_self ..)
    · exact h2 r (List.mem_cons_of_mem _ hr)
/-- The program's net is at g, these blocks are known, and v shows these letters, in a block of its own. -/
def Pq (W w : World) (L : List Row) (g : Nat) (v : Value) (u : List (Lt (List UInt8))) (n : Nt (List UInt8)) : Prop :=
  ∃ R, sLp W w (R ++ L) g n ∧ (∀ r ∈ R, ∀ s ∈ L, r.1 ≠ s.1) ∧ ∀ w2, Knows w2 R → w2.ownsRow 0 85 4 v u.length (flat (encL sP) u)
section
variable {W w w' : World} {L : List Row} {g : Nat} {v v' : Value} {u u' : List (Lt (List UInt8))} {n n' : Nt (List UInt8)}
theorem Pq.lp (h : Pq W w L g v u n) : sLp W w L g n := by
  obtain ⟨R, h, -, -⟩ := h
  exact h.few fun r hr => List.mem_append.2 (.inr hr)
theorem Pq.rs (h : Pq W w L g v u n) : Rs w v u := by
  obtain ⟨R, h, -, ho⟩ := h
  exact Rs.own (ho w fun r hr => h.knows r (List.mem_append.2 (.inl hr)))
theorem Pq.one (h : Pq W w L g v u n) : v.oneCell' = true := by
  obtain ⟨A, cap, rfl, -⟩ := h.rs.lies
  rfl
theorem Pq.call (h : Pq W w L g v u n) (hb : Below w.heap.size w w') : Pq W w' L g v u n := by
  obtain ⟨R, h, hd, ho⟩ := h
  exact ⟨R, h.call hb, hd, ho⟩
theorem Pq.whole (h : Pq W w L g v u n) {x : Nat} {t : TypeId} {cs : Array Value} (hx : (x, t, cs) ∈ L) : Whole w x t cs := h.lp.knows (x, t, cs) hx
theorem Pq.few (h : Pq W w L g v u n) {L' : List Row} (hl : ∀ r ∈ L', r ∈ L) : Pq W w L' g v u n := by
  obtain ⟨R, h, hd, ho⟩ := h
  refine ⟨R, h.few fun r hr => ?_, fun r hr s hs => hd r hr s (hl s hs), ho⟩
  rcases List.mem_append.1 hr with hr | hr
  · exact List.mem_append.2 (.inl hr)
  · exact List.mem_append.2 (.inr (hl r hr))
theorem Pq.alloc (h : Pq W w L g v u n) (x : Nat) (hx : x = w.heap.size) (t : TypeId) (cs : Array Value) : Pq W (w.alloc (.cells cs t)) ((x, t, cs) :: L) g v u n := by
  obtain ⟨R, h, hd, ho⟩ := h
  refine ⟨R, (h.alloc x hx t cs).few fun r hr => ?_, fun r hr s hs => ?_, ho⟩
  · rcases List.mem_append.1 hr with hr | hr
    · exact List.mem_cons_of_mem _ (List.mem_append.2 (.inl hr))
    · rcases List.mem_cons.1 hr with rfl | hr
      · exact List.mem_cons_self ..
      · exact List.mem_cons_of_mem _ (List.mem_append.2 (.inr hr))
  · rcases List.mem_cons.1 hs with rfl | hs
    · have := (h.knows r (List.mem_append.2 (.inl hr))).lt
      show r.1 ≠ x
      omega
    · exact hd r hr s hs
theorem Pq.row (h : Pq W w L g v u n) {x : Nat} {t : TypeId} {cs : Array Value} (hx : (x, t, cs) ∈ L) (hW : W.heap.size ≤ x) (cs' : Array Value) (L' : List Row) (hl : ∀ r ∈ L', r = (x, t, cs') ∨ (r ∈ L ∧ r.1 ≠ x)) : Pq W (w.setRow x cs') L' g v u n := by
  obtain ⟨R, h, hd, ho⟩ := h
  have h1 : sLp W w ((x, t, cs) :: ((R ++ L).filter fun r => decide (r.1 ≠ x))) g n := h.few fun r hr => by
    rcases List.mem_cons.1 hr with rfl | hr
    · exact List.mem_append.2 (.inr hx)
    · exact (List.mem_filter.1 hr).1
  have h2 := h1.row0 hW (fun r hr => by simpa using (List.mem_filter.1 hr).2) cs'
  refine ⟨R, h2.few fun r hr => ?_, fun r hr s hs => ?_, ho⟩
  · rcases List.mem_append.1 hr with hr | hr
    · exact List.mem_cons_of_mem _ (List.mem_filter.2 ⟨List.mem_append.2 (.inl hr), by simpa using hd r hr _ hx⟩)
    · rcases hl r hr with rfl | ⟨h3, h4⟩
      · exact List.mem_cons_self ..
      · exact List.mem_cons_of_mem _ (List.mem_filter.2 ⟨List.mem_append.2 (.inr h3), by simpa using h4⟩)
  · rcases hl s hs with rfl | ⟨h3, h4⟩
    · exact hd r hr (x, t, cs) hx
    · exact hd r hr s h3
/-- A call of the program's net. -/
theorem Pq.turn {f : FuncId} {args : Array Value} {X : Ending} (h : Pq W w L g v u n) (hc : ∀ L, sLp W w L g n → Calls Try.prog f args w fun e w' => e = X ∧ sLp W w' L g n') : Calls Try.prog f args w fun e w' => e = X ∧ Pq W w' L g v u n' := by
  obtain ⟨R, h, hd, ho⟩ := h
  exact (hc _ h).mono fun e w' ⟨he, h'⟩ => ⟨he, R, h', hd, ho⟩
/-- A call of the document's. -/
theorem Pq.told (h : Pq W w L g v u n) (hb : Below w.heap.size w w') (hr : Rg w w' v v' u u') : Pq W w' L g v' u' n := by
  rcases hr with ⟨rfl, rfl⟩ | ho
  · exact h.call hb
  · have h1 := h.lp
    obtain ⟨A, cap, R, rfl, -, -, -, h2, h3, h4, -⟩ := h1.own hb ho
    exact ⟨R, h2, fun r hr s hs => by have := h4 r hr; have := (h1.knows s hs).lt; omega, h3⟩
end
theorem lose_same (n : Nt (List UInt8)) (i : Int) : (n.lose i).1.sent = n.sent ∧ (n.lose i).1.nodes = n.nodes ∧ (n.lose i).1.off = n.off ∧ (n.lose i).1.puts = n.puts := by
  unfold Nt.lose
  split <;> exact ⟨rfl, rfl, rfl, rfl⟩
theorem purge_same (n : Nt (List UInt8)) (i : Int) : (n.purge i).1.sent = n.sent ∧ (n.purge i).1.nodes = n.nodes ∧ (n.purge i).1.off = n.off ∧ (n.purge i).1.puts = n.puts := by
  unfold Nt.purge
  split <;> exact ⟨rfl, rfl, rfl, rfl⟩
theorem take_same (n : Nt (List UInt8)) (i : Int) : (n.take i).1.sent = n.sent ∧ (n.take i).1.nodes = n.nodes ∧ (n.take i).1.off = n.off ∧ (n.take i).1.puts = n.puts := by
  unfold Nt.take
  split
  · split
    · exact ⟨rfl, rfl, rfl, rfl⟩
    · split <;> exact ⟨rfl, rfl, rfl, rfl⟩
  · exact ⟨rfl, rfl, rfl, rfl⟩
theorem cut_same (n : Nt (List UInt8)) (x : Int) (off : Bool) : (n.cut x off).1.sent = n.sent ∧ (n.cut x off).1.nodes = n.nodes ∧ (n.cut x off).1.under = n.under ∧ (n.cut x off).1.puts ≤ n.puts + 1 := by
  unfold Nt.cut
  split
  · exact ⟨rfl, rfl, rfl, Nat.le_refl _⟩
  · exact ⟨rfl, rfl, rfl, by show n.puts ≤ _; omega⟩
theorem send_most (n : Nt (List UInt8)) (a b : Int) (m : List UInt8) : (n.send a b m).1.sent ≤ n.sent + 1 := by
  unfold Nt.send
  split
  · show n.sent ≤ _; omega
  · split
    · show n.sent ≤ _; omega
    · exact Nat.le_refl _
end Go.Proofs.Ytmbednikbdfnmaa
