/- Where a law of layer 9 stands; its arguments opened; few. -/
import Derived.Test.YtmbednikbdfnmaaPostdS
import Derived.Test.YtmbednikbdfnmaaPostdI
import Derived.Test.YtmbednikbdfnmaaPostV
namespace Go.Proofs.Ytmbednikbdfnmaa
open Go.ChangeShapes Go.WideShapes Go.ChangeAt Go.RowKit Go.Po
set_option linter.unusedVariables false
set_option linter.unusedSimpArgs false
set_option maxRecDepth 100000

section
variable {α : Type} {t e : TypeId} {p : α → Value} {g : Nat} {W w w' : World} {L : List Row} {n n' : Nt α}
/-- Where a law stands: nothing of W has changed, these blocks are known, and block g, which is none of W, is this net. -/
structure Lp (t e : TypeId) (p : α → Value) (W w : World) (L : List Row) (g : Nat) (n : Nt α) : Prop where
  st : St W w L
  net : ∃ F, Net t e p w g n F ∧ (∀ b, F b → W.heap.size ≤ b) ∧ ∀ r ∈ L, ¬ F r.1
theorem Lp.fine (h : Lp t e p W w L g n) : Fine n := by obtain ⟨F, x, -⟩ := h.net; exact x.fine
theorem Lp.call (h : Lp t e p W w L g n) (hb : Below w.heap.size w w') : Lp t e p W w' L g n := by
  obtain ⟨F, x, h1, h2⟩ := h.net
  exact ⟨h.st.call hb, F, x.call hb, h1, h2⟩
theorem Lp.drewN (h : Lp t e p W w L g n) (k : Nat) : Lp t e p W (w.drewN k) L g n := h.call (below_drewN (Below.refl _ _) k)
theorem Lp.other (h : Lp t e p W w L g n) (o : Obj) : Lp t e p W (w.alloc o) L g n := h.call ((Below.refl _ _).alloc (Nat.le_refl _) o)
theorem Lp.alloc (h : Lp t e p W w L g n) (x : Nat) (hx : x = w.heap.size) (t' : TypeId) (cs : Array Value) : Lp t e p W (w.alloc (.cells cs t')) ((x, t', cs) :: L) g n := by
  obtain ⟨F, y, h1, h2⟩ := h.net
  refine ⟨h.st.alloc x hx t' cs, F, y.call ((Below.refl _ _).alloc (Nat.le_refl _) _), h1, fun r hr => ?_⟩
  rcases List.mem_cons.1 hr with rfl | hr
  · intro hf
    have := y.low hf
    show False
    simp only at this
    omega
  · exact h2 r hr
theorem Lp.few {L' : List Row} (h : Lp t e p W w L g n) (hl : ∀ r ∈ L', r ∈ L) : Lp t e p W w L' g n := by
  obtain ⟨F, y, h1, h2⟩ := h.net
  exact ⟨h.st.few hl, F, y, h1, fun r hr => h2 r (hl r hr)⟩
theorem Lp.knows (h : Lp t e p W w L g n) : Knows w L := h.st.knows
/-- A cell of the first block that is known is set. -/
theorem Lp.set0 {x : Nat} {t' : TypeId} {cs : Array Value} (h : Lp t e p W w ((x, t', cs) :: L) g n) (hx : W.heap.size ≤ x) (hd : ∀ r ∈ L, r.1 ≠ x) (k : Nat) (u : Value) : Lp t e p W (w.setCell ⟨x, k, none⟩ u) ((x, t', cs.setIfInBounds k u) :: L) g n := by
  obtain ⟨F, ⟨mb, v, y⟩, h1, h2⟩ := h.net
  refine ⟨h.st.set0 hx hd k u, F, ⟨mb, v, y.away (by simp) fun b hb => Below.heap_setCell w ⟨x, k, none⟩ u b fun e => ?_⟩, h1, fun r hr => ?_⟩
  · subst e
    exact h2 _ (List.mem_cons_self ..) hb
  · rcases List.mem_cons.1 hr with rfl | hr
    · exact h2 (x, t', cs) (List.mem_cons_self ..)
    · exact h2 r (List.mem_cons_of_mem _ hr)
theorem Lp.turn (h : Lp t e p W w L g n) {F : Nat → Prop} (h1 : ∀ b, F b → W.heap.size ≤ b) (h2 : ∀ r ∈ L, ¬ F r.1) (hm : Went t e p F w w' g n') : Lp t e p W w' L g n' := by
  obtain ⟨ho, F', hF, hd⟩ := hm
  refine ⟨⟨h.st.below.trans (ho.below h.st.below.size h1), fun r hr => ho.whole (h.st.knows r hr) (h2 r hr)⟩, F', hd, fun b hb => ?_, fun r hr hf => ?_⟩
  · rcases hF b hb with hb | hb
    · exact h1 b hb
    · exact Nat.le_trans h.st.below.size hb
  · rcases hF r.1 hf with hb | hb
    · exact h2 r hr hb
    · have := (h.st.knows r hr).lt
      omega
/-- A row of the call's own that has just come: as blocks that are known. -/
theorem Lp.own {size k : Nat} {e' : TypeId} {v : Value} {xs : List Value} (h : Lp t e p W w L g n) (hb : Below w.heap.size w w') (ho : w'.ownsRow w.heap.size e' size v k xs) :
    ∃ A cap R, v = .slice A k cap ∧ k ≤ cap ∧ (A = none → cap = 0) ∧ cap ≤ 9223372036854775807 ∧ Lp t e p W w' (R ++ L) g n ∧ (∀ w2, Knows w2 R → w2.ownsRow 0 e' size (.slice A k cap) k xs) ∧ (∀ r ∈ R, w.heap.size ≤ r.1) ∧ ∀ b, A = some b → ∃ cs, R = [(b.block, e', cs)] := by
  have h1 := h.call hb
  rcases ho.2 with ⟨rfl, h0⟩ | ⟨b, cap, cur, rfl, hB, hh, h2, h3, h4, h5⟩
  · subst h0
    obtain rfl : xs = [] := List.eq_nil_of_length_eq_zero (by simpa using ho.1)
    exact ⟨none, 0, [], rfl, Nat.le_refl _, fun _ => rfl, by omega, h1, (fun w2 _ => World.ownsRow_nil _ _ _ _), (fun r hr => by cases hr), fun b h => by cases h⟩
  · refine ⟨some ⟨b, 0, none⟩, cap, [(b, e', cur)], rfl, h2, (fun h => by cases h), h3, ?_, (fun w2 hk => ⟨ho.1, .inr ⟨b, cap, cur, rfl, Nat.zero_le _, hk _ (List.mem_singleton.2 rfl), h2, h3, h4, h5⟩⟩), (fun r hr => by rw [List.mem_singleton.1 hr]; exact hB), fun b' h => by injection h with h; subst h; exact ⟨cur, rfl⟩⟩
    obtain ⟨F, x, f1, f2⟩ := h.net
    refine ⟨⟨h1.st.below, fun r hr => ?_⟩, F, x.call hb, f1, fun r hr hf => ?_⟩
    · rcases List.mem_cons.1 hr with rfl | hr
      · exact hh
      · exact h1.st.knows r hr
    · rcases List.mem_cons.1 hr with rfl | hr
      · have := x.low hf
        simp only at this
        omega
      · exact f2 r hr hf
end
abbrev sLp (W w : World) (L : List Row) (g : Nat) (n : Nt (List UInt8)) := Lp 82 54 sP W w L g n
abbrev iLp (W w : World) (L : List Row) (g : Nat) (n : Nt Int) := Lp 97 67 iP W w L g n
section
variable {g : Nat} {W w w' : World} {L : List Row} {n : Nt (List UInt8)} {k : Nt Int}
theorem snew_lp (h : St W w L) (m : Int) (hm : 1 ≤ m ∧ m ≤ 64) : Calls Try.prog 17 #[.int .i64 m] w fun e w' => ∃ g, e = .returned (.tuple #[ptr g, .int .i64 0]) ∧ sLp W w' L g (Nt.new m) :=
  (snew_any m hm w).mono fun e w' ⟨g, F, he, hb, hF, hd⟩ => ⟨g, he, h.call hb, F, hd, fun b hb2 => Nat.le_trans h.below.size (hF b hb2), fun r hr hf => by
    have := hF _ hf
    have := (h.knows r hr).lt
    omega⟩
theorem inew_lp (h : St W w L) (m : Int) (hm : 1 ≤ m ∧ m ≤ 64) : Calls Try.prog 29 #[.int .i64 m] w fun e w' => ∃ g, e = .returned (.tuple #[ptr g, .int .i64 0]) ∧ iLp W w' L g (Nt.new m) :=
  (inew_any m hm w).mono fun e w' ⟨g, F, he, hb, hF, hd⟩ => ⟨g, he, h.call hb, F, hd, fun b hb2 => Nat.le_trans h.below.size (hF b hb2), fun r hr hf => by
    have := hF _ hf
    have := (h.knows r hr).lt
    omega⟩
theorem Lp.ssend (h : sLp W w L g n) {a b : Int} (ha : W64 a) (hb : W64 b) (m : List UInt8) (hs : n.sent + 1 ≤ 9223372036854775807) :
    Calls Try.prog 24 #[ptr g, .int .i64 a, .int .i64 b, .string (txt m)] w fun e w' => e = .returned (.tuple #[.int .i64 (n.send a b m).2.1, .int .i64 (n.send a b m).2.2]) ∧ sLp W w' L g (n.send a b m).1 := by
  obtain ⟨F, x, h1, h2⟩ := h.net
  exact (ssend_any g n F a b ha hb m hs w x).mono fun e w' ⟨he, hm⟩ => ⟨he, h.turn h1 h2 hm⟩
theorem Lp.isend (h : iLp W w L g k) {a b : Int} (ha : W64 a) (hb : W64 b) (m : Int) (hs : k.sent + 1 ≤ 9223372036854775807) :
    Calls Try.prog 30 #[ptr g, .int .i64 a, .int .i64 b, .int .i64 m] w fun e w' => e = .returned (.tuple #[.int .i64 (k.send a b m).2.1, .int .i64 (k.send a b m).2.2]) ∧ iLp W w' L g (k.send a b m).1 := by
  obtain ⟨F, x, h1, h2⟩ := h.net
  exact (isend_any g k F a b ha hb m hs w x).mono fun e w' ⟨he, hm⟩ => ⟨he, h.turn h1 h2 hm⟩
theorem Lp.stake (h : sLp W w L g n) {i : Int} (hi : W64 i) :
    Calls Try.prog 25 #[ptr g, .int .i64 i] w fun e w' => e = .returned (.tuple #[.agg (encO (n.take i).2.1).toArray, .int .i64 (n.take i).2.2]) ∧ sLp W w' L g (n.take i).1 := by
  obtain ⟨F, x, h1, h2⟩ := h.net
  exact (take_any g n F i hi w x).mono fun e w' ⟨he, hm⟩ => ⟨he, h.turn h1 h2 hm⟩
theorem Lp.scut (h : sLp W w L g n) {a : Int} (ha : W64 a) (off : Bool) (hp : n.puts < maxLen) :
    Calls Try.prog 28 #[ptr g, .int .i64 a, .bool off] w fun e w' => e = .returned (.int .i64 (n.cut a off).2) ∧ sLp W w' L g (n.cut a off).1 := by
  obtain ⟨F, x, h1, h2⟩ := h.net
  exact (cut_any g n F a ha off hp w x).mono fun e w' ⟨he, hm⟩ => ⟨he, h.turn h1 h2 hm⟩
theorem Lp.scopy (h : sLp W w L g n) {i : Int} (hi : W64 i) : Calls Try.prog 26 #[ptr g, .int .i64 i] w fun e w' => e = .returned (.int .i64 (n.copy i).2) ∧ sLp W w' L g (n.copy i).1 := by
  obtain ⟨F, x, h1, h2⟩ := h.net
  exact (scopy_any g n F i hi w x).mono fun e w' ⟨he, hm⟩ => ⟨he, h.turn h1 h2 hm⟩
theorem Lp.icopy (h : iLp W w L g k) {i : Int} (hi : W64 i) : Calls Try.prog 31 #[ptr g, .int .i64 i] w fun e w' => e = .returned (.int .i64 (k.copy i).2) ∧ iLp W w' L g (k.copy i).1 := by
  obtain ⟨F, x, h1, h2⟩ := h.net
  exact (icopy_any g k F i hi w x).mono fun e w' ⟨he, hm⟩ => ⟨he, h.turn h1 h2 hm⟩
theorem Lp.slose (h : sLp W w L g n) {i : Int} (hi : W64 i) : Calls Try.prog 27 #[ptr g, .int .i64 i] w fun e w' => e = .returned (.int .i64 (n.lose i).2) ∧ sLp W w' L g (n.lose i).1 := by
  obtain ⟨F, x, h1, h2⟩ := h.net
  exact (slose_any g n F i hi w x).mono fun e w' ⟨he, hm⟩ => ⟨he, h.turn h1 h2 hm⟩
theorem Lp.ilose (h : iLp W w L g k) {i : Int} (hi : W64 i) : Calls Try.prog 32 #[ptr g, .int .i64 i] w fun e w' => e = .returned (.int .i64 (k.lose i).2) ∧ iLp W w' L g (k.lose i).1 := by
  obtain ⟨F, x, h1, h2⟩ := h.net
  exact (ilose_any g k F i hi w x).mono fun e w' ⟨he, hm⟩ => ⟨he, h.turn h1 h2 hm⟩
theorem Lp.spurge (h : sLp W w L g n) {i : Int} (hi : W64 i) : Calls Try.prog 35 #[ptr g, .int .i64 i] w fun e w' => e = .returned (.int .i64 (n.purge i).2) ∧ sLp W w' L g (n.purge i).1 := by
  obtain ⟨F, x, h1, h2⟩ := h.net
  exact (spurge_any g n F i hi w x).mono fun e w' ⟨he, hm⟩ => ⟨he, h.turn h1 h2 hm⟩
theorem Lp.ipurge (h : iLp W w L g k) {i : Int} (hi : W64 i) : Calls Try.prog 34 #[ptr g, .int .i64 i] w fun e w' => e = .returned (.int .i64 (k.purge i).2) ∧ iLp W w' L g (k.purge i).1 := by
  obtain ⟨F, x, h1, h2⟩ := h.net
  exact (ipurge_any g k F i hi w x).mono fun e w' ⟨he, hm⟩ => ⟨he, h.turn h1 h2 hm⟩
/-- Its letters, told: a row of the call's own. -/
theorem Lp.sletters (h : sLp W w L g n) : Calls Try.prog 23 #[ptr g] w fun e w' =>
    ∃ A cap R, e = .returned (.slice A n.under.length cap) ∧ n.under.length ≤ cap ∧ (A = none → cap = 0) ∧ cap ≤ 9223372036854775807 ∧ sLp W w' (R ++ L) g n ∧ (∀ w2, Knows w2 R → w2.ownsRow 0 54 4 (.slice A n.under.length cap) n.under.length (flat (encL sP) n.under)) ∧ (∀ r ∈ R, w.heap.size ≤ r.1) ∧ ∀ b, A = some b → ∃ cs, R = [(b.block, 54, cs)] := by
  obtain ⟨F, x, h1, h2⟩ := h.net
  refine (sletters_any g n F w x).mono fun e w' ⟨v, he, ho, hb⟩ => ?_
  obtain ⟨A, cap, R, rfl, hr⟩ := h.own hb ho
  exact ⟨A, cap, R, he, hr⟩
theorem Lp.iletters (h : iLp W w L g k) : Calls Try.prog 33 #[ptr g] w fun e w' =>
    ∃ A cap R, e = .returned (.slice A k.under.length cap) ∧ k.under.length ≤ cap ∧ (A = none → cap = 0) ∧ cap ≤ 9223372036854775807 ∧ iLp W w' (R ++ L) g k ∧ (∀ w2, Knows w2 R → w2.ownsRow 0 67 4 (.slice A k.under.length cap) k.under.length (flat (encL iP) k.under)) ∧ (∀ r ∈ R, w.heap.size ≤ r.1) ∧ ∀ b, A = some b → ∃ cs, R = [(b.block, 67, cs)] := by
  obtain ⟨F, x, h1, h2⟩ := h.net
  refine (iletters_any g k F w x).mono fun e w' ⟨v, he, ho, hb⟩ => ?_
  obtain ⟨A, cap, R, rfl, hr⟩ := h.own hb ho
  exact ⟨A, cap, R, he, hr⟩
end
end Go.Proofs.Ytmbednikbdfnmaa
