/- The document's wal: its Act, where neither the wal is dead nor a load too long. -/
import Derived.Test.YtlfigbgcackimaaWalS
import Derived.Test.YtlfigbgcackimaaDiskJ
namespace Go.Proofs.Ytlfigbgcackimaa
open Go.RowKit Go.Fm Go.Dk Go.Wl
set_option linter.unusedVariables false
set_option linter.unusedSimpArgs false
set_option maxRecDepth 100000

/-- Four boxes: the disk's, the wal's, and those of the results. -/
abbrev bxL (n : Nat) (m : Array Value) (u : Array Value) : List Row :=
  [(n, 30, m), (n + 1, 37, u), (n + 2, 30, #[.slice none 0 0, .int .i64 0, .bool false, .int .i64 0, .slice none 0 0]), (n + 3, 37, #[.int .i64 0, .slice none 0 0, .int .i64 0, .bool false])]
theorem seen_off {G F : Nat → Prop} {w w' : World} {size n cap : Nat} {A : Option Addr} {xs : List Value} (s : Seen G w size A n cap xs) (ho : Off F w w') (hG : ∀ b, G b → ¬ F b) : Seen G w' size A n cap xs := by
  refine ⟨⟨s.sees.1, fun hn => ?_⟩, s.far, s.room, s.top, s.nil⟩
  obtain ⟨b, off, rfl, hb, hc⟩ := s.sees.2 hn
  refine ⟨b, off, rfl, Nat.lt_of_lt_of_le hb ho.size, fun j v hv => ?_⟩
  rw [World.cell?_of_block (a := ⟨b, off + j, none⟩) (ho.block b hb (hG b (s.far hn _ rfl)))]
  exact hc j v hv
theorem IsM.off {G F : Nat → Prop} {w w' : World} {AL : Option Addr} {cL : Nat} {AK : Option Addr} {cK : Nat} {r : Rf} (h : IsM G w AL cL AK cK r) (ho : Off F w w') (hG : ∀ b, G b → ¬ F b) : IsM G w' AL cL AK cK r := ⟨seen_off h.logs ho hG, seen_off h.keep ho hG⟩
/-- The boxes of a call that began at W. -/
def Box (W : World) (b : Nat) : Prop := W.heap.size ≤ b ∧ b < W.heap.size + 4
/-- Where the call stands: its boxes are known, and of what there was at w2 only they have changed. -/
structure Zs (W w2 w : World) (m u : Array Value) : Prop where
  st : St W w (bxL W.heap.size m u)
  off : Off (Box W) w2 w
section
variable {W w2 w w' : World} {m0 m1 m2 m3 m4 u0 u1 u2 u3 : Value} {m u : Array Value}
theorem Zs.call (h : Zs W w2 w m u) (hb : Below w.heap.size w w') : Zs W w2 w' m u := ⟨h.st.call hb, h.off.call hb⟩
theorem box_at (W : World) (k : Nat) (hk : k < 4) : Box W (W.heap.size + k) := ⟨by omega, by omega⟩
theorem Zs.m5 (h : Zs W w2 w #[m0, m1, m2, m3, m4] u) (b0 b1 b2 b3 b4 : Value) :
    Zs W w2 (((((w.setCell ⟨W.heap.size, 0, none⟩ b0).setCell ⟨W.heap.size, 1, none⟩ b1).setCell ⟨W.heap.size, 2, none⟩ b2).setCell ⟨W.heap.size, 3, none⟩ b3).setCell ⟨W.heap.size, 4, none⟩ b4) #[b0, b1, b2, b3, b4] u :=
  ⟨h.st.five (Nat.le_refl _) (fun r hr => by
    simp only [List.mem_cons, List.not_mem_nil, or_false] at hr
    rcases hr with rfl | rfl | rfl <;> (show _ ≠ _; simp only; omega)) b0 b1 b2 b3 b4,
   ((((h.off.set (p := ⟨W.heap.size, 0, none⟩) (.inl (box_at W 0 (by omega))) b0).set (p := ⟨W.heap.size, 1, none⟩) (.inl (box_at W 0 (by omega))) b1).set (p := ⟨W.heap.size, 2, none⟩) (.inl (box_at W 0 (by omega))) b2).set (p := ⟨W.heap.size, 3, none⟩) (.inl (box_at W 0 (by omega))) b3).set (p := ⟨W.heap.size, 4, none⟩) (.inl (box_at W 0 (by omega))) b4⟩
theorem Zs.uk (h : Zs W w2 w m u) (k : Nat) (v : Value) : Zs W w2 (w.setCell ⟨W.heap.size + 1, k, none⟩ v) m (u.setIfInBounds k v) := by
  refine ⟨?_, h.off.set (p := ⟨W.heap.size + 1, k, none⟩) (.inl (box_at W 1 (by omega))) v⟩
  have h1 : St W w ((W.heap.size + 1, 37, u) :: [(W.heap.size, 30, m), (W.heap.size + 2, 30, #[.slice none 0 0, .int .i64 0, .bool false, .int .i64 0, .slice none 0 0]), (W.heap.size + 3, 37, #[.int .i64 0, .slice none 0 0, .int .i64 0, .bool false])]) := h.st.few fun r hr => by
    simp only [List.mem_cons, List.not_mem_nil, or_false] at hr ⊢
    rcases hr with h | h | h | h <;> simp [h]
  have h2 := h1.set0 (by omega) (fun r hr => by
    simp only [List.mem_cons, List.not_mem_nil, or_false] at hr
    rcases hr with rfl | rfl | rfl <;> (show _ ≠ _; simp only; omega)) k v
  exact h2.few fun r hr => by
    simp only [List.mem_cons, List.not_mem_nil, or_false] at hr ⊢
    rcases hr with h | h | h | h <;> simp [h]
theorem Zs.facts (h : Zs W w2 w #[m0, m1, m2, m3, m4] #[u0, u1, u2, u3]) :
    ((w.cell? ⟨W.heap.size, 0, none⟩ = some m0 ∧ w.cell? ⟨W.heap.size, 1, none⟩ = some m1 ∧ w.cell? ⟨W.heap.size, 2, none⟩ = some m2 ∧ w.cell? ⟨W.heap.size, 3, none⟩ = some m3 ∧ w.cell? ⟨W.heap.size, 4, none⟩ = some m4) ∧
      w.frozen? ⟨W.heap.size, 0, none⟩ = false ∧ w.frozen? ⟨W.heap.size, 1, none⟩ = false ∧ w.frozen? ⟨W.heap.size, 2, none⟩ = false ∧ w.frozen? ⟨W.heap.size, 3, none⟩ = false ∧ w.frozen? ⟨W.heap.size, 4, none⟩ = false) ∧
    ((w.cell? ⟨W.heap.size + 1, 0, none⟩ = some u0 ∧ w.cell? ⟨W.heap.size + 1, 1, none⟩ = some u1 ∧ w.cell? ⟨W.heap.size + 1, 2, none⟩ = some u2 ∧ w.cell? ⟨W.heap.size + 1, 3, none⟩ = some u3) ∧
      w.frozen? ⟨W.heap.size + 1, 0, none⟩ = false ∧ w.frozen? ⟨W.heap.size + 1, 1, none⟩ = false ∧ w.frozen? ⟨W.heap.size + 1, 2, none⟩ = false ∧ w.frozen? ⟨W.heap.size + 1, 3, none⟩ = false) ∧ W.heap.size + 3 < w.heap.size :=
  ⟨(h.st.knows.at 0 rfl).five, (h.st.knows.at 1 rfl).four, (h.st.knows.at 3 rfl).lt⟩
theorem Zs.outs (h : Zs W w2 w m u) :
    ((w.cell? ⟨W.heap.size + 2, 0, none⟩ = some (.slice none 0 0) ∧ w.cell? ⟨W.heap.size + 2, 1, none⟩ = some (.int .i64 0) ∧ w.cell? ⟨W.heap.size + 2, 2, none⟩ = some (.bool false) ∧ w.cell? ⟨W.heap.size + 2, 3, none⟩ = some (.int .i64 0) ∧ w.cell? ⟨W.heap.size + 2, 4, none⟩ = some (.slice none 0 0)) ∧
      w.frozen? ⟨W.heap.size + 2, 0, none⟩ = false ∧ w.frozen? ⟨W.heap.size + 2, 1, none⟩ = false ∧ w.frozen? ⟨W.heap.size + 2, 2, none⟩ = false ∧ w.frozen? ⟨W.heap.size + 2, 3, none⟩ = false ∧ w.frozen? ⟨W.heap.size + 2, 4, none⟩ = false) ∧
    ((w.cell? ⟨W.heap.size + 3, 0, none⟩ = some (.int .i64 0) ∧ w.cell? ⟨W.heap.size + 3, 1, none⟩ = some (.slice none 0 0) ∧ w.cell? ⟨W.heap.size + 3, 2, none⟩ = some (.int .i64 0) ∧ w.cell? ⟨W.heap.size + 3, 3, none⟩ = some (.bool false)) ∧
      w.frozen? ⟨W.heap.size + 3, 0, none⟩ = false ∧ w.frozen? ⟨W.heap.size + 3, 1, none⟩ = false ∧ w.frozen? ⟨W.heap.size + 3, 2, none⟩ = false ∧ w.frozen? ⟨W.heap.size + 3, 3, none⟩ = false) :=
  ⟨(h.st.knows.at 2 rfl).five, (h.st.knows.at 3 rfl).four⟩
end
/-- What has been told, once the results' boxes have been filled: by what had come at w2. -/
theorem racts_told {w w1 w2 wl wf : World} {r : Rf} {u u' : Rw} {AL : Option Addr} {cL : Nat} {AK : Option Addr} {cK : Nat} {AV : Option Addr} {cV : Nat} {r' : Rf} {E : Int} {A1 : Option Addr} {c1 : Nat} {A2 : Option Addr} {c2 : Nat} {A3 : Option Addr} {c3 : Nat}
    (hb1 : Below w.heap.size w w1) (h4 : w.heap.size + 4 ≤ w1.heap.size) (hb2 : Below w1.heap.size w1 w2) (hm : ∀ G, IsM G w1 AL cL AK cK r → IsM (fun b => G b ∨ w1.heap.size ≤ b) w2 A1 c1 A2 c2 r')
    (ho : Off (Box w) w2 wf) (hw : (A3 = AV ∧ c3 = cV ∧ u'.ls = u.ls) ∨ (Seen (fun b => w2.heap.size ≤ b) wl 1 A3 u'.ls.length c3 (strs u'.ls) ∧ Off (Box w) wl wf)) :
    RActs w r u AL cL AK cK AV cV (r', u', E) (.returned (.tuple #[vM A1 c1 A2 c2 r', vW A3 c3 u', .int .i64 E])) wf := by
  have hz1 := hb2.size
  have hbf : Below w.heap.size w wf := (hb1.trans (hb2.mono hb1.size)).trans (ho.below (by have := hb1.size; omega) fun k hk => hk.1)
  refine ⟨A1, c1, A2, c2, A3, c3, rfl, hbf, fun G h => ?_, fun G h => ?_⟩
  · have h1 : IsM (fun b => G b ∧ b < w.heap.size) w AL cL AK cK r := h.mono fun b hb hg => ⟨hg, hb⟩
    have h2 : IsM (fun b => G b ∧ b < w.heap.size) w1 AL cL AK cK r := h1.call hb1
    refine ((hm _ h2).off ho fun b hb hf => ?_).mono fun b _ hb => ?_
    · rcases hb with hb | hb
      · have := hf.1; omega
      · have := hf.2; omega
    · rcases hb with hb | hb
      · exact .inl hb.1
      · exact .inr (by have := hb1.size; omega)
  · rcases hw with ⟨rfl, rfl, e⟩ | ⟨hs, hol⟩
    · unfold IsW at h ⊢
      simp only [e]
      exact (Seen.call h hbf).mono fun _ _ h => .inl h
    · refine (seen_off hs hol fun b hb hf => ?_).mono fun b _ hb => .inr (by have := hb1.size; omega)
      have := hf.2
      omega
end Go.Proofs.Ytlfigbgcackimaa
