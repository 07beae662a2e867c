/- The document's wal: its Act whole; plain: its Open; words for that. -/
import Derived.Test.YtlfigbgcackimaaWalY
namespace Go.Wl
open Go.Dk Go.Fm
set_option linter.unusedVariables false
def Rw.fresh (log : Int) (l : List (List UInt8)) : Rw := ⟨log, l, l.length, false⟩
def Rf.opn2 (q : Rf × Int) (u : Rw) : Rf × Rw × Int := if q.2 = 0 then (q.1, u, 0) else (q.1, Rw.none, q.2)
/-- What the document's Open makes of a disk that has the log. -/
def Rf.opn (r : Rf) (log : Int) : Rf × Rw × Int :=
  if r.off then (r, Rw.none, 71) else
    if (scan (r.bytes log)).2 < (r.bytes log).length then Rf.opn2 (r.act 2 log ((r.bytes log).take (scan (r.bytes log)).2)) (Rw.fresh log (scan (r.bytes log)).1)
    else if 0 < (r.of log).loose.length then Rf.opn2 (r.act 1 log []) (Rw.fresh log (scan (r.bytes log)).1)
    else (r, Rw.fresh log (scan (r.bytes log)).1, 0)
end Go.Wl
namespace Go.Proofs.Ytlfigbgcackimaa
open Go.RowKit Go.Fm Go.Dk Go.Wl
set_option linter.unusedVariables false
set_option linter.unusedSimpArgs false
set_option maxRecDepth 100000

theorem ract8_any (w : World) (r : Rf) (o : Rok r) (u : Rw) (G0 : Nat → Prop) (AL : Option Addr) (cL : Nat) (AK : Option Addr) (cK : Nat) (AV : Option Addr) (cV : Nat) (hu : IsW G0 w AV cV u) (hul : u.ls.length ≤ 1000000) (kind : Int) (hk : W64 kind) (hlog : W64 u.log) (B : Nat) (A : Option Addr) (cap : Nat) (hnil : A = none → cap = 0) (ls : List (List UInt8))
    (hs : Sees w B 1 A ls.length (strs ls)) (hB : B ≤ w.heap.size) (hl : ls.length ≤ 1000) (hlen : ∀ l ∈ ls, l.length ≤ 9223372036854775807) (hfr : (frames ls).length ≤ 4194304) (hm : IsM G0 w AL cL AK cK r) :
    Calls Try.prog 36 #[vM AL cL AK cK r, vW AV cV u, .int .i64 kind, .slice A ls.length cap] w (RActs w r u AL cL AK cK AV cV (u.act r kind ls)) := by
  unfold Rw.act
  cases hd : u.dead with
  | true => exact ract_dead r u hd AL cL AK cK AV cV kind A ls.length cap w
  | false =>
    by_cases hlo : Long ls
    · rw [if_neg (by simp), if_pos hlo]
      exact ract_long r u hd AL cL AK cK AV cV kind B A cap ls w hs hB hl hlen hlo
    · rw [if_neg (by simp), if_neg hlo]
      by_cases he : (r.act kind u.log (frames ls)).2 = 0
      · rw [if_pos he]
        by_cases h0 : kind = 0
        · exact ract_ok0 w r o u hd G0 AL cL AK cK AV cV hu hul kind hk h0 hlog B A cap hnil ls hs hB hl hlen hlo hfr hm he
        · by_cases h1 : kind = 1
          · exact ract_ok1 w r o u hd G0 AL cL AK cK AV cV hu hul kind hk h1 hlog B A cap hnil ls hs hB hl hlen hlo hfr hm he
          · exact ract_ok2 w r o u hd G0 AL cL AK cK AV cV hu hul kind hk ⟨h0, h1⟩ hlog B A cap hnil ls hs hB hl hlen hlo hfr hm he
      · rw [if_neg he]
        exact ract_err r o u hd G0 AL cL AK cK AV cV kind hk hlog B A cap ls w hs hB hl hlen hlo hfr hm he

/-! ### Open -/
abbrev bxO (n : Nat) (m : Array Value) : List Row :=
  [(n, 30, m), (n + 1, 30, #[.slice none 0 0, .int .i64 0, .bool false, .int .i64 0, .slice none 0 0]), (n + 2, 37, #[.int .i64 0, .slice none 0 0, .int .i64 0, .bool false])]
def Box3 (W : World) (b : Nat) : Prop := W.heap.size ≤ b ∧ b < W.heap.size + 3
theorem box3_at (W : World) (k : Nat) (hk : k < 3) : Box3 W (W.heap.size + k) := ⟨by omega, by omega⟩
structure Zo (W w2 w : World) (m : Array Value) : Prop where
  st : St W w (bxO W.heap.size m)
  off : Off (Box3 W) w2 w
section
variable {W w2 w w' : World} {m0 m1 m2 m3 m4 : Value} {m : Array Value}
theorem Zo.call (h : Zo W w2 w m) (hb : Below w.heap.size w w') : Zo W w2 w' m := ⟨h.st.call hb, h.off.call hb⟩
theorem Zo.m5 (h : Zo W w2 w #[m0, m1, m2, m3, m4]) (b0 b1 b2 b3 b4 : Value) :
    Zo W w2 (((((w.setCell ⟨W.heap.size, 0, none⟩ b0).setCell ⟨W.heap.size, 1, none⟩ b1).setCell ⟨W.heap.size, 2, none⟩ b2).setCell ⟨W.heap.size, 3, none⟩ b3).setCell ⟨W.heap.size, 4, none⟩ b4) #[b0, b1, b2, b3, b4] :=
  ⟨h.st.five (Nat.le_refl _) (fun r hr => by
    simp only [List.mem_cons, List.not_mem_nil, or_false] at hr
    rcases hr with rfl | rfl <;> (show _ ≠ _; simp only; omega)) b0 b1 b2 b3 b4,
   ((((h.off.set (p := ⟨W.heap.size, 0, none⟩) (.inl (box3_at W 0 (by omega))) b0).set (p := ⟨W.heap.size, 1, none⟩) (.inl (box3_at W 0 (by omega))) b1).set (p := ⟨W.heap.size, 2, none⟩) (.inl (box3_at W 0 (by omega))) b2).set (p := ⟨W.heap.size, 3, none⟩) (.inl (box3_at W 0 (by omega))) b3).set (p := ⟨W.heap.size, 4, none⟩) (.inl (box3_at W 0 (by omega))) b4⟩
theorem Zo.facts (h : Zo W w2 w #[m0, m1, m2, m3, m4]) :
    ((w.cell? ⟨W.heap.size, 0, none⟩ = some m0 ∧ w.cell? ⟨W.heap.size, 1, none⟩ = some m1 ∧ w.cell? ⟨W.heap.size, 2, none⟩ = some m2 ∧ w.cell? ⟨W.heap.size, 3, none⟩ = some m3 ∧ w.cell? ⟨W.heap.size, 4, none⟩ = some m4) ∧
      w.frozen? ⟨W.heap.size, 0, none⟩ = false ∧ w.frozen? ⟨W.heap.size, 1, none⟩ = false ∧ w.frozen? ⟨W.heap.size, 2, none⟩ = false ∧ w.frozen? ⟨W.heap.size, 3, none⟩ = false ∧ w.frozen? ⟨W.heap.size, 4, none⟩ = false) ∧ W.heap.size + 2 < w.heap.size :=
  ⟨(h.st.knows.at 0 rfl).five, (h.st.knows.at 2 rfl).lt⟩
theorem Zo.outs (h : Zo W w2 w m) :
    ((w.cell? ⟨W.heap.size + 1, 0, none⟩ = some (.slice none 0 0) ∧ w.cell? ⟨W.heap.size + 1, 1, none⟩ = some (.int .i64 0) ∧ w.cell? ⟨W.heap.size + 1, 2, none⟩ = some (.bool false) ∧ w.cell? ⟨W.heap.size + 1, 3, none⟩ = some (.int .i64 0) ∧ w.cell? ⟨W.heap.size + 1, 4, none⟩ = some (.slice none 0 0)) ∧
      w.frozen? ⟨W.heap.size + 1, 0, none⟩ = false ∧ w.frozen? ⟨W.heap.size + 1, 1, none⟩ = false ∧ w.frozen? ⟨W.heap.size + 1, 2, none⟩ = false ∧ w.frozen? ⟨W.heap.size + 1, 3, none⟩ = false ∧ w.frozen? ⟨W.heap.size + 1, 4, none⟩ = false) ∧
    ((w.cell? ⟨W.heap.size + 2, 0, none⟩ = some (.int .i64 0) ∧ w.cell? ⟨W.heap.size + 2, 1, none⟩ = some (.slice none 0 0) ∧ w.cell? ⟨W.heap.size + 2, 2, none⟩ = some (.int .i64 0) ∧ w.cell? ⟨W.heap.size + 2, 3, none⟩ = some (.bool false)) ∧
      w.frozen? ⟨W.heap.size + 2, 0, none⟩ = false ∧ w.frozen? ⟨W.heap.size + 2, 1, none⟩ = false ∧ w.frozen? ⟨W.heap.size + 2, 2, none⟩ = false ∧ w.frozen? ⟨W.heap.size + 2, 3, none⟩ = false) :=
  ⟨(h.st.knows.at 1 rfl).five, (h.st.knows.at 2 rfl).four⟩
end
/-- What Open tells. -/
def RWOpens (w : World) (r : Rf) (AL : Option Addr) (cL : Nat) (AK : Option Addr) (cK : Nat) (q : Rf × Rw × Int) (e : Ending) (w' : World) : Prop :=
  ∃ A1 c1 A2 c2 A3 c3, e = .returned (.tuple #[vM A1 c1 A2 c2 q.1, vW A3 c3 q.2.1, .int .i64 q.2.2]) ∧ Below w.heap.size w w' ∧ (∀ G, IsM G w AL cL AK cK r → IsM (fun b => G b ∨ w.heap.size ≤ b) w' A1 c1 A2 c2 q.1) ∧ IsW (fun b => w.heap.size ≤ b) w' A3 c3 q.2.1
theorem ropen_told {w w1 w2 wl wf : World} {r : Rf} {u' : Rw} {AL : Option Addr} {cL : Nat} {AK : Option Addr} {cK : Nat} {r' : Rf} {E : Int} {A1 : Option Addr} {c1 : Nat} {A2 : Option Addr} {c2 : Nat} {A3 : Option Addr} {c3 : Nat}
    (hb1 : Below w.heap.size w w1) (h4 : w.heap.size + 3 ≤ w1.heap.size) (hb2 : Below w1.heap.size w1 w2) (hm : ∀ G, IsM G w1 AL cL AK cK r → IsM (fun b => G b ∨ w1.heap.size ≤ b) w2 A1 c1 A2 c2 r')
    (ho : Off (Box3 w) w2 wf) (hs : Seen (fun b => w.heap.size + 3 ≤ b) wl 1 A3 u'.ls.length c3 (strs u'.ls)) (hol : Off (Box3 w) wl wf) :
    RWOpens w r AL cL AK cK (r', u', E) (.returned (.tuple #[vM A1 c1 A2 c2 r', vW A3 c3 u', .int .i64 E])) wf := by
  have hz1 := hb2.size
  have hbf : Below w.heap.size w wf := (hb1.trans (hb2.mono hb1.size)).trans (ho.below (by have := hb1.size; omega) fun k hk => hk.1)
  refine ⟨A1, c1, A2, c2, A3, c3, rfl, hbf, fun G h => ?_, (seen_off hs hol fun b hb hf => ?_).mono fun b _ hb => by omega⟩
  · have h1 : IsM (fun b => G b ∧ b < w.heap.size) w AL cL AK cK r := h.mono fun b hb hg => ⟨hg, hb⟩
    have h2 : IsM (fun b => G b ∧ b < w.heap.size) w1 AL cL AK cK r := h1.call hb1
    refine ((hm _ h2).off ho fun b hb hf => ?_).mono fun b _ hb => ?_
    · rcases hb with hb | hb
      · have := hf.1; omega
      · have := hf.2; omega
    · rcases hb with hb | hb
      · exact .inl hb.1
      · exact .inr (by have := hb1.size; omega)
  · have := hf.2
    omega
theorem seen_none (G : Nat → Prop) (w : World) : Seen G w 1 none 0 0 (strs []) := ⟨Sees.nothing _ _ _ _, (fun h => by omega), Nat.le_refl _, by omega, fun _ => rfl⟩
end Go.Proofs.Ytlfigbgcackimaa
