/- The law's does, whole; where its walk stands. -/
import Derived.Test.YtmbednikbdfnmaaPostD0
import Derived.Test.YtmbednikbdfnmaaPostD1
import Derived.Test.YtmbednikbdfnmaaPostD2
import Derived.Test.YtmbednikbdfnmaaPostD3
import Derived.Test.YtmbednikbdfnmaaPostD4
import Derived.Test.YtmbednikbdfnmaaPostD5
import Derived.Test.YtmbednikbdfnmaaPostD6
namespace Go.Proofs.Ytmbednikbdfnmaa
open Go.ChangeShapes Go.WideShapes Go.ChangeAt Go.RowKit Go.Po Go.Maps
set_option linter.unusedVariables false
set_option linter.unusedSimpArgs false
set_option maxRecDepth 100000

theorem does_any (W w : World) (L : List Row) (g : Nat) (v : Value) (n : Nt (List UInt8)) (h : Pq W w L g v n.under n) (o : Oc) (ho : GC o) (hs : n.sent + 1 ≤ 9223372036854775807) (hp : n.puts < maxLen) :
    Calls Try.prog 20 #[ptr g, .agg (rn n.nodes n.sent n.off v), .agg #[.int .i64 o.kind, .int .i64 o.a, .int .i64 o.b, .string (txt o.s), .bool o.off]] w fun e w' => ∃ v' n', e = .returned (.tuple #[.agg (rn n'.nodes n'.sent n'.off v'), .bool true]) ∧ Pq W w' L g v' n'.under n' ∧ n'.sent ≤ n.sent + 1 ∧ n'.puts ≤ n.puts + 1 := by
  obtain ⟨kind, a, b, s, off⟩ := o
  have ha := ho.a
  have hb := ho.b
  simp only at ha hb ⊢
  rcases (show kind = 0 ∨ kind = 1 ∨ kind = 2 ∨ kind = 3 ∨ kind = 4 ∨ kind = 5 ∨ (kind ≠ 0 ∧ kind ≠ 1 ∧ kind ≠ 2 ∧ kind ≠ 3 ∧ kind ≠ 4 ∧ kind ≠ 5) by omega) with rfl | rfl | rfl | rfl | rfl | rfl | hk
  · exact does_send W w L g v n h a b ha hb s off hs hp
  · exact does_take W w L g v n h a b ha hb s off hs hp
  · exact does_copy W w L g v n h a b ha hb s off hs hp
  · exact does_lose W w L g v n h a b ha hb s off hs hp
  · exact does_cut W w L g v n h a b ha hb s off hs hp
  · exact does_purge W w L g v n h a b ha hb s off hs hp
  · exact does_none W w L g v n h kind hk a b ha hb s off hs hp
section
variable {W w w' y y1 : World} {L : List Row} {g : Nat} {v : Value} {n : Nt (List UInt8)}
theorem Pq.new {m : Int} (h : sLp W w L g (Nt.new m)) : Pq W w L g (.slice none 0 0) (Nt.new m : Nt (List UInt8)).under (Nt.new m) :=
  ⟨[], h, (fun r hr => by cases hr), fun w2 _ => World.ownsRow_nil _ _ _ _⟩
/-- The net that the document has, known as a block x. -/
abbrev Px (w y : World) (x g : Nat) (v : Value) (n : Nt (List UInt8)) := Pq w y [(x, 38, rn n.nodes n.sent n.off v)] g v n.under n
/-- Its letters, told. -/
theorem Lp.told (h : sLp W w L g n) : Calls Try.prog 23 #[ptr g] w fun e w' =>
    ∃ A cap, e = .returned (.slice A n.under.length cap) ∧ n.under.length ≤ cap ∧ Sees w' w'.heap.size 4 A n.under.length (flat (encL sP) n.under) ∧ Below w.heap.size w w' := by
  obtain ⟨F, x, h1, h2⟩ := h.net
  refine (sletters_any g n F w x).mono fun e w' ⟨v, he, ho, hb⟩ => ?_
  obtain ⟨A, cap, R, rfl, hc, -, -, -, hown, hlow, hblk⟩ := h.own hb ho
  exact ⟨A, cap, he, hc, Sees.own ho, hb⟩
end
/-- In what order the round's operations have come. -/
def Od (f : Nat → Bool) : Prop := (f 7 = true → f 1 = true ∧ f 6 = true) ∧ (f 8 = true → f 7 = true) ∧ (f 9 = true → f 7 = true) ∧ (f 10 = true → f 7 = true) ∧ (f 11 = true → f 7 = true) ∧ (f 12 = true → f 7 = true) ∧ (f 6 = true → f 5 = true)
theorem upd_true (f : Nat → Bool) (k j : Nat) : Iv.upd f k j = true ↔ (j = k ∨ f j = true) := by
  unfold Iv.upd
  split
  · rename_i h; simp [h]
  · rename_i h; simp [h]
theorem Od.upd {f : Nat → Bool} (h : Od f) (k : Nat) (h7 : k = 7 → f 1 = true ∧ f 6 = true) (h8 : k = 8 ∨ k = 9 ∨ k = 10 ∨ k = 11 ∨ k = 12 → f 7 = true) (h6 : k = 6 → f 5 = true) : Od (Iv.upd f k) := by
  obtain ⟨a, b, c, d, e, g, i⟩ := h
  unfold Od
  simp only [upd_true]
  refine ⟨fun h => ?_, fun h => ?_, fun h => ?_, fun h => ?_, fun h => ?_, fun h => ?_, fun h => ?_⟩
  · rcases h with h | h
    · exact ⟨.inr (h7 h.symm).1, .inr (h7 h.symm).2⟩
    · exact ⟨.inr (a h).1, .inr (a h).2⟩
  · exact .inr (h.elim (fun h => h8 (by omega)) b)
  · exact .inr (h.elim (fun h => h8 (by omega)) c)
  · exact .inr (h.elim (fun h => h8 (by omega)) d)
  · exact .inr (h.elim (fun h => h8 (by omega)) e)
  · exact .inr (h.elim (fun h => h8 (by omega)) g)
  · exact .inr (h.elim (fun h => h6 h.symm) i)
/-- Where a round stands: ahead of the call, behind it, and when the document's net has been stored. -/
structure Dn (w y : World) (x g k : Nat) (Q : Array Value) (v : Value) (n : Nt (List UInt8)) (v2 : Value) (n2 : Nt (List UInt8)) (R2 : Array Value) (b7 b11 : Bool) : Prop where
  a : b7 = false → Pq w y [(x, 38, Q)] g v n.under n
  b : b7 = true → b11 = false → Pq w y [(x, 38, Q)] g v2 n2.under n2
  c : b11 = true → Pq w y [(x, 38, R2)] g v2 n2.under n2
  p : b7 = true → R2 = rn n2.nodes n2.sent n2.off v2 ∧ v2.oneCell' = true ∧ n2.sent ≤ k ∧ n2.puts ≤ k
theorem Dn.call {w y y1 : World} {x g k : Nat} {Q : Array Value} {v : Value} {n : Nt (List UInt8)} {v2 : Value} {n2 : Nt (List UInt8)} {R2 : Array Value} {b7 b11 : Bool} (h : Dn w y x g k Q v n v2 n2 R2 b7 b11) (hb : Below y.heap.size y y1) : Dn w y1 x g k Q v n v2 n2 R2 b7 b11 :=
  ⟨fun e => (h.a e).call hb, fun e1 e2 => (h.b e1 e2).call hb, fun e => (h.c e).call hb, h.p⟩
/-- Where the round's last region stands: ahead of the letters' being told, and behind it. -/
structure Tn (w y : World) (x g : Nat) (R : Array Value) (v : Value) (n : Nt (List UInt8)) (A : Option Addr) (cap : Nat) (b : Bool) : Prop where
  a : Pq w y [(x, 38, R)] g v n.under n
  b : b = true → n.under.length ≤ cap ∧ Sees y y.heap.size 4 A n.under.length (flat (encL sP) n.under)
theorem Tn.call {w y y1 : World} {x g : Nat} {R : Array Value} {v : Value} {n : Nt (List UInt8)} {A : Option Addr} {cap : Nat} {b : Bool} (h : Tn w y x g R v n A cap b) (hb : Below y.heap.size y y1) : Tn w y1 x g R v n A cap b :=
  ⟨h.a.call hb, fun e => ⟨(h.b e).1, ((h.b e).2.below hb).more hb.size⟩⟩
theorem Pq.shows {W w : World} {L : List Row} {g : Nat} {A : Option Addr} {k c : Nat} {u : List (Lt (List UInt8))} {n : Nt (List UInt8)} (h : Pq W w L g (.slice A k c) u n) : k = u.length ∧ u.length ≤ c ∧ Sees w w.heap.size 4 A u.length (flat (encL sP) u) := by
  obtain ⟨A', c', he, hs, h1, -, -⟩ := h.rs.lies
  simp only [Value.slice.injEq] at he
  obtain ⟨rfl, rfl, rfl⟩ := he
  exact ⟨rfl, h1, hs⟩
end Go.Proofs.Ytmbednikbdfnmaa
