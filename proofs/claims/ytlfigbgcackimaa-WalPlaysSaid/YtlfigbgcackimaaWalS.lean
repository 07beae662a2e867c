/- The document's wal: contract of its Act. -/
import Derived.Test.YtlfigbgcackimaaDiskT
import Derived.Test.YtlfigbgcackimaaWalR
import Derived.Deep.CutRange
import Derived.Deep.CutBlock
namespace Go.Proofs.Ytlfigbgcackimaa
open Go.RowKit Go.Fm Go.Dk Go.Wl
set_option linter.unusedVariables false
set_option linter.unusedSimpArgs false
set_option maxRecDepth 100000

abbrev vW (AV : Option Addr) (cV : Nat) (u : Rw) : Value := .agg #[.int .i64 u.log, .slice AV u.ls.length cV, .int .i64 u.sure, .bool u.dead]
/-- The document's wal, beside blocks that are its own. -/
def IsW (G : Nat → Prop) (w : World) (AV : Option Addr) (cV : Nat) (u : Rw) : Prop := Seen G w 1 AV u.ls.length cV (strs u.ls)
theorem St.four {W w : World} {L : List Row} {x : Nat} {t : TypeId} {a0 a1 a2 a3 : Value} (h : St W w ((x, t, #[a0, a1, a2, a3]) :: L)) (hx : W.heap.size ≤ x) (hd : ∀ r ∈ L, r.1 ≠ x) (b0 b1 b2 b3 : Value) :
    St W ((((w.setCell ⟨x, 0, none⟩ b0).setCell ⟨x, 1, none⟩ b1).setCell ⟨x, 2, none⟩ b2).setCell ⟨x, 3, none⟩ b3) ((x, t, #[b0, b1, b2, b3]) :: L) :=
  (((h.set0 hx hd 0 b0).set0 hx hd 1 b1).set0 hx hd 2 b2).set0 hx hd 3 b3
theorem Whole.four {w : World} {g : Nat} {t : TypeId} {a b c d : Value} (h : Whole w g t #[a, b, c, d]) :
    (w.cell? ⟨g, 0, none⟩ = some a ∧ w.cell? ⟨g, 1, none⟩ = some b ∧ w.cell? ⟨g, 2, none⟩ = some c ∧ w.cell? ⟨g, 3, none⟩ = some d) ∧
    w.frozen? ⟨g, 0, none⟩ = false ∧ w.frozen? ⟨g, 1, none⟩ = false ∧ w.frozen? ⟨g, 2, none⟩ = false ∧ w.frozen? ⟨g, 3, none⟩ = false :=
  ⟨⟨h.cell 0, h.cell 1, h.cell 2, h.cell 3⟩, h.free 0, h.free 1, h.free 2, h.free 3⟩
/-- What Act tells. -/
def RActs (w : World) (r : Rf) (u : Rw) (AL : Option Addr) (cL : Nat) (AK : Option Addr) (cK : Nat) (AV : Option Addr) (cV : Nat) (q : Rf × Rw × Int) (e : Ending) (w' : World) : Prop :=
  ∃ A1 c1 A2 c2 A3 c3, e = .returned (.tuple #[vM A1 c1 A2 c2 q.1, vW A3 c3 q.2.1, .int .i64 q.2.2]) ∧ Below w.heap.size w w' ∧ (∀ G, IsM G w AL cL AK cK r → IsM (fun b => G b ∨ w.heap.size ≤ b) w' A1 c1 A2 c2 q.1) ∧ ∀ G, IsW G w AV cV u → IsW (fun b => G b ∨ w.heap.size ≤ b) w' A3 c3 q.2.1
set_option maxHeartbeats 4000000 in
theorem ract_dead (r : Rf) (u : Rw) (hd : u.dead = true) (AL : Option Addr) (cL : Nat) (AK : Option Addr) (cK : Nat) (AV : Option Addr) (cV : Nat) (kind : Int) (A : Option Addr) (n cap : Nat) (w : World) :
    Calls Try.prog 36 #[vM AL cL AK cK r, vW AV cV u, .int .i64 kind, .slice A n cap] w (RActs w r u AL cL AK cK AV cV (r, u, 81)) := by
  have HR : Hid (∀ w', Below w.heap.size w w' → RActs w r u AL cL AK cK AV cV (r, u, 81) (.returned (.tuple #[vM AL cL AK cK r, vW AV cV u, .int .i64 81])) w') := Lib.hid fun w' hb => ⟨AL, cL, AK, cK, AV, cV, rfl, hb, fun G h => (h.call hb).mono fun _ _ h => .inl h, fun G h => (Seen.call h hb).mono fun _ _ h => .inl h⟩
  unfold vM vW at *
  rw [hd] at *
  generalize r.logs.length = a0 at *
  generalize r.acts = a1 at *
  generalize r.off = a2 at *
  generalize r.armed = a3 at *
  generalize r.keep.length = a4 at *
  generalize u.log = u0 at *
  generalize u.ls.length = u1 at *
  generalize u.sure = u2 at *
  have H0 := ((((St.start w).alloc w.heap.size rfl 30 #[.slice AL a0 cL, .int .i64 a1, .bool a2, .int .i64 a3, .slice AK a4 cK]).alloc (w.heap.size + 1) (by simp) 37 #[.int .i64 u0, .slice AV u1 cV, .int .i64 u2, .bool true]).alloc (w.heap.size + 2) (by simp) 30 #[.slice none 0 0, .int .i64 0, .bool false, .int .i64 0, .slice none 0 0]).alloc (w.heap.size + 3) (by simp) 37 #[.int .i64 0, .slice none 0 0, .int .i64 0, .bool false]
  have HB := Lib.hid H0.below
  clear H0
  go_enter Try.func36, Try.ntmps36
  go_wp2_with fail
  go_region
  all_goals
    go_wp2_with fail
    refine bodyPost_ret (by simp [results, Try.results36, go_sem]; try rfl) rfl ?_
    refine HR.out _ ?_
    have hb := Below.refl w.heap.size w
    go_grown

set_option maxHeartbeats 4000000 in
theorem ract_long (r : Rf) (u : Rw) (hd : u.dead = false) (AL : Option Addr) (cL : Nat) (AK : Option Addr) (cK : Nat) (AV : Option Addr) (cV : Nat) (kind : Int) (B : Nat) (A : Option Addr) (cap : Nat) (ls : List (List UInt8)) (w : World)
    (hs : Sees w B 1 A ls.length (strs ls)) (hB : B ≤ w.heap.size) (hl : ls.length ≤ 1000) (hlen : ∀ l ∈ ls, l.length ≤ 9223372036854775807) (hlo : Long ls) :
    Calls Try.prog 36 #[vM AL cL AK cK r, vW AV cV u, .int .i64 kind, .slice A ls.length cap] w (RActs w r u AL cL AK cK AV cV (r, u, 30)) := by
  have HR : Hid (∀ w', Below w.heap.size w w' → RActs w r u AL cL AK cK AV cV (r, u, 30) (.returned (.tuple #[vM AL cL AK cK r, vW AV cV u, .int .i64 30])) w') := Lib.hid fun w' hb => ⟨AL, cL, AK, cK, AV, cV, rfl, hb, fun G h => (h.call hb).mono fun _ _ h => .inl h, fun G h => (Seen.call h hb).mono fun _ _ h => .inl h⟩
  unfold vM vW at *
  rw [hd] at *
  generalize r.logs.length = a0 at *
  generalize r.acts = a1 at *
  generalize r.off = a2 at *
  generalize r.armed = a3 at *
  generalize r.keep.length = a4 at *
  generalize u.log = u0 at *
  generalize u.ls.length = u1 at *
  generalize u.sure = u2 at *
  have H0 := ((((St.start w).alloc w.heap.size rfl 30 #[.slice AL a0 cL, .int .i64 a1, .bool a2, .int .i64 a3, .slice AK a4 cK]).alloc (w.heap.size + 1) (by simp) 37 #[.int .i64 u0, .slice AV u1 cV, .int .i64 u2, .bool false]).alloc (w.heap.size + 2) (by simp) 30 #[.slice none 0 0, .int .i64 0, .bool false, .int .i64 0, .slice none 0 0]).alloc (w.heap.size + 3) (by simp) 37 #[.int .i64 0, .slice none 0 0, .int .i64 0, .bool false]
  have HST := Lib.hid H0
  have HF := Lib.hid (fun w' (hb : Below w.heap.size w w') => rframes_any B A cap ls w' (hs.below (hb.mono hB)) (Nat.le_trans hB hb.size) hl hlen)
  have HLO := Lib.hid hlo
  clear H0 hs hlen hlo
  generalize ls.length = n at *
  go_enter Try.func36, Try.ntmps36
  go_wp2_with fail
  refine (HF.out _ HST.out.below).mono ?_
  rintro e w1 ⟨hb, hx, -⟩
  obtain rfl := hx HLO.out
  have H1 := Lib.hid (HST.out.call hb)
  obtain ⟨⟨k0, k1, k2, k3⟩, k4, k5, k6, k7⟩ := (H1.out.knows.at 0 rfl).four
  obtain ⟨⟨m0, m1, m2, m3, m4⟩, m5, m6, m7, m8, m9⟩ := (H1.out.knows.at 1 rfl).five
  obtain ⟨⟨n0, n1, n2, n3⟩, n4, n5, n6, n7⟩ := (H1.out.knows.at 2 rfl).four
  obtain ⟨⟨o0, o1, o2, o3, o4⟩, o5, o6, o7, o8, o9⟩ := (H1.out.knows.at 3 rfl).five
  have z0 := (H1.out.knows.at 0 rfl).lt
  clear hb hx HF HST
  go_wp2_with fail
  go_region
  all_goals
    go_wp2_with fail
    refine bodyPost_ret (by simp [results, Try.results36, go_sem, k0, k1, k2, k3, m0, m1, m2, m3, m4]; try rfl) rfl ?_
    refine HR.out _ ?_
    have hb := H1.out.below
    go_grown
end Go.Proofs.Ytlfigbgcackimaa
