/- Contracts of the reader's inner calls: fail, take, number, float, text. -/
import Derived.Test.YtmaeacklloaeaaaWireA
import Derived.Deep.QuietTactic
import Derived.BigQuiet
import Derived.Laws.IdiomStrings
namespace Go.Proofs.Ytmaeacklloaeaaa
open Go.RowKit Go.Fl Go.Wr
set_option linter.unusedVariables false
set_option linter.unusedSimpArgs false

/-- What gives up: an error, at a place. -/
def fault (beg err : Int) : List PanicEntry := [{ v := .iface 51 (.agg #[.int .i64 beg, .int .i64 err]), recovered := false }]

/-- A panic that leaves a function. -/
theorem bodyPost_panic {P : Program} {fn : Func} {R : Ending → World → Prop} {a : Act} {w : World} {ch : List PanicEntry} (hd : a.defers = []) (hR : R (.panicked ch) w) : bodyPost P fn R (.panic ch) a w :=
  ⟨hd, hR⟩

theorem fail_any (R : Nat) (A : Value) (pos beg err : Int) (w : World) (h : Whole w R 54 #[A, .int .i64 pos, .int .i64 beg]) :
    Calls Try.prog 35 #[.pointer (some ⟨R, 0, none⟩), .int .i64 err] w fun e w' => e = .panicked (fault beg err) ∧ w' = w := by
  have h2 : w.cell? ⟨R, 2, none⟩ = some (.int .i64 beg) := h.cell 2
  have H := Lib.hid h
  clear h
  go_enter Try.func35, Try.ntmps35
  go_wp2_with fail
  exact bodyPost_panic rfl ⟨rfl, rfl⟩

theorem take_short (R : Nat) (b : Option Addr) (len cap : Nat) (pos beg n : Int) (w : World) (h : Whole w R 54 #[.slice b len cap, .int .i64 pos, .int .i64 beg])
    (h0 : 0 ≤ pos) (h1 : pos ≤ len) (h2 : (len : Int) - pos < n) (h3 : len ≤ 9223372036854775807) (h4 : n ≤ 9223372036854775807) :
    Calls Try.prog 40 #[.pointer (some ⟨R, 0, none⟩), .int .i64 n] w fun e w' => e = .panicked (fault beg 22) ∧ ∃ k, w' = w.drewN k := by
  have g0 : w.cell? ⟨R, 0, none⟩ = some (.slice b len cap) := h.cell 0
  have g1 : w.cell? ⟨R, 1, none⟩ = some (.int .i64 pos) := h.cell 1
  have H := Lib.hid h
  clear h
  have hw : IntKind.i64.wrap ((len : Int) - pos) = (len : Int) - pos := by rw [IntKind.wrap_i64]; omega
  go_enter Try.func40, Try.ntmps40
  go_wp2_with fail
  go_quiet (fail)
  go_wp2_with fail
  refine (fail_any R _ pos beg 22 _ (H.out.drewN _)).mono ?_
  rintro e w1 ⟨rfl, rfl⟩
  go_wp2_with fail
  exact bodyPost_panic rfl ⟨rfl, _, rfl⟩

/-- What taking n bytes at a place leads to. -/
def Took (w : World) (R B : Nat) (bv : Value) (bs : List UInt8) (pos n : Nat) (beg : Int) (e : Ending) (w' : World) : Prop :=
  ∃ A c, e = .returned (.slice A n c) ∧ n ≤ c ∧ c ≤ 9223372036854775807 ∧ Sees w' B 1 A n (Lib.byteCells ((bs.drop pos).take n)) ∧
    Whole w' R 54 #[bv, .int .i64 ((pos + n : Nat) : Int), .int .i64 beg] ∧ w.grownBy w' (some R)

theorem only_set (w : World) (R i k j : Nat) (u : Value) : w.grownBy (((w.drewN j).setCell ⟨R, i, none⟩ u).drewN k) (some R) :=
  ⟨rfl, rfl, rfl, by simp [World.setCell], fun g hg hne => Below.heap_setCell w ⟨R, i, none⟩ u g (fun h => hne (by rw [h]))⟩

theorem sees_cut {w w' : World} {B len : Nat} {b : Option Addr} {bs : List UInt8} {pos n : Nat} (h : Sees w B 1 b len (Lib.byteCells bs)) (hl : bs.length = len) (hn : pos + n ≤ len) (hk : ∀ p : Addr, p.block < B → w'.cell? p = w.cell? p) :
    ∀ A, (0 < n → A = b.map (·.add pos)) → Sees w' B 1 A n (Lib.byteCells ((bs.drop pos).take n)) := by
  intro A hA
  refine ⟨by rw [Lib.byteCells_length, List.length_take, List.length_drop]; omega, fun h0 => ?_⟩
  obtain ⟨b0, off, rfl, hb, hc⟩ := h.2 (by omega)
  refine ⟨b0, off + pos, by rw [hA h0]; simp [Addr.add], hb, fun j u hu => ?_⟩
  rw [hk ⟨b0, _, none⟩ hb, Nat.add_assoc]
  refine hc (pos + j) u ?_
  unfold Lib.byteCells at hu ⊢
  rw [List.getElem?_map, List.getElem?_take] at hu
  split at hu
  · rw [List.getElem?_drop] at hu; rw [List.getElem?_map]; exact hu
  · cases hu

theorem take_ok (R B : Nat) (b : Option Addr) (cap : Nat) (bs : List UInt8) (pos n : Nat) (beg : Int) (w : World) (h : Whole w R 54 #[.slice b bs.length cap, .int .i64 (pos : Int), .int .i64 beg])
    (hR : B ≤ R) (hs : Sees w B 1 b bs.length (Lib.byteCells bs)) (h1 : pos + n ≤ bs.length) (h2 : bs.length ≤ cap) (h3 : cap ≤ 9223372036854775807) :
    Calls Try.prog 40 #[.pointer (some ⟨R, 0, none⟩), .int .i64 (n : Int)] w (Took w R B (.slice b bs.length cap) bs pos n beg) := by
  have g0 : w.cell? ⟨R, 0, none⟩ = some (.slice b bs.length cap) := h.cell 0
  have g1 : w.cell? ⟨R, 1, none⟩ = some (.int .i64 (pos : Int)) := h.cell 1
  have f1 := h.free 1
  have H := Lib.hid h
  have HS := Lib.hid hs
  clear h hs
  generalize hlen : bs.length = len at *
  have HL := Lib.hid hlen
  clear hlen
  have hw : IntKind.i64.wrap ((len : Int) - (pos : Int)) = (len : Int) - (pos : Int) := by rw [IntKind.wrap_i64]; omega
  have hw2 : IntKind.i64.wrap ((pos : Int) + (n : Int) - (n : Int)) = (pos : Int) := by rw [IntKind.wrap_i64]; omega
  have hd : decide ((len : Int) - (pos : Int) < (n : Int)) = false := by simpa using (by omega : (n : Int) ≤ (len : Int) - (pos : Int))
  go_enter Try.func40, Try.ntmps40
  go_wp2_with fail
  go_quiet (fail)
  go_wp2_with fail
  go_quiet (fail)
  go_wp2_with fail
  all_goals
    go_ret
    refine ⟨_, _, rfl, by omega, by omega, sees_cut HS.out HL.out (by omega) (fun p hp => World.cell?_setCell_other w ⟨R, 1, none⟩ p _ (fun e => by subst e; exact absurd hp (Nat.not_lt.2 hR))) _ (fun h0 => ?_), ?_, only_set _ _ _ _ _ _⟩
    · first | rfl | omega
    · have hh := H.out.set 1 (.int .i64 ((pos : Int) + (n : Int)))
      rw [Int.natCast_add]
      first
      | exact hh
      | (have e : cap = pos := by first | assumption | (symm; assumption) | omega
         subst e; exact hh)
end Go.Proofs.Ytmaeacklloaeaaa
