/- Contract of Unpack: what gave up is recovered at the face. -/
import Derived.Test.YtmaeacklloaeaaaWireH
import Derived.Defers
import Derived.Recover
namespace Go.Proofs.Ytmaeacklloaeaaa
open Go.RowKit Go.Fl Go.Wr
set_option linter.unusedVariables false
set_option linter.unusedSimpArgs false

theorem frame21 (a b c : Value) : (#[a, b, c] ++ Array.replicate (21 - #[a, b, c].size) undef : Array Value) = #[a, b, c, undef, undef, undef, undef, undef, undef, undef, undef, undef, undef, undef, undef, undef, undef, undef, undef, undef, undef] := by kernel_rfl
theorem eql_nil (w : World) : (binOp .eql 20 .nilIface .nilIface).run Try.prog w = .ok (.bool true) w := by kernel_rfl
theorem eql_fault (pos err : Int) (w : World) : (binOp .eql 20 (.iface 51 (.agg #[.int .i64 pos, .int .i64 err])) .nilIface).run Try.prog w = .ok (.bool false) w := by kernel_rfl

theorem assert_fault (pos err : Int) (w : World) : (Instr.typeAssert (.iface 51 (.agg #[.int .i64 pos, .int .i64 err])) 20 51 true).run Try.prog w = .ok (.tuple #[.agg #[.int .i64 pos, .int .i64 err], .bool true]) w := by kernel_rfl

theorem catch_idle (p q r : Addr) (w : World) :
    CallsD Try.prog 24 #[.pointer (some p), .pointer (some q), .pointer (some r)] .returning w fun e u' w' => e = .returned (.tuple #[]) ∧ u' = .returning ∧ w' = w := by
  refine callsD_of_wpS Try.func24 rfl fun c₀ cs hu => ?_
  rw [Try.ntmps24, frame21]
  apply wpS_seq
  apply wpS_region
  simp [wpOpsS, go_sem, recoverD, hu, Try.ntmps24, Exit.thenS]
  apply wpS_seq
  apply wpS_seq
  apply wpS_region
  simp [wpOpsS, go_sem, Exit.thenS, eql_nil]
  refine wpS_cond (t := true) (by simp [Act.eval, Array.replicate]) ?_
  simp only [if_true]
  refine wpS_of_wp (wp_ret ?_)
  cases c₀
  simp_all [bodyPostS, results, Try.results24, Exit.thenS]

theorem catch_fault (p q r : Nat) (pos err : Int) (a b c : Value) (w : World) (h1 : p < q) (h2 : q < r) (h3 : r < w.heap.size)
    (c1 : w.cell? ⟨p, 0, none⟩ = some a) (c2 : w.cell? ⟨q, 0, none⟩ = some b) (c3 : w.cell? ⟨r, 0, none⟩ = some c) (f1 : w.frozen? ⟨p, 0, none⟩ = false) (f2 : w.frozen? ⟨q, 0, none⟩ = false) (f3 : w.frozen? ⟨r, 0, none⟩ = false) :
    CallsD Try.prog 24 #[.pointer (some ⟨p, 0, none⟩), .pointer (some ⟨q, 0, none⟩), .pointer (some ⟨r, 0, none⟩)] (.panicking (fault pos err)) w fun e u' w' => e = .returned (.tuple #[]) ∧
      u' = .panicking [{ v := .iface 51 (.agg #[.int .i64 pos, .int .i64 err]), recovered := true }] ∧ w' = ((((w.setCell ⟨p, 0, none⟩ (.slice none 0 0)).setCell ⟨q, 0, none⟩ (.int .i64 pos)).setCell ⟨r, 0, none⟩ (.int .i64 err)).alloc (.cells #[.int .i64 pos, .int .i64 err] 51)).drew := by
  refine callsD_of_wpS Try.func24 rfl fun c₀ cs hu => ?_
  rw [Try.ntmps24, frame21]
  apply wpS_seq
  apply wpS_region
  simp [wpOpsS, go_sem, recoverD, hu, fault, Try.ntmps24, Exit.thenS]
  apply wpS_seq
  apply wpS_seq
  apply wpS_region
  simp [wpOpsS, go_sem, Exit.thenS, eql_fault]
  refine wpS_cond (t := false) (by simp [Act.eval, Array.replicate]) ?_
  simp only [Bool.false_eq_true, if_false]
  refine wpS_of_wp (wp_skip ?_)
  simp only [Exit.thenS]
  apply wpS_seq
  apply wpS_region
  simp [wpOpsS, go_sem, Exit.thenS, assert_fault]
  apply wpS_seq
  apply wpS_seq
  apply wpS_region
  simp [wpOpsS, go_sem, Exit.thenS]
  refine wpS_cond (t := false) (by simp [Act.eval, Array.replicate]) ?_
  simp only [Bool.false_eq_true, if_false]
  refine wpS_of_wp (wp_skip ?_)
  simp only [Exit.thenS]
  refine wpS_of_wp ?_
  have n1 : ¬ q = p := by omega
  have n2 : ¬ r = p := by omega
  have n3 : ¬ r = q := by omega
  have n4 : ¬ p = q := by omega
  have n5 : ¬ p = r := by omega
  have n6 : ¬ q = r := by omega
  have m1 : p < w.heap.size := by omega
  have m2 : q < w.heap.size := by omega
  go_region
  exact ⟨rfl, _, rfl, _, by simp [results, Try.results24], rfl, rfl, rfl⟩

theorem OwnV.less2 {w : World} {B B' : Nat} {v : Value} {l : List Val} (h : OwnV w B v l) (hB : B' ≤ B) : OwnV w B' v l := by
  refine ⟨h.1, ?_⟩
  rcases h.2 with hn | ⟨g, cap, cur, rfl, hb, r⟩
  · exact .inl hn
  · exact .inr ⟨g, cap, cur, rfl, by omega, r⟩
theorem OwnV.away {w : World} {B : Nat} {v : Value} {l : List Val} (h : OwnV w B v l) {p : Addr} (hp : p.block < B) (u : Value) : OwnV (w.setCell p u) B v l := ownsRow_setCell_below h hp u

/-- What Unpack leaves. -/
def Unpacked (w : World) (bs : List UInt8) (e : Ending) (w' : World) : Prop :=
  ∃ v, e = .returned (.tuple #[v, .int .i64 ((rdAll 0 0 bs).2.1 : Nat), .int .i64 (rdAll 0 0 bs).2.2]) ∧ OwnV w' w.heap.size v (rdAll 0 0 bs).1 ∧ Below w.heap.size w w'

theorem unpack_any (B : Nat) (b : Option Addr) (cap : Nat) (bs : List UInt8) (w : World) (hs : Sees w B 1 b bs.length (Lib.byteCells bs)) (hB : B ≤ w.heap.size) (h2 : bs.length ≤ cap) (h3 : cap ≤ 9223372036854775807) :
    Calls Try.prog 18 #[.slice b bs.length cap] w (Unpacked w bs) := by
  have hmf : ∀ (fn : Fn) (first cap : Array Value) (w : World), (Instr.makeFunc fn first cap).run Try.prog w = .ok (.func fn first cap) w := fun _ _ _ _ => rfl
  have HS := Lib.hid hs
  clear hs
  go_enter_defers Try.func18, Try.ntmps18
  have hW : Whole ((((w.alloc (.cells #[.slice none 0 0] 22)).alloc (.cells #[.int .i64 0] 3)).alloc (.cells #[.int .i64 0] 26)).alloc (.cells #[.slice b bs.length cap, .int .i64 0, .int .i64 0] 54))
      (w.heap.size + 1 + 1 + 1) 54 #[.slice b bs.length cap, .int .i64 0, .int .i64 0] := by
    have := Whole.fresh (((w.alloc (.cells #[.slice none 0 0] 22)).alloc (.cells #[.int .i64 0] 3)).alloc (.cells #[.int .i64 0] 26)) 54 #[.slice b bs.length cap, .int .i64 0, .int .i64 0]
    simpa using this
  have HWW := Lib.hid hW
  have hsz : ((((w.alloc (.cells #[.slice none 0 0] 22)).alloc (.cells #[.int .i64 0] 3)).alloc (.cells #[.int .i64 0] 26)).alloc (.cells #[.slice b bs.length cap, .int .i64 0, .int .i64 0] 54)).heap.size = w.heap.size + 1 + 1 + 1 + 1 := by simp
  have HSZ := Lib.hid hsz
  have e0 := (((Whole.fresh w 22 #[.slice none 0 0]).alloc (.cells #[.int .i64 0] 3)).alloc (.cells #[.int .i64 0] 26)).alloc (.cells #[.slice b bs.length cap, .int .i64 0, .int .i64 0] 54)
  have e1 := ((Whole.fresh (w.alloc (.cells #[.slice none 0 0] 22)) 3 #[.int .i64 0]).alloc (.cells #[.int .i64 0] 26)).alloc (.cells #[.slice b bs.length cap, .int .i64 0, .int .i64 0] 54)
  have e2 := (Whole.fresh ((w.alloc (.cells #[.slice none 0 0] 22)).alloc (.cells #[.int .i64 0] 3)) 26 #[.int .i64 0]).alloc (.cells #[.slice b bs.length cap, .int .i64 0, .int .i64 0] 54)
  rw [show (w.alloc (.cells #[.slice none 0 0] 22)).heap.size = w.heap.size + 1 by simp] at e1
  rw [show ((w.alloc (.cells #[.slice none 0 0] 22)).alloc (.cells #[.int .i64 0] 3)).heap.size = w.heap.size + 1 + 1 by simp] at e2
  have HBW : Hid (Below w.heap.size w ((((w.alloc (.cells #[.slice none 0 0] 22)).alloc (.cells #[.int .i64 0] 3)).alloc (.cells #[.int .i64 0] 26)).alloc (.cells #[.slice b bs.length cap, .int .i64 0, .int .i64 0] 54))) :=
    Lib.hid (((((Below.refl w.heap.size w).alloc (Nat.le_refl _) _).alloc (by simp) _).alloc (by simp; omega) _).alloc (by simp; omega) _)
  have HS4 := Lib.hid ((((HS.out.alloc hB (.cells #[.slice none 0 0] 22)).alloc (by simp; omega) (.cells #[.int .i64 0] 3)).alloc (by simp; omega) (.cells #[.int .i64 0] 26)).alloc (by simp; omega) (.cells #[.slice b bs.length cap, .int .i64 0, .int .i64 0] 54))
  have E0 := Lib.hid e0
  have E1 := Lib.hid e1
  have E2 := Lib.hid e2
  clear hW hsz e0 e1 e2
  go_wp2_with fail
  refine (readList (w.heap.size + 1 + 1 + 1) B b cap bs _ HWW.out (by omega) HS4.out h2 h3).mono ?_
  rintro e w1 (⟨hok, v, rfl, hov, hp, hg⟩ | ⟨hbad, rfl, hg⟩)
  · have hb1 : Below w.heap.size w w1 := HBW.out.grown hg (by rw [HSZ.out]; omega) fun k hk => by injection hk with hk; omega
    have o0 := E0.out.grown hg (by intro e; injection e with e; omega)
    have o1 := E1.out.grown hg (by intro e; injection e with e; omega)
    have o2 := E2.out.grown hg (by intro e; injection e with e; omega)
    have k0 : _ = some (Value.slice none 0 0) := o0.cell 0
    have k1 : _ = some (Value.int .i64 0) := o1.cell 0
    have k2 : _ = some (Value.int .i64 0) := o2.cell 0
    have f0 := o0.free 0
    have f1 := o1.free 0
    have f2 := o2.free 0
    obtain ⟨A, c, rfl, hc1, hc2⟩ := hov.slice
    have hz : w.heap.size + 1 + 1 + 1 + 1 ≤ w1.heap.size := by have := hg.size; rw [HSZ.out] at this; exact this
    have HB1 := Lib.hid hb1
    have HOV := Lib.hid hov
    have HOK := Lib.hid hok
    have HP := Lib.hid hp
    rw [HSZ.out] at HOV
    have O0 := Lib.hid o0
    have O1 := Lib.hid o1
    have O2 := Lib.hid o2
    clear hb1 hov hok hp hg o0 o1 o2
    go_wp2_with fail
    refine leaves_cons (f := 24) (args := #[.pointer (some ⟨w.heap.size, 0, none⟩), .pointer (some ⟨w.heap.size + 1, 0, none⟩), .pointer (some ⟨w.heap.size + 1 + 1, 0, none⟩)]) (by simp) (by simp [go_sem]) ?_
    refine (catch_idle _ _ _ _).mono ?_
    rintro e u' w'' ⟨rfl, rfl, rfl⟩
    obtain ⟨WF, hWF⟩ : ∃ WF, WF = (((w1.setCell ⟨w.heap.size, 0, none⟩ (.slice A (rdAll 0 0 bs).1.length c)).setCell ⟨w.heap.size + 1, 0, none⟩ (.int .i64 0)).setCell ⟨w.heap.size + 1 + 1, 0, none⟩ (.int .i64 0)) := ⟨_, rfl⟩
    rw [← hWF]
    have s0 := ((O0.out.set 0 (.slice A (rdAll 0 0 bs).1.length c)).away (p := ⟨w.heap.size + 1, 0, none⟩) (by show w.heap.size ≠ w.heap.size + 1; omega) (.int .i64 0)).away (p := ⟨w.heap.size + 1 + 1, 0, none⟩) (by show w.heap.size ≠ w.heap.size + 1 + 1; omega) (.int .i64 0)
    have s1 := ((O1.out.away (p := ⟨w.heap.size, 0, none⟩) (by show w.heap.size + 1 ≠ w.heap.size; omega) (.slice A (rdAll 0 0 bs).1.length c)).set 0 (.int .i64 0)).away (p := ⟨w.heap.size + 1 + 1, 0, none⟩) (by show w.heap.size + 1 ≠ w.heap.size + 1 + 1; omega) (.int .i64 0)
    have s2 := ((O2.out.away (p := ⟨w.heap.size, 0, none⟩) (by show w.heap.size + 1 + 1 ≠ w.heap.size; omega) (.slice A (rdAll 0 0 bs).1.length c)).away (p := ⟨w.heap.size + 1, 0, none⟩) (by show w.heap.size + 1 + 1 ≠ w.heap.size + 1; omega) (.int .i64 0)).set 0 (.int .i64 0)
    rw [← hWF] at s0 s1 s2
    have t0 : _ = some (Value.slice A (rdAll 0 0 bs).1.length c) := s0.cell 0
    have t1 : _ = some (Value.int .i64 0) := s1.cell 0
    have t2 : _ = some (Value.int .i64 0) := s2.cell 0
    refine ⟨.tuple #[.slice A (rdAll 0 0 bs).1.length c, .int .i64 0, .int .i64 0], by simp [results, Try.results18, go_sem, t0, t1, t2], ⟨.slice A (rdAll 0 0 bs).1.length c, ?_, ?_, ?_⟩⟩
    · rw [HOK.out, HP.out]; rfl
    · rw [hWF]
      exact ((HOV.out.away (by show w.heap.size < _; omega) _).away (by show w.heap.size + 1 < _; omega) _).away (by show w.heap.size + 1 + 1 < _; omega) _ |>.less2 (by omega)
    · rw [hWF]
      exact ((HB1.out.setCell (p := ⟨w.heap.size, 0, none⟩) (Nat.le_refl _) _).setCell (p := ⟨w.heap.size + 1, 0, none⟩) (by show w.heap.size ≤ w.heap.size + 1; omega) _).setCell (p := ⟨w.heap.size + 1 + 1, 0, none⟩) (by show w.heap.size ≤ w.heap.size + 1 + 1; omega) _
  · have hb1 : Below w.heap.size w w1 := HBW.out.grown hg (by rw [HSZ.out]; omega) fun k hk => by injection hk with hk; omega
    have o0 := E0.out.grown hg (by intro e; injection e with e; omega)
    have o1 := E1.out.grown hg (by intro e; injection e with e; omega)
    have o2 := E2.out.grown hg (by intro e; injection e with e; omega)
    have k0 : _ = some (Value.slice none 0 0) := o0.cell 0
    have k1 : _ = some (Value.int .i64 0) := o1.cell 0
    have k2 : _ = some (Value.int .i64 0) := o2.cell 0
    have f0 := o0.free 0
    have f1 := o1.free 0
    have f2 := o2.free 0
    have hz : w.heap.size + 1 + 1 + 1 + 1 ≤ w1.heap.size := by have := hg.size; rw [HSZ.out] at this; exact this
    have HB1 := Lib.hid hb1
    have HBD := Lib.hid hbad
    have HRB := Lib.hid (rdAll_bad bs hbad)
    have O0 := Lib.hid o0
    have O1 := Lib.hid o1
    have O2 := Lib.hid o2
    clear hb1 hbad hg o0 o1 o2
    go_wp2_with fail
    refine leaves_cons (f := 24) (args := #[.pointer (some ⟨w.heap.size, 0, none⟩), .pointer (some ⟨w.heap.size + 1, 0, none⟩), .pointer (some ⟨w.heap.size + 1 + 1, 0, none⟩)]) (by simp) (by simp [go_sem]) ?_
    refine (catch_fault _ _ _ _ _ _ _ _ _ (by omega) (by omega) (by omega) k0 k1 k2 f0 f1 f2).mono ?_
    rintro e u' w'' ⟨rfl, rfl, rfl⟩
    obtain ⟨WF, hWF⟩ : ∃ WF, WF = ((((w1.setCell ⟨w.heap.size, 0, none⟩ (.slice none 0 0)).setCell ⟨w.heap.size + 1, 0, none⟩ (.int .i64 ((rdAll 0 0 bs).2.1 : Nat))).setCell ⟨w.heap.size + 1 + 1, 0, none⟩ (.int .i64 (rdAll 0 0 bs).2.2)).alloc (.cells #[.int .i64 ((rdAll 0 0 bs).2.1 : Nat), .int .i64 (rdAll 0 0 bs).2.2] 51)).drew := ⟨_, rfl⟩
    rw [← hWF]
    have s0 := ((((O0.out.set 0 (.slice none 0 0)).away (p := ⟨w.heap.size + 1, 0, none⟩) (by show w.heap.size ≠ w.heap.size + 1; omega) (.int .i64 ((rdAll 0 0 bs).2.1 : Nat))).away (p := ⟨w.heap.size + 1 + 1, 0, none⟩) (by show w.heap.size ≠ w.heap.size + 1 + 1; omega) (.int .i64 (rdAll 0 0 bs).2.2)).alloc (.cells #[.int .i64 ((rdAll 0 0 bs).2.1 : Nat), .int .i64 (rdAll 0 0 bs).2.2] 51)).drewN 1
    have s1 := ((((O1.out.away (p := ⟨w.heap.size, 0, none⟩) (by show w.heap.size + 1 ≠ w.heap.size; omega) (.slice none 0 0)).set 0 (.int .i64 ((rdAll 0 0 bs).2.1 : Nat))).away (p := ⟨w.heap.size + 1 + 1, 0, none⟩) (by show w.heap.size + 1 ≠ w.heap.size + 1 + 1; omega) (.int .i64 (rdAll 0 0 bs).2.2)).alloc (.cells #[.int .i64 ((rdAll 0 0 bs).2.1 : Nat), .int .i64 (rdAll 0 0 bs).2.2] 51)).drewN 1
    have s2 := ((((O2.out.away (p := ⟨w.heap.size, 0, none⟩) (by show w.heap.size + 1 + 1 ≠ w.heap.size; omega) (.slice none 0 0)).away (p := ⟨w.heap.size + 1, 0, none⟩) (by show w.heap.size + 1 + 1 ≠ w.heap.size + 1; omega) (.int .i64 ((rdAll 0 0 bs).2.1 : Nat))).set 0 (.int .i64 (rdAll 0 0 bs).2.2)).alloc (.cells #[.int .i64 ((rdAll 0 0 bs).2.1 : Nat), .int .i64 (rdAll 0 0 bs).2.2] 51)).drewN 1
    have t0 : WF.cell? ⟨w.heap.size, 0, none⟩ = some (Value.slice none 0 0) := by rw [hWF]; exact s0.cell 0
    have t1 : WF.cell? ⟨w.heap.size + 1, 0, none⟩ = some (Value.int .i64 ((rdAll 0 0 bs).2.1 : Nat)) := by rw [hWF]; exact s1.cell 0
    have t2 : WF.cell? ⟨w.heap.size + 1 + 1, 0, none⟩ = some (Value.int .i64 (rdAll 0 0 bs).2.2) := by rw [hWF]; exact s2.cell 0
    refine ⟨.tuple #[.slice none 0 0, .int .i64 ((rdAll 0 0 bs).2.1 : Nat), .int .i64 (rdAll 0 0 bs).2.2], by simp [results, Try.results18, go_sem, t0, t1, t2], ⟨.slice none 0 0, rfl, ?_, ?_⟩⟩
    · rw [HRB.out]; exact World.ownsRow_nil _ _ _ _
    · rw [hWF]
      exact ((((HB1.out.setCell (p := ⟨w.heap.size, 0, none⟩) (Nat.le_refl _) _).setCell (p := ⟨w.heap.size + 1, 0, none⟩) (by show w.heap.size ≤ w.heap.size + 1; omega) _).setCell (p := ⟨w.heap.size + 1 + 1, 0, none⟩) (by show w.heap.size ≤ w.heap.size + 1 + 1; omega) _).alloc (by simp; omega) _).drew
end Go.Proofs.Ytmaeacklloaeaaa
