/- A play on both disks, plain: what holds of them all along. -/
import Derived.Test.YtllbfoohhonmeaaDiskK
namespace Go.Proofs.Ytllbfoohhonmeaa
open Go.RowKit Go.Dk
set_option linter.unusedVariables false
set_option linter.unusedSimpArgs false

/-- The two go together, behind at most n acts. -/
structure Pl (r : Rf) (d : D) (n : Nat) : Prop where
  rel : Rel r d
  acts : r.acts ≤ n
  keep : r.keep.length ≤ 20
  range : ∀ m ∈ r.keep, W64 m
section
variable {r : Rf} {d : D} {n m : Nat}
theorem Pl.more (h : Pl r d n) (hm : n ≤ m) : Pl r d m := ⟨h.rel, Nat.le_trans h.acts hm, h.keep, h.range⟩
theorem Pl.new (n : Nat) : Pl (Rf.new n) (D.new n) 0 := ⟨Rel.new n, Nat.le_refl _, by simp [Rf.new], fun m hm => by simp [Rf.new] at hm⟩
theorem Pl.rok (h : Pl r d n) (o : Ok d) (hn : n ≤ 4611686018427387904) : Rok r :=
  ⟨h.rel.len ▸ o.few, by have := h.keep; omega, by have := o.ahead; have := h.rel.armed; omega, by have := h.acts; omega, fun l hl => by
    have := (o.logs l.lg (by rw [h.rel.logs]; exact List.mem_map_of_mem hl)).2
    simpa [Lo.lg] using this, h.range⟩
theorem crash_keeps (r : Rf) (k : List Int) : (r.crash k).acts = r.acts ∧ (r.crash k).keep = r.keep := by unfold Rf.crash; split <;> exact ⟨rfl, rfl⟩
theorem act_keeps (r : Rf) (kind log : Int) (b : List UInt8) : (r.act kind log b).1.acts ≤ r.acts + 1 ∧ (r.act kind log b).1.keep = r.keep := by
  unfold Rf.act
  split
  · exact ⟨Nat.le_succ _, rfl⟩
  · split
    · exact ⟨Nat.le_succ _, rfl⟩
    · split
      · exact ⟨Nat.le_succ _, rfl⟩
      · split
        · have := crash_keeps r r.keep
          exact ⟨by show (r.crash r.keep).acts ≤ _; omega, this.2⟩
        · exact ⟨Nat.le_refl _, rfl⟩
theorem Pl.of (h : Pl r d n) (kind log : Int) (b : List UInt8) {d' : D} (hr : Rel (r.act kind log b).1 d') : Pl (r.act kind log b).1 d' (n + 1) := by
  have hk := act_keeps r kind log b
  have := h.acts
  exact ⟨hr, by omega, by rw [hk.2]; exact h.keep, by rw [hk.2]; exact h.range⟩
theorem Pl.crash (h : Pl r d n) (k : List Int) : Pl (r.crash k) (d.crash k) n := by
  have hk := crash_keeps r k
  exact ⟨h.rel.crash k, by rw [hk.1]; exact h.acts, by rw [hk.2]; exact h.keep, by rw [hk.2]; exact h.range⟩
theorem Pl.arm (h : Pl r d n) (m : Int) (k : List Int) (hk : k.length ≤ 20) (hr : ∀ m ∈ k, W64 m) : Pl (r.arm m k) (d.arm m k) n := ⟨h.rel.arm m k, h.acts, hk, hr⟩
theorem Pl.up (h : Pl r d n) : Pl r.up d.up n := ⟨h.rel.up, h.acts, h.keep, h.range⟩
end
section
variable {g : Nat} {W w w' : World} {X : Nat → Prop} {L : List Row} {d : D} {AL : Option Addr} {cL : Nat} {AK : Option Addr} {cK : Nat} {r : Rf}
/-! ### What the disk is asked, by the document's words -/
theorem Bw.down (h : Bw W w X L g d AL cL AK cK r) (hr : Rel r d) : Calls Try.prog 22 #[ptr g] w fun e w' => e = .returned (.bool r.off) ∧ w' = w := by rw [← hr.off]; exact h.lw.down
theorem Bw.acts (h : Bw W w X L g d AL cL AK cK r) (hr : Rel r d) : Calls Try.prog 18 #[ptr g] w fun e w' => e = .returned (.int .i64 r.acts) ∧ w' = w := by rw [← hr.acts]; exact h.lw.acts
theorem Bw.sure (h : Bw W w X L g d AL cL AK cK r) {log : Int} (hlog : W64 log) : Calls Try.prog 20 #[ptr g, .int .i64 log] w fun e w' => e = .returned (.int .i64 (d.of log).sure) ∧ Below w.heap.size w w' := h.lw.sure hlog
theorem Bw.read (h : Bw W w X L g d AL cL AK cK r) {log : Int} (hlog : W64 log) : Calls Try.prog 17 #[ptr g, .int .i64 log] w fun e w' => ∃ v, e = .returned (.tuple #[v, .int .i64 (d.check log)]) ∧ OwnB w' w.heap.size v (d.read log) ∧ Below w.heap.size w w' := h.lw.read hlog
end
theorem own_bytes {w : World} {B : Nat} {v : Value} {bs : List UInt8} (h : OwnB w B v bs) : ∃ A cap, v = .slice A bs.length cap ∧ bs.length ≤ cap ∧ cap ≤ 9223372036854775807 ∧ (A = none → cap = 0) := own_slice0 h
end Go.Proofs.Ytllbfoohhonmeaa
