/- Contracts of the program's calls at layer 7: act, whatever is done. -/
import Derived.Test.YtlfigbgcackimaaDiskL
namespace Go.Proofs.Ytlfigbgcackimaa
open Go.RowKit Go.Dk
set_option linter.unusedVariables false
set_option linter.unusedSimpArgs false
set_option maxRecDepth 100000

/-- Log i has become c', and nothing else that is old has changed. -/
structure Put (F : Nat → Prop) (w w' : World) (g h k : Nat) (d : D) (i : Nat) (c' : Lg) : Prop where
  off : Off F w w'
  dx : ∃ vs' F', (∀ b, F' b → F b ∨ w.heap.size ≤ b) ∧ Dx w' g h k vs' (d.put i c') F'

theorem Dx.keeps {w : World} {g h k : Nat} {vs : Nat → Value} {d : D} {F : Nat → Prop} (x : Dx w g h k vs d F) : Sees w w.heap.size 1 (some ⟨k, 0, none⟩) d.keep.length (ints d.keep) :=
  ⟨by rw [ints_length, Nat.mul_one], fun _ => ⟨k, 0, rfl, x.kept.lt, fun j u hu => by rw [Nat.zero_add, x.kept.cell j]; simpa using hu⟩⟩

/-- A function that is told by a number enters. -/
theorem enters {f : FuncId} {fn : Func} {c : Code} (hf : Try.prog.funcs[f]? = some fn) (hname : (fn.name == "runtime.NumGoroutine") = false) (hb : fn.body = some c) (args : Array Value) (w : World) : (callFunc f args).run Try.prog w = .ok (.enter f args) w := by
  have h1 : fn.name ≠ "runtime.NumGoroutine" := by simpa using hname
  simp [callFunc, hf, h1, hb, mark]

set_option maxHeartbeats 1000000 in
theorem act_any (fn : Nat) (hen : ∀ (args : Array Value) (w : World), (callFunc fn args).run Try.prog w = .ok (.enter fn args) w) (cp : Array Value) (g h k : Nat) (vs : Nat → Value) (d : D) (F : Nat → Prop) (log : Int) (hlog : W64 log) (size : Nat) (hz : size ≤ 9223372036854775807) (c' : Lg) (hc' : d.check log = 0 → size ≤ 4194304 → c'.okay)
    (hacts : d.acts + 1 ≤ 9223372036854775807) (w : World) (x : Dx w g h k vs d F)
    (hfn : ∀ i c, log = (i : Nat) → d.logs[i]? = some c → size ≤ 4194304 → Calls Try.prog fn (#[.pointer (some ⟨h, i * 2, none⟩)] ++ cp) w fun e w' => e = .returned (.tuple #[]) ∧ Put F w w' g h k d i c') :
    Calls Try.prog 41 #[ptr g, .int .i64 log, .int .i64 size, .func (.func fn) #[] cp] w fun e w' => e = .returned (.int .i64 (d.act log size c').2) ∧ Moved F w w' g (d.act log size c').1 := by
  have HX := Lib.hid x
  have HFN := Lib.hid hfn
  have HCH := Lib.hid (check_any g h k vs d F log hlog w x)
  have HOK := Lib.hid hc'
  obtain ⟨c0, c1, c2, c3, c4⟩ := x.cells
  have hf := x.ok.few
  have hah := x.ok.ahead
  clear hfn hc'
  by_cases h0 : d.check log = 0
  case neg =>
    have HR : Hid (d.act log size c' = (d, d.check log)) := Lib.hid (by unfold D.act; rw [if_pos h0])
    have q9 : (d.check log != 0) = true := by simpa using h0
    clear x h0
    generalize d.check log = E at *
    go_enter Try.func41, Try.ntmps41
    go_wp2_with fail
    refine HCH.out.mono ?_
    rintro e w1 ⟨rfl, e1⟩
    subst w1
    go_wp2_with fail
    go_ret
    rw [HR.out]
    exact ⟨rfl, Off.refl _ _, F, fun b hb => .inl hb, h, k, vs, HX.out⟩
  case pos =>
    rw [h0] at HCH
    by_cases h1 : 4194304 < size
    case pos =>
      clear hen
      have HR : Hid (d.act log size c' = (d, 72)) := Lib.hid (by unfold D.act; rw [if_neg (by simp [h0]), if_pos h1])
      have h1' : (4194304 : Int) < size := by omega
      clear x h0
      go_enter Try.func41, Try.ntmps41
      go_wp2_with fail
      refine HCH.out.mono ?_
      rintro e w1 ⟨rfl, e1⟩
      subst w1
      go_wp2_with fail
      go_ret
      rw [HR.out]
      exact ⟨rfl, Off.refl _ _, F, fun b hb => .inl hb, h, k, vs, HX.out⟩
    case neg =>
      have h1' : ¬ ((4194304 : Int) < size) := by omega
      by_cases h2 : d.ahead = 1
      case pos =>
        have HR : Hid (d.act log size c' = (d.lose d.keep, 71)) := Lib.hid (by unfold D.act; rw [if_neg (by simp [h0]), if_neg h1, if_pos h2])
        have HL := Lib.hid (lose_any g h k vs d F w.heap.size (some ⟨k, 0, none⟩) d.logs.length d.keep w x x.keeps (Nat.le_refl _) (fun _ a ha => by injection ha with ha; subst ha; exact Ne.symm x.hk) x.ok.range (by have := x.ok.keep; omega))
        rw [x.ok.keep] at HL
        rw [h2] at c3
        clear x h0
        go_enter Try.func41, Try.ntmps41
        go_wp2_with fail
        refine HCH.out.mono ?_
        rintro e w1 ⟨rfl, e1⟩
        subst w1
        go_wp2_with fail
        refine HL.out.mono ?_
        rintro e w1 ⟨rfl, ⟨vs1, x1⟩, ho⟩
        have HX1 := Lib.hid x1
        have HO1 := Lib.hid ho
        clear x1 ho
        go_wp2_with fail
        go_ret
        rw [HR.out]
        exact ⟨rfl, HO1.out, F, fun b hb => .inl hb, h, k, vs1, HX1.out⟩
      case neg =>
        have HR : Hid (d.act log size c' = (d.done log.toNat c', 0)) := Lib.hid (by unfold D.act; rw [if_neg (by simp [h0]), if_neg h1, if_neg h2])
        have hin : ∃ (i : Nat) (c : Lg), log = i ∧ d.logs[i]? = some c := by
          rcases d.number log with hn | hn
          · unfold D.check at h0; rw [if_neg hn] at h0; cases h0
          · exact hn
        obtain ⟨i, c, rfl, hi⟩ := hin
        have HI := Lib.hid hi
        have hlt := at_lt hi
        have h2' : ¬ ((d.ahead : Int) = 1) := by omega
        have HFF := Lib.hid (HFN.out i c rfl hi (by omega))
        have HOC := Lib.hid (HOK.out h0 (by omega))
        obtain ⟨l0, l1, fr0, fr1⟩ := x.log hi
        clear x h0 hi HOK HFN
        go_enter Try.func41, Try.ntmps41
        go_wp2_with fail
        refine HCH.out.mono ?_
        rintro e w1 ⟨rfl, e1⟩
        subst w1
        go_wp2_with fail
        refine HFF.out.mono ?_
        rintro e w1 ⟨rfl, ho, vs1, F1, hF1, x1⟩
        have HX1 := Lib.hid x1
        have HO1 := Lib.hid ho
        have HF1 := Lib.hid hF1
        have hl1 : (d.put i c').logs.length = d.logs.length := by simp [D.put]
        have x2 := x1.setFace 1 (.int .i64 ((d.acts + 1 : Nat) : Int)) (d' := { d.put i c' with acts := d.acts + 1 }) rfl rfl ⟨x1.ok.some, x1.ok.few, x1.ok.logs, x1.ok.ahead, x1.ok.keep, x1.ok.range⟩ (by simp [D.put])
        have x3 := x2.setFace 3 (.int .i64 ((d.ahead - 1 : Nat) : Int)) (d' := d.done i c') rfl rfl (x1.ok.some |> fun _ => HX.out.ok.done HOC.out) (by simp [D.put, D.done])
        have HX3 := Lib.hid x3
        obtain ⟨c0, c1, c2, c3, c4⟩ := x1.cells
        obtain ⟨f1, f2, f3⟩ := x1.free
        rw [hl1] at c0 c4
        rw [show (d.put i c').acts = d.acts from rfl] at c1
        rw [show (d.put i c').down = d.down from rfl] at c2
        rw [show (d.put i c').ahead = d.ahead from rfl] at c3
        clear x1 ho hF1 x2 x3 l0 l1 fr0 fr1 hen
        have e1 : IntKind.i64.wrap ((d.acts : Int) + 1) = ((d.acts + 1 : Nat) : Int) := by rw [IntKind.wrap_i64]; omega
        have e2 : (d.ahead - 1 : Nat) = (max ((d.ahead : Int) - 1) 0) := by omega
        go_wp2_with fail
        all_goals
          go_ret
          rw [HR.out]
          have x4 := HX3.out
          rw [show ((d.acts + 1 : Nat) : Int) = (d.acts : Int) + 1 by omega] at x4
          first
            | rw [show ((d.ahead - 1 : Nat) : Int) = (d.ahead : Int) - 1 by omega] at x4
            | rw [show ((d.ahead - 1 : Nat) : Int) = 0 by omega] at x4
          have m1 := HX1.out.mine.1
          refine ⟨rfl, ?_, F1, HF1.out, _, _, _, x4⟩
          have hg := HF1.out g m1
          exact (HO1.out.set (p := ⟨g, 1, none⟩) hg _).set (p := ⟨g, 3, none⟩) hg _
end Go.Proofs.Ytlfigbgcackimaa
