/- Contracts of the program's calls at layer 7 that only read, and disarm. -/
import Derived.Test.YtlfigbgcackimaaDiskW
namespace Go.Proofs.Ytlfigbgcackimaa
open Go.RowKit Go.Dk
set_option linter.unusedVariables false
set_option linter.unusedSimpArgs false
set_option maxRecDepth 100000

theorem has_any (g h k : Nat) (vs : Nat → Value) (d : D) (F : Nat → Prop) (log : Int) (hlog : W64 log) (w : World) (x : Dx w g h k vs d F) :
    Calls Try.prog 59 #[ptr g, .int .i64 log] w fun e w' => e = .returned (.bool (decide (0 ≤ log ∧ log < d.logs.length))) ∧ w' = w := by
  obtain ⟨c0, c1, c2, c3, c4⟩ := x.cells
  have hf := x.ok.few
  unfold W64 at hlog
  clear x
  generalize d.logs.length = n at *
  go_enter Try.func59, Try.ntmps59
  go_wp2_with fail
  all_goals
    go_ret
    refine ⟨ret_bool ?_, rfl⟩
    rw [Bool.eq_iff_iff]
    simp
    omega

theorem of_any (g h k : Nat) (vs : Nat → Value) (d : D) (F : Nat → Prop) (log : Int) (hlog : W64 log) (w : World) (x : Dx w g h k vs d F) :
    Calls Try.prog 42 #[ptr g, .int .i64 log] w fun e w' =>
      e = .returned (.agg #[if 0 ≤ log ∧ log < d.logs.length then vs log.toNat else .slice none 0 0, .int .i64 (d.of log).sure]) ∧ Below w.heap.size w w' := by
  have HX := Lib.hid x
  have HH := Lib.hid (fun w0 (x0 : Dx w0 g h k vs d F) => has_any g h k vs d F log hlog w0 x0)
  rcases d.number log with hn | ⟨i, c, rfl, hi⟩
  · rw [D.of_out hn, if_neg hn]
    rw [decide_eq_false hn] at HH
    clear x hn
    go_enter Try.func42, Try.ntmps42
    go_wp2_with fail
    refine (HH.out _ (HX.out.alloc _)).mono ?_
    rintro e w1 ⟨rfl, e1⟩
    subst w1
    go_wp2_with fail
    refine bodyPost_ret (by simp [results, Try.results42, go_sem]; try rfl) rfl ?_
    refine ⟨rfl, ?_⟩
    have hb := Below.refl w.heap.size w
    go_grown
  · have hlt := at_lt hi
    have hp : 0 ≤ (i : Int) ∧ (i : Int) < d.logs.length := ⟨by omega, by omega⟩
    rw [D.of_in hi, if_pos hp]
    rw [decide_eq_true hp] at HH
    obtain ⟨A, cap, hv, h1, h2, h3⟩ := x.slice hi
    obtain ⟨c0, c1, c2, c3, c4⟩ := (x.alloc (.cells #[.slice none 0 0, .int .i64 0] 94)).cells
    obtain ⟨l0, l1, f0, f1⟩ := (x.alloc (.cells #[.slice none 0 0, .int .i64 0] 94)).log hi
    rw [show ((i : Int)).toNat = i by omega]
    have hf := x.ok.few
    rw [hv] at l0 ⊢
    clear x hp hi
    generalize d.logs.length = n at *
    go_enter Try.func42, Try.ntmps42
    go_wp2_with fail
    refine (HH.out _ (HX.out.alloc _)).mono ?_
    rintro e w1 ⟨rfl, e1⟩
    subst w1
    go_wp2_with fail
    refine bodyPost_ret (by simp [results, Try.results42, go_sem]; try rfl) rfl ?_
    refine ⟨rfl, ?_⟩
    have hb := Below.refl w.heap.size w
    go_grown
theorem check_any (g h k : Nat) (vs : Nat → Value) (d : D) (F : Nat → Prop) (log : Int) (hlog : W64 log) (w : World) (x : Dx w g h k vs d F) :
    Calls Try.prog 48 #[ptr g, .int .i64 log] w fun e w' => e = .returned (.int .i64 (d.check log)) ∧ w' = w := by
  have HH := Lib.hid (has_any g h k vs d F log hlog w x)
  obtain ⟨c0, c1, c2, c3, c4⟩ := x.cells
  have hd : (¬ (0 ≤ log ∧ log < d.logs.length) ∧ d.check log = 70) ∨ ((0 ≤ log ∧ log < d.logs.length) ∧ d.down = true ∧ d.check log = 71) ∨ ((0 ≤ log ∧ log < d.logs.length) ∧ d.down = false ∧ d.check log = 0) := by
    unfold D.check
    by_cases h : 0 ≤ log ∧ log < d.logs.length
    · cases hd : d.down <;> simp [h]
    · simp [h]
  clear x
  rcases hd with ⟨h1, h2⟩ | ⟨h1, h3, h2⟩ | ⟨h1, h3, h2⟩
  all_goals
    rw [h2]
    first
      | rw [decide_eq_false h1] at HH
      | rw [decide_eq_true h1] at HH
    try rw [h3] at c2
    clear h1 h2
    try clear h3
    go_enter Try.func48, Try.ntmps48
    go_wp2_with fail
    refine HH.out.mono ?_
    rintro e w1 ⟨rfl, e1⟩
    subst w1
    go_wp2_with fail
    go_ret
    exact ⟨rfl, rfl⟩

theorem clear_ints (w : World) (k n : Nat) (cs : Array Value) (h : Whole w k 3 cs) (hs : cs.size = n) (hn : 0 < n) (ty : TypeId) (c : Nat) :
    (Builtin.clear_ #[28] ty #[.slice (some ⟨k, 0, none⟩) n c]).run Try.prog w = .ok (.tuple #[]) (w.setRow k (List.replicate n (.int .i64 0)).toArray) := by
  have hv : ∀ w, (zeroValue 3).run Try.prog w = .ok (.int .i64 0) w := fun w => by kernel_rfl
  have hzc : (Builtin.zeroCells (Value.int .i64 0).cells n).toList = List.replicate n (.int .i64 0) := by
    rw [show (Value.int .i64 0).cells = #[.int .i64 0] from rfl]
    simp [Builtin.zeroCells]
    apply List.ext_getElem
    · simp
    · intro i h1 h2
      simp [Nat.mod_one]
  have hst := run_storeCells_at Try.prog k 0 3 (List.replicate n (.int .i64 0)) 0 cs w h (by simp [hs]) (by intro v hv'; rw [List.eq_of_mem_replicate hv']; rfl)
  rw [show (cs.toList.take (0 + 0) ++ List.replicate n (Value.int .i64 0) ++ cs.toList.drop (0 + 0 + (List.replicate n (Value.int .i64 0)).length)) = List.replicate n (.int .i64 0) by simp [hs]] at hst
  obtain ⟨m, rfl⟩ : ∃ m, n = m + 1 := ⟨n - 1, by omega⟩
  simp only [Builtin.clear_]
  simp [run_underlying Try.underlying28, hv, hzc, hst]

theorem zeros_ints (n : Nat) : ints (List.replicate n 0) = List.replicate n (.int .i64 0) := by unfold ints; rw [List.map_replicate]
theorem disarm_any (g h k : Nat) (vs : Nat → Value) (d : D) (F : Nat → Prop) (w : World) (x : Dx w g h k vs d F) :
    Calls Try.prog 53 #[ptr g] w fun e w' => e = .returned (.tuple #[]) ∧ Dx w' g h k vs d.disarm F ∧ Off F w w' := by
  have HX := Lib.hid x
  have x1 : Dx (w.setCell ⟨g, 3, none⟩ (.int .i64 0)) g h k vs { d with ahead := 0 } F := x.setFace 3 _ rfl rfl ⟨x.ok.some, x.ok.few, x.ok.logs, by simp, x.ok.keep, x.ok.range⟩ (by simp)
  have HX1 := Lib.hid x1
  obtain ⟨c0, c1, c2, c3, c4⟩ := x.cells
  obtain ⟨f1, f2, f3⟩ := x.free
  obtain ⟨d0, d1, d2, d3, d4⟩ := x1.cells
  have hcl := fun ty => clear_ints _ k d.logs.length _ x1.kept (by simp [ints]; exact x.ok.keep) x.ok.some ty d.logs.length
  clear x x1
  go_enter Try.func53, Try.ntmps53
  go_wp2_with fail
  go_end0
  refine ⟨rfl, ?_, ?_⟩
  · have x1 := HX1.out
    obtain ⟨cs, r1, r2⟩ := x1.row
    refine ⟨HX.out.ok.disarm, x1.face.rowAway x1.gk _, ⟨cs, r1.rowAway x1.hk _, r2⟩, ?_, fun i c hi => (x1.own i c hi).at fun b hb => setRow_other _ k b _ (x1.bytes hi hb).2.2, x1.apart, x1.mine, fun b hb => by simpa using x1.low b hb⟩
    have := x1.kept.setRow (List.replicate d.logs.length (.int .i64 0)).toArray
    rw [show ints d.disarm.keep = List.replicate d.logs.length (.int .i64 0) from zeros_ints _]
    exact this
  · exact ((Off.refl F w).set (p := ⟨g, 3, none⟩) (.inl HX.out.mine.1) _).setRow (.inl HX.out.mine.2.2.1) _
end Go.Proofs.Ytlfigbgcackimaa
