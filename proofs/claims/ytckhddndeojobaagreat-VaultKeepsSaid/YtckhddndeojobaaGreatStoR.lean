/- Contracts at layer 12, of the program's calls that only read, but those over all keys: isTime, isKey, New, Closed, Mark, Last, tells, counts, Get. -/
import Derived.Test.YtckhddndeojobaaGreatStoW
namespace Go.Proofs.YtckhddndeojobaaGreat
open Go.RowKit Go.Cn Go.So
set_option linter.unusedVariables false
set_option linter.unusedSimpArgs false
set_option maxRecDepth 100000

theorem stime_any (n : Int) (w : World) : Calls Tryz.prog 53 #[.int .i64 n] w fun e w' => e = .returned (.bool (isT n)) ∧ w' = w := by
  cases h : isT n with
  | true =>
    obtain ⟨h0, h1⟩ := (isT_iff n).1 h
    clear h
    go_enter Tryz.func53, Tryz.ntmps53
    go_wp2_with fail
    go_ret
    exact ⟨by first | rfl | (simp [*]; try omega), rfl⟩
  | false =>
    have h1 := (isT_no n).1 h
    clear h
    by_cases h0 : 0 ≤ n
    · have h2 : 1125899906842624 < n := by omega
      clear h1
      go_enter Tryz.func53, Tryz.ntmps53
      go_wp2_with fail
      all_goals
        go_ret
        exact ⟨by first | rfl | (simp [*]; try omega), rfl⟩
    · have h2 : n < 0 := by omega
      clear h1
      go_enter Tryz.func53, Tryz.ntmps53
      go_wp2_with fail
      all_goals
        go_ret
        exact ⟨by first | rfl | (simp [*]; try omega), rfl⟩
theorem skey_any (n : Int) (w : World) : Calls Tryz.prog 56 #[.int .i64 n] w fun e w' => e = .returned (.bool (isK n)) ∧ w' = w := by
  cases h : isK n with
  | true =>
    obtain ⟨h0, h1⟩ := (isK_iff n).1 h
    clear h
    go_enter Tryz.func56, Tryz.ntmps56
    go_wp2_with fail
    go_ret
    exact ⟨by first | rfl | (simp [*]; try omega), rfl⟩
  | false =>
    have h1 := (isK_no n).1 h
    clear h
    by_cases h0 : 0 ≤ n
    · have h2 : 8192 ≤ n := by omega
      clear h1
      go_enter Tryz.func56, Tryz.ntmps56
      go_wp2_with fail
      all_goals
        go_ret
        exact ⟨by first | rfl | (simp [*]; try omega), rfl⟩
    · have h2 : n < 0 := by omega
      clear h1
      go_enter Tryz.func56, Tryz.ntmps56
      go_wp2_with fail
      all_goals
        go_ret
        exact ⟨by first | rfl | (simp [*]; try omega), rfl⟩
theorem snew_any (w : World) : Calls Tryz.prog 39 #[] w fun e w' => e = .returned (ptr (w.heap.size + 1)) ∧ Below w.heap.size w w' ∧ Stx w' (w.heap.size + 1) newS (fun b => b = w.heap.size ∨ b = w.heap.size + 1) := by
  have hmm := @run_makeMap Tryz.prog
  go_enter Tryz.func39, Tryz.ntmps39
  go_wp2_with fail
  go_ret
  have h1 : (w.alloc (.map #[] 0)).heap.size = w.heap.size + 1 := by simp
  have hw : Whole ((w.alloc (.map #[] 0)).alloc (.cells #[.map (some w.heap.size), .int .i64 0, .int .i64 0] 97)) (w.heap.size + 1) 97 #[.map (some w.heap.size), .int .i64 0, .int .i64 0] := by
    have := Whole.fresh (w.alloc (.map #[] 0)) 97 #[.map (some w.heap.size), .int .i64 0, .int .i64 0]
    rwa [h1] at this
  refine ⟨rfl, ((Below.refl _ _).alloc (Nat.le_refl _) _).alloc (by simp) _, w.heap.size, fun _ => 0, fun _ _ => False, ⟨Fine.new, hw, ?_, fun k c hk => (by cases hk), fun j k b hj => (by cases hj), fun k hk => (by cases hk), ⟨.inr rfl, .inl rfl, fun k b hk => (by cases hk)⟩, fun b hb => by simp; omega⟩⟩
  exact ((Mp.made w).at (Below.heap_alloc _ _ w.heap.size (by simp))).congr fun x => rfl
section
variable {g mb : Nat} {s : Sto} {rb : Int → Nat} {K : Int → Nat → Prop} {F : Nat → Prop}
theorem sclosed_any (w : World) (x : Sx w g mb s rb K F) : Calls Tryz.prog 133 #[ptr g] w fun e w' => e = .returned (.int .i64 s.closed) ∧ w' = w := by
  obtain ⟨c0, c1, c2, z⟩ := x.cells
  clear x
  go_enter Tryz.func133, Tryz.ntmps133
  go_wp2_with fail
  go_ret
  exact ⟨rfl, rfl⟩
theorem smark_any (w : World) (x : Sx w g mb s rb K F) : Calls Tryz.prog 134 #[ptr g] w fun e w' => e = .returned (.int .i64 s.mark) ∧ w' = w := by
  obtain ⟨c0, c1, c2, z⟩ := x.cells
  clear x
  go_enter Tryz.func134, Tryz.ntmps134
  go_wp2_with fail
  go_ret
  exact ⟨rfl, rfl⟩
theorem stells_any (t : Int) (w : World) (x : Sx w g mb s rb K F) : Calls Tryz.prog 45 #[ptr g, .int .i64 t] w fun e w' => e = .returned (.int .i64 (tellsE s t)) ∧ w' = w := by
  obtain ⟨c0, c1, c2, z⟩ := x.cells
  have HT := Lib.hid (stime_any t w)
  clear x
  rcases tells_cases s t with ⟨h1, h2⟩ | ⟨h1, h3, h2⟩ | ⟨h1, h3, h4, h2⟩ | ⟨h1, h3, h4, h2⟩ <;> rw [h1] at HT <;> rw [h2] <;> clear h1 h2
  · go_enter Tryz.func45, Tryz.ntmps45
    go_wp2_with fail
    refine HT.out.mono ?_
    rintro e w1 ⟨rfl, e1⟩
    subst w1
    go_wp2_with fail
    go_ret
    exact ⟨rfl, rfl⟩
  · go_enter Tryz.func45, Tryz.ntmps45
    go_wp2_with fail
    refine HT.out.mono ?_
    rintro e w1 ⟨rfl, e1⟩
    subst w1
    go_wp2_with fail
    go_ret
    exact ⟨rfl, rfl⟩
  · have h5 : ¬ s.closed < t := by omega
    go_enter Tryz.func45, Tryz.ntmps45
    go_wp2_with fail
    refine HT.out.mono ?_
    rintro e w1 ⟨rfl, e1⟩
    subst w1
    go_wp2_with fail
    go_ret
    exact ⟨rfl, rfl⟩
  · have h5 : ¬ s.closed < t := by omega
    have h6 : ¬ t < s.mark := by omega
    go_enter Tryz.func45, Tryz.ntmps45
    go_wp2_with fail
    refine HT.out.mono ?_
    rintro e w1 ⟨rfl, e1⟩
    subst w1
    go_wp2_with fail
    go_ret
    exact ⟨rfl, rfl⟩
set_option maxHeartbeats 1000000 in
theorem slast_any (k : Int) (hk64 : W64 k) (w : World) (x : Sx w g mb s rb K F) :
    Calls Tryz.prog 40 #[ptr g, .int .i64 k] w fun e w' => e = .returned (.tuple #[aggV (lastS s k), .bool (s.ch k).isSome]) ∧ Below w.heap.size w w' := by
  have H := Lib.hid (two_zero w)
  obtain ⟨d0, d1, f0, f1, z0⟩ := H.out.two 0 w.heap.size rfl
  have x1 := x.call H.out.below
  obtain ⟨c0, c1, c2, z⟩ := x1.cells
  cases hk : s.ch k with
  | none =>
    have hl := x1.lookN hk hk64
    have e1 : lastS s k = (0, 0) := by unfold lastS; rw [hk]
    rw [e1]
    simp only [Option.isSome_none]
    clear x x1 e1 hk
    go_enter Tryz.func40, Tryz.ntmps40
    go_wp2_with fail
    refine bodyPost_ret (by simp [results, Tryz.results40, go_sem, d0, d1, f0, f1, z0]; try rfl) rfl ?_
    refine ⟨rfl, ?_⟩
    have hb := H.out.below
    go_grown
  | some c =>
    have hl := (x1.lookS hk).1
    obtain ⟨cb, A, cap, r0, r1, rz, hr⟩ := x1.row hk
    have HL := Lib.hid (clast_any cb A cap c _ hr)
    have e1 : lastS s k = lastV c.l := by unfold lastS; rw [hk]
    have e2 : decide (0 < c.l.length) = true := by have := x.fine.pos k c hk; simpa using this
    rw [e2] at HL
    rw [e1]
    simp only [Option.isSome_some]
    clear x x1 e1 e2 hk hr
    generalize lastV c.l = v at *
    go_enter Tryz.func40, Tryz.ntmps40
    go_wp2_with fail
    refine HL.out.mono ?_
    rintro e w1 ⟨rfl, hb⟩
    replace H := Lib.hid (H.out.call hb)
    clear hb d0 d1 f0 f1 z0 c0 c1 c2 z hl r0 r1 rz
    obtain ⟨d0, d1, f0, f1, z0⟩ := H.out.two 0 w.heap.size rfl
    go_wp2_with fail
    refine bodyPost_ret (by simp [results, Tryz.results40, go_sem, d0, d1, f0, f1, z0]; try rfl) rfl ?_
    refine ⟨rfl, ?_⟩
    have hb := H.out.below
    go_grown
theorem cnt_cases (s : Sto) (k t : Int) : (s.ch k = none ∧ cnt s k t = none) ∨ (∃ c, s.ch k = some c ∧ ((getE c t ≠ 0 ∧ (getE c t = 110 ∨ getE c t = 113 ∨ getE c t = 114) ∧ getV c t = (0, 0) ∧ cnt s k t = none) ∨ (getE c t = 0 ∧ cnt s k t = some (getV c t)))) := by
  unfold cnt cntC
  cases h : s.ch k with
  | none => exact .inl ⟨rfl, rfl⟩
  | some c =>
    refine .inr ⟨c, rfl, ?_⟩
    simp only [Option.bind_some]
    rcases get_cases c t with ⟨_, h1, h2⟩ | ⟨_, _, h1, h2⟩ | ⟨_, _, _, h1, h2⟩ | ⟨_, _, n, _, _, _, h1⟩ <;> rw [h1]
    · exact .inl ⟨by simp, by simp, h2, by simp⟩
    · exact .inl ⟨by simp, by simp, h2, by simp⟩
    · exact .inl ⟨by simp, by simp, h2, by simp⟩
    · exact .inr ⟨rfl, by simp⟩
set_option maxHeartbeats 2000000 in
theorem scounts_any (k t : Int) (hk64 : W64 k) (w : World) (x : Sx w g mb s rb K F) :
    Calls Tryz.prog 47 #[ptr g, .int .i64 k, .int .i64 t] w fun e w' => e = .returned (.tuple #[aggV ((cnt s k t).getD (0, 0)), .bool (cnt s k t).isSome]) ∧ Below w.heap.size w w' := by
  have H := Lib.hid (two_zero w)
  obtain ⟨d0, d1, f0, f1, z0⟩ := H.out.two 0 w.heap.size rfl
  have x1 := x.call H.out.below
  obtain ⟨c0, c1, c2, z⟩ := x1.cells
  rcases cnt_cases s k t with ⟨hk, hc⟩ | ⟨c, hk, hcc⟩
  · have hl := x1.lookN hk hk64
    rw [hc]
    simp only [Option.isSome_none, Option.getD_none]
    clear x x1 hc hk
    go_enter Tryz.func47, Tryz.ntmps47
    go_wp2_with fail
    refine bodyPost_ret (by simp [results, Tryz.results47, go_sem, d0, d1, f0, f1, z0]; try rfl) rfl ?_
    refine ⟨rfl, ?_⟩
    have hb := H.out.below
    go_grown
  · have hl := (x1.lookS hk).1
    obtain ⟨cb, A, cap, r0, r1, rz, hr⟩ := x1.row hk
    have HG := Lib.hid (cget_any cb A cap c t _ hr)
    have key : ∃ v e b, getV c t = v ∧ getE c t = e ∧ (e == (0 : Int)) = b ∧ cnt s k t = (if b then some v else none) ∧ (b = false → v = (0, 0)) := by
      rcases hcc with ⟨h0, h1, h2, h3⟩ | ⟨h0, h3⟩
      · exact ⟨_, _, _, rfl, rfl, rfl, by rw [h3]; simp [h0], fun _ => h2⟩
      · exact ⟨_, _, _, rfl, rfl, rfl, by rw [h3, h0]; simp, fun h => by rw [h0] at h; cases h⟩
    obtain ⟨v, e, b, hv, he, hb, hc, hz⟩ := key
    rw [hv, he] at HG
    have e3 : (.tuple #[aggV ((cnt s k t).getD (0, 0)), .bool (cnt s k t).isSome] : Value) = .tuple #[aggV v, .bool b] := by
      rw [hc]
      cases b with
      | true => rfl
      | false => rw [hz rfl]; rfl
    rw [e3]
    clear x x1 hcc hk hr hc hz hv he e3
    go_enter Tryz.func47, Tryz.ntmps47
    go_wp2_with fail
    refine HG.out.mono ?_
    rintro e w1 ⟨rfl, hbl⟩
    replace H := Lib.hid (H.out.call hbl)
    clear hbl d0 d1 f0 f1 z0 c0 c1 c2 z hl r0 r1 rz HG
    replace H := Lib.hid (H.out.alloc w1.heap.size rfl 81 #[.int .i64 v.1, .int .i64 v.2])
    obtain ⟨d0, d1, f0, f1, z0⟩ := H.out.two 1 w.heap.size rfl
    go_wp2_with fail
    refine bodyPost_ret (by simp [results, Tryz.results47, go_sem, d0, d1, f0, f1, z0]; try rfl) rfl ?_
    refine ⟨rfl, ?_⟩
    have hb := H.out.below
    go_grown
set_option maxHeartbeats 2000000 in
theorem sget_any (k t : Int) (w : World) (x : Sx w g mb s rb K F) :
    Calls Tryz.prog 43 #[ptr g, .int .i64 k, .int .i64 t] w fun e w' => e = .returned (.tuple #[aggV (getSV s k t), .int .i64 (getSE s k t)]) ∧ Below w.heap.size w w' := by
  have H := Lib.hid (two_zero w)
  obtain ⟨d0, d1, f0, f1, z0⟩ := H.out.two 0 w.heap.size rfl
  have HX := Lib.hid (x.call H.out.below)
  have HK := Lib.hid (fun w0 => skey_any k w0)
  have HT := Lib.hid (stells_any t _ HX.out)
  rcases getS_cases s k t with ⟨h1, h2, h3⟩ | ⟨h1, h4, h2, h3⟩ | ⟨h1, h4, h5, h2, h3⟩ | ⟨h1, h4, ⟨v, h5, h3⟩, h2⟩ <;> rw [h2, h3] <;> rw [h1] at HK
  · clear x h1 h2 h3
    go_enter Tryz.func43, Tryz.ntmps43
    go_wp2_with fail
    refine (HK.out _).mono ?_
    rintro e w1 ⟨rfl, e1⟩
    subst w1
    go_wp2_with fail
    refine bodyPost_ret (by simp [results, Tryz.results43, go_sem, d0, d1, f0, f1, z0]; try rfl) rfl ?_
    refine ⟨rfl, ?_⟩
    have hb := H.out.below
    go_grown
  · clear x h1 h2 h3
    have h5 : (tellsE s t == 0) = false := by simpa using h4
    clear h4
    generalize tellsE s t = z at *
    go_enter Tryz.func43, Tryz.ntmps43
    go_wp2_with fail
    refine (HK.out _).mono ?_
    rintro e w1 ⟨rfl, e1⟩
    subst w1
    go_wp2_with fail
    refine HT.out.mono ?_
    rintro e w1 ⟨rfl, e1⟩
    subst w1
    go_wp2_with fail
    refine bodyPost_ret (by simp [results, Tryz.results43, go_sem, d0, d1, f0, f1, z0]; try rfl) rfl ?_
    refine ⟨rfl, ?_⟩
    have hb := H.out.below
    go_grown
  all_goals
    rw [h4] at HT
    have hk64 : W64 k := by have := (isK_iff k).1 h1; unfold W64; omega
    have HC := Lib.hid (scounts_any k t hk64 _ HX.out)
    rw [h5] at HC
    clear x h1 h2 h3 h4 h5
    go_enter Tryz.func43, Tryz.ntmps43
    go_wp2_with fail
    refine (HK.out _).mono ?_
    rintro e w1 ⟨rfl, e1⟩
    subst w1
    go_wp2_with fail
    refine HT.out.mono ?_
    rintro e w1 ⟨rfl, e1⟩
    subst w1
    go_wp2_with fail
    refine HC.out.mono ?_
    rintro e w1 ⟨rfl, hb⟩
    replace H := Lib.hid (H.out.call hb)
    clear hb d0 d1 f0 f1 z0 HX HT HC
  · replace H := Lib.hid (H.out.alloc w1.heap.size rfl 81 #[.int .i64 0, .int .i64 0])
    obtain ⟨d0, d1, f0, f1, z0⟩ := H.out.two 1 w.heap.size rfl
    go_wp2_with fail
    refine bodyPost_ret (by simp [results, Tryz.results43, go_sem, d0, d1, f0, f1, z0]; try rfl) rfl ?_
    refine ⟨rfl, ?_⟩
    have hb := H.out.below
    go_grown
  · replace H := Lib.hid (H.out.alloc w1.heap.size rfl 81 #[.int .i64 v.1, .int .i64 v.2])
    obtain ⟨d0, d1, f0, f1, z0⟩ := H.out.two 1 w.heap.size rfl
    go_wp2_with fail
    refine bodyPost_ret (by simp [results, Tryz.results43, go_sem, d0, d1, f0, f1, z0]; try rfl) rfl ?_
    refine ⟨rfl, ?_⟩
    have hb := H.out.below
    go_grown
end
end Go.Proofs.YtckhddndeojobaaGreat
