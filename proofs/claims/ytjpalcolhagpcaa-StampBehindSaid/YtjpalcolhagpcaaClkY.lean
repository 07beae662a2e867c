/- Contracts of the program's calls at layer 6: drifted, Now, Past, Set, New. (Written by gclky.py.) -/
import Derived.Test.YtjpalcolhagpcaaClkX
import Derived.Test.YtjpalcolhagpcaaInv
namespace Go.Proofs.Ytjpalcolhagpcaa
open Go.RowKit Go.Sp Go.Fl Go.Ck
set_option linter.unusedVariables false
set_option linter.unusedSimpArgs false
set_option maxRecDepth 100000

theorem Clk.rows {w : World} {g b : Nat} {c : Ck} (on : c.on = true) (hw : Whole w g 68 #[.pointer (some ⟨b, 0, none⟩), .float .f64 c.rate, .int .i64 c.last, .int .i64 c.floor]) (hb : Whole w b 70 #[.int .i64 c.r, .int .i64 c.t, .int .i64 c.e]) : Clk w g c :=
  ⟨_, hw, (fun h => by rw [on] at h; cases h), fun _ => ⟨b, rfl, hb⟩⟩
theorem Clk.start {w : World} {g : Nat} {c : Ck} (k : Clk w g c) (on : c.on = true) : ∃ b, b ≠ g ∧ g < w.heap.size ∧ b < w.heap.size ∧ St w w [(g, 68, #[.pointer (some ⟨b, 0, none⟩), .float .f64 c.rate, .int .i64 c.last, .int .i64 c.floor]), (b, 70, #[.int .i64 c.r, .int .i64 c.t, .int .i64 c.e])] := by
  obtain ⟨b, hbg, hw, hb⟩ := k.on on
  refine ⟨b, hbg, hw.lt, hb.lt, Below.refl _ _, fun r hr => ?_⟩
  rcases List.mem_cons.1 hr with rfl | hr
  · exact hw
  · rw [List.mem_singleton.1 hr]; exact hb

set_option maxHeartbeats 4000000 in
theorem drifted_any (g : Nat) (c : Ck) (o : Ok c) (h : Int) (h0 : c.nowE h = 0) (w : World) (k : Clk w g c) :
    Calls Try.prog 32 #[ptr g, .int .i64 h] w fun e w' => e = .returned (.agg #[.int .i64 (driL (widL (c.sum h) (c.sum h) c.e) (widH (c.sum h) (c.sum h) c.e) (h - c.r) c.rate), .int .i64 (driH (widL (c.sum h) (c.sum h) c.e) (widH (c.sum h) (c.sum h) c.e) (h - c.r) c.rate)]) ∧ Below w.heap.size w w' := by
  obtain ⟨q1, q2, -, -⟩ := drifted_eq c o h h0
  rcases now_cases c o h with ⟨E, t1, on, h1, h2, t2, h3, h4, -⟩ | ⟨E, -⟩ | ⟨E, -⟩ | ⟨E, -⟩ | ⟨E, -⟩
  case' inr.inr.inr.inr => rw [E] at h0; cases h0
  case' inr.inr.inr.inl => rw [E] at h0; cases h0
  case' inr.inr.inl => rw [E] at h0; cases h0
  case' inr.inl => rw [E] at h0; cases h0
  obtain ⟨b1, b2, b3⟩ := o.basis on
  have HS := Lib.hid (fun w0 (k0 : Clk w0 g c) => sum_any g c h w0 k0 on (by omega) b2 h1)
  have HP := Lib.hid (fun w0 (k0 : Clk w0 g c) => passed_any g c h w0 k0 on (by omega) h1)
  have HA := Lib.hid (fun w0 => saround_any (c.sum h) c.e w0 ⟨by omega, by omega⟩ ⟨by omega, by omega⟩)
  have r1 : R64 (widL (c.sum h) (c.sum h) c.e) ∧ R64 (widH (c.sum h) (c.sum h) c.e) := by
    rcases wid_cases (c.sum h) (c.sum h) c.e with ⟨-, -, -, -, -, e1, e2⟩ | ⟨-, -, -, -, -, e1, e2⟩ | ⟨-, -, -, e1, e2⟩
    all_goals
      rw [e1, e2]
      unfold R64
      (try (split <;> split <;> omega))
      (try omega)
  have HD := Lib.hid (fun w0 => sdrift_any (widL (c.sum h) (c.sum h) c.e) (widH (c.sum h) (c.sum h) c.e) (h - c.r) c.rate (crated_num o.rate) w0 r1.1 r1.2 ⟨by omega, by omega⟩)
  rw [q1] at HA
  rw [q2] at HD
  obtain ⟨b, hbg, glt, blt, st⟩ := k.start on
  have H := Lib.hid (st.alloc w.heap.size rfl 28 #[.int .i64 0, .int .i64 0])
  have HON := Lib.hid on
  clear q1 q2 k E t1 on h2 t2 h4 b1 b2 b3 o h0 st r1 h1 h3
  generalize widL (c.sum h) (c.sum h) c.e = L at *
  generalize widH (c.sum h) (c.sum h) c.e = M at *
  generalize driL L M (h - c.r) c.rate = L' at *
  generalize driH L M (h - c.r) c.rate = M' at *
  generalize c.sum h = s at *
  generalize h - c.r = n at *
  go_enter Try.func32, Try.ntmps32
  go_wp2_with fail
  refine Iv.region (fun f aa y => ∃ p, aa = ⟨#[ptr g, .int .i64 h, undef, undef, ptr w.heap.size, sl (f 14) (ptr p), sl (f 16) (.int .i64 0), sl (f 11) (.tuple #[.agg #[.int .i64 L, .int .i64 M], .int .i64 0]), sl (f 0) (ptr g), sl (f 1) (.int .i64 h), sl (f 2) (.int .i64 s), sl (f 3) (ptr g), sl (f 4) (ptr g), sl (f 5) (ptr g), sl (f 6) (ptr b), sl (f 7) (ptr b), sl (f 8) (.pointer (some ⟨b, 2, none⟩)), sl (f 9) (.int .i64 c.e), sl (f 10) (.tuple #[.agg #[.int .i64 L, .int .i64 M], .int .i64 0]), sl (f 12) (.agg #[.int .i64 L, .int .i64 M]), sl (f 13) (.int .i64 0), undef, undef, undef, undef, undef, undef, undef, undef, undef, undef, undef, undef, undef], []⟩ ∧ Wn w y [(w.heap.size, 28, #[.int .i64 0, .int .i64 0]), (g, 68, #[.pointer (some ⟨b, 0, none⟩), .float .f64 c.rate, .int .i64 c.last, .int .i64 c.floor]), (b, 70, #[.int .i64 c.r, .int .i64 c.t, .int .i64 c.e])] p 28 #[.int .i64 0, .int .i64 0] #[.int .i64 L, .int .i64 M] (f 14) (f 15)) (by kernel_rfl) (by kernel_rfl) ?_ ?_ ?_
  · exact ⟨0, rfl, .start (H.out.drewN 1) _ _ _ _⟩
  · refine ⟨?_, ?_, ?_, ?_, ?_, ?_, ?_, ?_, ?_, ?_, ?_, ?_, ?_, ?_, ?_, ?_, ?_, trivial⟩
    · rintro f a0 y Q' ⟨p, rfl, hw⟩ hi hd hQ
      replace hQ := Lib.hid hQ
      simp [Iv.depsB, Region.binds] at hd
      try simp only [hi, hd, sl_true, sl_false]
      try simp only [hi, sl_true, sl_false]
      go_wp2_with fail
      refine hQ.out _ _ ⟨p, ?_, ?_⟩
      · simp [Iv.upd, hi, hd, sl_true, sl_false]
      · simpa [Iv.upd, hi, hd] using hw
    · rintro f a0 y Q' ⟨p, rfl, hw⟩ hi hd hQ
      replace hQ := Lib.hid hQ
      simp [Iv.depsB, Region.binds] at hd
      try simp only [hi, hd, sl_true, sl_false]
      try simp only [hi, sl_true, sl_false]
      go_wp2_with fail
      refine hQ.out _ _ ⟨p, ?_, ?_⟩
      · simp [Iv.upd, hi, hd, sl_true, sl_false]
      · simpa [Iv.upd, hi, hd] using hw
    · rintro f a0 y Q' ⟨p, rfl, hw⟩ hi hd hQ
      replace hQ := Lib.hid hQ
      simp [Iv.depsB, Region.binds] at hd
      try simp only [hi, hd, sl_true, sl_false]
      try simp only [hi, sl_true, sl_false]
      go_wp2_with fail
      refine (HS.out _ (Clk.rows HON.out (hw.old.knows.at 1 rfl) (hw.old.knows.at 2 rfl))).mono ?_
      rintro e y1 ⟨rfl, hb⟩
      go_wp2_with fail
      refine hQ.out _ _ ⟨p, ?_, ?_⟩
      · simp [Iv.upd, hi, hd, sl_true, sl_false]
      · simpa [Iv.upd, hi, hd] using hw.call hb
    · rintro f a0 y Q' ⟨p, rfl, hw⟩ hi hd hQ
      replace hQ := Lib.hid hQ
      simp [Iv.depsB, Region.binds] at hd
      try simp only [hi, hd, sl_true, sl_false]
      try simp only [hi, sl_true, sl_false]
      go_wp2_with fail
      refine hQ.out _ _ ⟨p, ?_, ?_⟩
      · simp [Iv.upd, hi, hd, sl_true, sl_false]
      · simpa [Iv.upd, hi, hd] using hw
    · rintro f a0 y Q' ⟨p, rfl, hw⟩ hi hd hQ
      replace hQ := Lib.hid hQ
      simp [Iv.depsB, Region.binds] at hd
      try simp only [hi, hd, sl_true, sl_false]
      try simp only [hi, sl_true, sl_false]
      go_wp2_with fail
      refine hQ.out _ _ ⟨p, ?_, ?_⟩
      · simp [Iv.upd, hi, hd, sl_true, sl_false]
      · simpa [Iv.upd, hi, hd] using hw
    · rintro f a0 y Q' ⟨p, rfl, hw⟩ hi hd hQ
      replace hQ := Lib.hid hQ
      simp [Iv.depsB, Region.binds] at hd
      try simp only [hi, hd, sl_true, sl_false]
      try simp only [hi, sl_true, sl_false]
      go_wp2_with fail
      refine hQ.out _ _ ⟨p, ?_, ?_⟩
      · simp [Iv.upd, hi, hd, sl_true, sl_false]
      · simpa [Iv.upd, hi, hd] using hw
    · rintro f a0 y Q' ⟨p, rfl, hw⟩ hi hd hQ
      replace hQ := Lib.hid hQ
      simp [Iv.depsB, Region.binds] at hd
      try simp only [hi, hd, sl_true, sl_false]
      try simp only [hi, sl_true, sl_false]
      obtain ⟨q0, q1, q2, q3⟩ := (hw.old.knows.at 1 rfl).four
      go_wp2_with fail
      refine hQ.out _ _ ⟨p, ?_, ?_⟩
      · simp [Iv.upd, hi, hd, sl_true, sl_false]
      · simpa [Iv.upd, hi, hd] using hw
    · rintro f a0 y Q' ⟨p, rfl, hw⟩ hi hd hQ
      replace hQ := Lib.hid hQ
      simp [Iv.depsB, Region.binds] at hd
      try simp only [hi, hd, sl_true, sl_false]
      try simp only [hi, sl_true, sl_false]
      go_wp2_with fail
      refine hQ.out _ _ ⟨p, ?_, ?_⟩
      · simp [Iv.upd, hi, hd, sl_true, sl_false]
      · simpa [Iv.upd, hi, hd] using hw
    · rintro f a0 y Q' ⟨p, rfl, hw⟩ hi hd hQ
      replace hQ := Lib.hid hQ
      simp [Iv.depsB, Region.binds] at hd
      try simp only [hi, hd, sl_true, sl_false]
      try simp only [hi, sl_true, sl_false]
      go_wp2_with fail
      refine hQ.out _ _ ⟨p, ?_, ?_⟩
      · simp [Iv.upd, hi, hd, sl_true, sl_false]
      · simpa [Iv.upd, hi, hd] using hw
    · rintro f a0 y Q' ⟨p, rfl, hw⟩ hi hd hQ
      replace hQ := Lib.hid hQ
      simp [Iv.depsB, Region.binds] at hd
      try simp only [hi, hd, sl_true, sl_false]
      try simp only [hi, sl_true, sl_false]
      obtain ⟨r0, r1, r2⟩ := (hw.old.knows.at 2 rfl).three
      go_wp2_with fail
      refine hQ.out _ _ ⟨p, ?_, ?_⟩
      · simp [Iv.upd, hi, hd, sl_true, sl_false]
      · simpa [Iv.upd, hi, hd] using hw
    · rintro f a0 y Q' ⟨p, rfl, hw⟩ hi hd hQ
      replace hQ := Lib.hid hQ
      simp [Iv.depsB, Region.binds] at hd
      try simp only [hi, hd, sl_true, sl_false]
      try simp only [hi, sl_true, sl_false]
      go_wp2_with fail
      refine (HA.out _).mono ?_
      rintro e y1 ⟨rfl, hb⟩
      go_wp2_with fail
      refine hQ.out _ _ ⟨p, ?_, ?_⟩
      · simp [Iv.upd, hi, hd, sl_true, sl_false]
      · simpa [Iv.upd, hi, hd] using hw.call hb
    · rintro f a0 y Q' ⟨p, rfl, hw⟩ hi hd hQ
      replace hQ := Lib.hid hQ
      simp [Iv.depsB, Region.binds] at hd
      try simp only [hi, hd, sl_true, sl_false]
      try simp only [hi, sl_true, sl_false]
      go_wp2_with fail
      refine hQ.out _ _ ⟨p, ?_, ?_⟩
      · simp [Iv.upd, hi, hd, sl_true, sl_false]
      · simpa [Iv.upd, hi, hd] using hw
    · rintro f a0 y Q' ⟨p, rfl, hw⟩ hi hd hQ
      replace hQ := Lib.hid hQ
      simp [Iv.depsB, Region.binds] at hd
      try simp only [hi, hd, sl_true, sl_false]
      try simp only [hi, sl_true, sl_false]
      go_wp2_with fail
      refine hQ.out _ _ ⟨p, ?_, ?_⟩
      · simp [Iv.upd, hi, hd, sl_true, sl_false]
      · simpa [Iv.upd, hi, hd] using hw
    · rintro f a0 y Q' ⟨p, rfl, hw⟩ hi hd hQ
      replace hQ := Lib.hid hQ
      simp [Iv.depsB, Region.binds] at hd
      try simp only [hi, hd, sl_true, sl_false]
      try simp only [hi, sl_true, sl_false]
      go_wp2_with fail
      refine hQ.out _ _ ⟨p, ?_, ?_⟩
      · simp [Iv.upd, hi, hd, sl_true, sl_false]
      · simpa [Iv.upd, hi, hd] using hw
    · rintro f a0 y Q' ⟨p, rfl, hw⟩ hi hd hQ
      replace hQ := Lib.hid hQ
      simp [Iv.depsB, Region.binds] at hd
      try simp only [hi, hd, sl_true, sl_false]
      try simp only [hi, sl_true, sl_false]
      have ej := hw.first hi
      have hw2 := hw
      rw [hi, ej] at hw2
      go_wp2_with fail
      refine hQ.out _ _ ⟨y.heap.size, ?_, ?_⟩
      · simp [Iv.upd, hi, sl_true, sl_false]
      · simpa [Iv.upd, ej] using hw2.made _ rfl
    · rintro f a0 y Q' ⟨p, rfl, hw⟩ hi hd hQ
      replace hQ := Lib.hid hQ
      simp [Iv.depsB, Region.binds] at hd
      try simp only [hi, hd, sl_true, sl_false]
      try simp only [hi, sl_true, sl_false]
      have ea : f 14 = true := by simp [hd]
      have hw2 := hw
      rw [hi, ea] at hw2
      have hwk := hw2.is
      obtain ⟨c0, c1, d0, d1, z0⟩ := (show Knows _ [_] from fun r hr => by rw [List.mem_singleton.1 hr]; exact hwk).two 0 p rfl
      clear hwk
      go_wp2_with fail
      refine hQ.out _ _ ⟨p, ?_, ?_⟩
      · simp [Iv.upd, hi, hd, sl_true, sl_false]
      · simpa [Iv.upd, ea, hd] using hw2.stored2
    · rintro f a0 y Q' ⟨p, rfl, hw⟩ hi hd hQ
      replace hQ := Lib.hid hQ
      simp [Iv.depsB, Region.binds] at hd
      try simp only [hi, hd, sl_true, sl_false]
      try simp only [hi, sl_true, sl_false]
      go_wp2_with fail
      refine hQ.out _ _ ⟨p, ?_, ?_⟩
      · simp [Iv.upd, hi, hd, sl_true, sl_false]
      · simpa [Iv.upd, hi, hd] using hw
  · rintro f a0 w1 ⟨p, rfl, hw⟩ hall
    simp only [hall 0 (by decide), hall 1 (by decide), hall 2 (by decide), hall 3 (by decide), hall 4 (by decide), hall 5 (by decide), hall 6 (by decide), hall 7 (by decide), hall 8 (by decide), hall 9 (by decide), hall 10 (by decide), hall 11 (by decide), hall 12 (by decide), hall 13 (by decide), hall 14 (by decide), hall 15 (by decide), hall 16 (by decide), sl_true] at hw ⊢
    clear hall
    obtain ⟨hp, hf⟩ := hw.far rfl
    have H1 := Lib.hid (show St w w1 ((p, 28, #[.int .i64 L, .int .i64 M]) :: [(w.heap.size, 28, #[.int .i64 0, .int .i64 0]), (g, 68, #[.pointer (some ⟨b, 0, none⟩), .float .f64 c.rate, .int .i64 c.last, .int .i64 c.floor]), (b, 70, #[.int .i64 c.r, .int .i64 c.t, .int .i64 c.e])]) from hw.st)
    have z9 : w.heap.size ≠ p := hf (w.heap.size, 28, #[.int .i64 0, .int .i64 0]) (by simp)
    have HF := Lib.hid hf
    clear hw hf
    go_wp2_with fail
    refine Iv.region (fun f aa y => aa = ⟨#[ptr g, .int .i64 h, undef, undef, ptr w.heap.size, ptr p, .int .i64 0, .tuple #[.agg #[.int .i64 L, .int .i64 M], .int .i64 0], ptr g, .int .i64 h, .int .i64 s, ptr g, ptr g, ptr g, ptr b, ptr b, .pointer (some ⟨b, 2, none⟩), .int .i64 c.e, .tuple #[.agg #[.int .i64 L, .int .i64 M], .int .i64 0], .agg #[.int .i64 L, .int .i64 M], .int .i64 0, sl (f 9) (.tuple #[.agg #[.int .i64 L', .int .i64 M'], .int .i64 0]), sl (f 0) (.agg #[.int .i64 L, .int .i64 M]), sl (f 1) (ptr g), sl (f 2) (.int .i64 h), sl (f 3) (.int .i64 n), sl (f 4) (ptr g), sl (f 5) (ptr g), sl (f 6) (.pointer (some ⟨g, 1, none⟩)), sl (f 7) (.float .f64 c.rate), sl (f 8) (.tuple #[.agg #[.int .i64 L', .int .i64 M'], .int .i64 0]), sl (f 10) (.agg #[.int .i64 L', .int .i64 M']), sl (f 11) (.int .i64 0), undef], []⟩ ∧ Wn w y [(w.heap.size, 28, #[.int .i64 0, .int .i64 0]), (g, 68, #[.pointer (some ⟨b, 0, none⟩), .float .f64 c.rate, .int .i64 c.last, .int .i64 c.floor]), (b, 70, #[.int .i64 c.r, .int .i64 c.t, .int .i64 c.e])] p 28 #[.int .i64 L, .int .i64 M] #[.int .i64 L', .int .i64 M'] true (f 12) ∧ (f 12 = true → f 0 = true)) (by kernel_rfl) (by kernel_rfl) ?_ ?_ ?_
    · exact ⟨rfl, ⟨.startT (H1.out.drewN 1) _ hp HF.out, fun h => by cases h⟩⟩
    · refine ⟨?_, ?_, ?_, ?_, ?_, ?_, ?_, ?_, ?_, ?_, ?_, ?_, ?_, trivial⟩
      · rintro f a0 y Q' ⟨rfl, hw⟩ hi hd hQ
        replace hQ := Lib.hid hQ
        simp [Iv.depsB, Region.binds] at hd
        try simp only [hi, hd, sl_true, sl_false]
        try simp only [hi, sl_true, sl_false]
        have hwk := hw.1.is
        have e12 : f 12 = false := by
          cases h12 : f 12 with
          | false => rfl
          | true => have := hw.2 h12; rw [hi] at this; cases this
        rw [e12] at hwk
        obtain ⟨c0, c1, d0, d1, z0⟩ := (show Knows _ [_] from fun r hr => by rw [List.mem_singleton.1 hr]; exact hwk).two 0 p rfl
        go_wp2_with fail
        refine hQ.out _ _ ⟨?_, ?_⟩
        · simp [Iv.upd, hi, hd, sl_true, sl_false]
        · simpa [Iv.upd, hi, hd] using hw.1
      · rintro f a0 y Q' ⟨rfl, hw⟩ hi hd hQ
        replace hQ := Lib.hid hQ
        simp [Iv.depsB, Region.binds] at hd
        try simp only [hi, hd, sl_true, sl_false]
        try simp only [hi, sl_true, sl_false]
        go_wp2_with fail
        refine hQ.out _ _ ⟨?_, ?_⟩
        · simp [Iv.upd, hi, hd, sl_true, sl_false]
        · simpa [Iv.upd, hi, hd] using hw
      · rintro f a0 y Q' ⟨rfl, hw⟩ hi hd hQ
        replace hQ := Lib.hid hQ
        simp [Iv.depsB, Region.binds] at hd
        try simp only [hi, hd, sl_true, sl_false]
        try simp only [hi, sl_true, sl_false]
        go_wp2_with fail
        refine hQ.out _ _ ⟨?_, ?_⟩
        · simp [Iv.upd, hi, hd, sl_true, sl_false]
        · simpa [Iv.upd, hi, hd] using hw
      · rintro f a0 y Q' ⟨rfl, hw⟩ hi hd hQ
        replace hQ := Lib.hid hQ
        simp [Iv.depsB, Region.binds] at hd
        try simp only [hi, hd, sl_true, sl_false]
        try simp only [hi, sl_true, sl_false]
        go_wp2_with fail
        refine (HP.out _ (Clk.rows HON.out (hw.1.old.knows.at 1 rfl) (hw.1.old.knows.at 2 rfl))).mono ?_
        rintro e y1 ⟨rfl, hb⟩
        go_wp2_with fail
        refine hQ.out _ _ ⟨?_, ?_⟩
        · simp [Iv.upd, hi, hd, sl_true, sl_false]
        · simpa [Iv.upd, hi, hd] using hw
      · rintro f a0 y Q' ⟨rfl, hw⟩ hi hd hQ
        replace hQ := Lib.hid hQ
        simp [Iv.depsB, Region.binds] at hd
        try simp only [hi, hd, sl_true, sl_false]
        try simp only [hi, sl_true, sl_false]
        go_wp2_with fail
        refine hQ.out _ _ ⟨?_, ?_⟩
        · simp [Iv.upd, hi, hd, sl_true, sl_false]
        · simpa [Iv.upd, hi, hd] using hw
      · rintro f a0 y Q' ⟨rfl, hw⟩ hi hd hQ
        replace hQ := Lib.hid hQ
        simp [Iv.depsB, Region.binds] at hd
        try simp only [hi, hd, sl_true, sl_false]
        try simp only [hi, sl_true, sl_false]
        go_wp2_with fail
        refine hQ.out _ _ ⟨?_, ?_⟩
        · simp [Iv.upd, hi, hd, sl_true, sl_false]
        · simpa [Iv.upd, hi, hd] using hw
      · rintro f a0 y Q' ⟨rfl, hw⟩ hi hd hQ
        replace hQ := Lib.hid hQ
        simp [Iv.depsB, Region.binds] at hd
        try simp only [hi, hd, sl_true, sl_false]
        try simp only [hi, sl_true, sl_false]
        go_wp2_with fail
        refine hQ.out _ _ ⟨?_, ?_⟩
        · simp [Iv.upd, hi, hd, sl_true, sl_false]
        · simpa [Iv.upd, hi, hd] using hw
      · rintro f a0 y Q' ⟨rfl, hw⟩ hi hd hQ
        replace hQ := Lib.hid hQ
        simp [Iv.depsB, Region.binds] at hd
        try simp only [hi, hd, sl_true, sl_false]
        try simp only [hi, sl_true, sl_false]
        obtain ⟨q0, q1, q2, q3⟩ := (hw.1.old.knows.at 1 rfl).four
        go_wp2_with fail
        refine hQ.out _ _ ⟨?_, ?_⟩
        · simp [Iv.upd, hi, hd, sl_true, sl_false]
        · simpa [Iv.upd, hi, hd] using hw
      · rintro f a0 y Q' ⟨rfl, hw⟩ hi hd hQ
        replace hQ := Lib.hid hQ
        simp [Iv.depsB, Region.binds] at hd
        try simp only [hi, hd, sl_true, sl_false]
        try simp only [hi, sl_true, sl_false]
        go_wp2_with fail
        refine (HD.out _).mono ?_
        rintro e y1 ⟨rfl, hb⟩
        go_wp2_with fail
        refine hQ.out _ _ ⟨?_, ?_⟩
        · simp [Iv.upd, hi, hd, sl_true, sl_false]
        · simpa [Iv.upd, hi, hd] using (show _ ∧ _ from ⟨hw.1.call hb, hw.2⟩)
      · rintro f a0 y Q' ⟨rfl, hw⟩ hi hd hQ
        replace hQ := Lib.hid hQ
        simp [Iv.depsB, Region.binds] at hd
        try simp only [hi, hd, sl_true, sl_false]
        try simp only [hi, sl_true, sl_false]
        go_wp2_with fail
        refine hQ.out _ _ ⟨?_, ?_⟩
        · simp [Iv.upd, hi, hd, sl_true, sl_false]
        · simpa [Iv.upd, hi, hd] using hw
      · rintro f a0 y Q' ⟨rfl, hw⟩ hi hd hQ
        replace hQ := Lib.hid hQ
        simp [Iv.depsB, Region.binds] at hd
        try simp only [hi, hd, sl_true, sl_false]
        try simp only [hi, sl_true, sl_false]
        go_wp2_with fail
        refine hQ.out _ _ ⟨?_, ?_⟩
        · simp [Iv.upd, hi, hd, sl_true, sl_false]
        · simpa [Iv.upd, hi, hd] using hw
      · rintro f a0 y Q' ⟨rfl, hw⟩ hi hd hQ
        replace hQ := Lib.hid hQ
        simp [Iv.depsB, Region.binds] at hd
        try simp only [hi, hd, sl_true, sl_false]
        try simp only [hi, sl_true, sl_false]
        go_wp2_with fail
        refine hQ.out _ _ ⟨?_, ?_⟩
        · simp [Iv.upd, hi, hd, sl_true, sl_false]
        · simpa [Iv.upd, hi, hd] using hw
      · rintro f a0 y Q' ⟨rfl, hw⟩ hi hd hQ
        replace hQ := Lib.hid hQ
        simp [Iv.depsB, Region.binds] at hd
        try simp only [hi, hd, sl_true, sl_false]
        try simp only [hi, sl_true, sl_false]
        have hw2 := hw.1
        rw [hi] at hw2
        have hwk := hw2.is
        obtain ⟨c0, c1, d0, d1, z0⟩ := (show Knows _ [_] from fun r hr => by rw [List.mem_singleton.1 hr]; exact hwk).two 0 p rfl
        clear hwk
        go_wp2_with fail
        refine hQ.out _ _ ⟨?_, ?_⟩
        · simp [Iv.upd, hi, hd, sl_true, sl_false]
        · simpa [Iv.upd, hd] using hw2.stored2
    · rintro f a0 w2 ⟨rfl, hw⟩ hall
      simp only [hall 0 (by decide), hall 1 (by decide), hall 2 (by decide), hall 3 (by decide), hall 4 (by decide), hall 5 (by decide), hall 6 (by decide), hall 7 (by decide), hall 8 (by decide), hall 9 (by decide), hall 10 (by decide), hall 11 (by decide), hall 12 (by decide), sl_true] at hw ⊢
      clear hall
      have H2 := Lib.hid (show St w w2 ((p, 28, #[.int .i64 L', .int .i64 M']) :: [(w.heap.size, 28, #[.int .i64 0, .int .i64 0]), (g, 68, #[.pointer (some ⟨b, 0, none⟩), .float .f64 c.rate, .int .i64 c.last, .int .i64 c.floor]), (b, 70, #[.int .i64 c.r, .int .i64 c.t, .int .i64 c.e])]) from hw.1.st)
      clear hw
      obtain ⟨c0, e0, d0, f0, z0⟩ := H2.out.two 0 p rfl
      obtain ⟨c1, e1, d1, f1, z1⟩ := H2.out.two 1 w.heap.size rfl
      go_wp2_with fail
      refine bodyPost_ret (by simp [results, Try.results32, go_sem, c0, e0, d0, f0, z0, c1, e1, d1, f1, z1]; try rfl) rfl ?_
      refine ⟨rfl, ?_⟩
      have hb := H2.out.below
      go_grown

end Go.Proofs.Ytjpalcolhagpcaa
