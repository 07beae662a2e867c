/- Calls of unlike accounts may change places; for every input, without conditions (of more calls the first 40 are made). -/
import Derived.Test.YtmemfbdikinegaaLedQ
namespace Go.Proofs.Ytmemfbdikinegaa.ledgerTurns
open Go.ChangeShapes Go.WideShapes Go.ChangeAt Go.RowKit Go.Lk Go.Ld Go.Am
set_option linter.unusedVariables false
set_option linter.unusedSimpArgs false

theorem tq_fin {w y : World} {p q : Op14} {p9 p10 : Nat} (h : Tq w y p q p9 p10 true true true true) : Whole y p9 35 (opC p) ∧ Whole y p10 35 (opC q) := ⟨(h.m9 rfl).1, (h.m10 rfl).1⟩
theorem whole_ops {y : World} {b : Nat} {o : Op14} (h : Whole y b 35 (opC o)) : y.cell? ⟨b, 0, none⟩ = some (.int .i64 o.k) ∧ y.cell? ⟨b, 1, none⟩ = some (.int .i64 o.a) ∧ y.cell? ⟨b, 2, none⟩ = some (.int .i64 o.b) ∧ y.cell? ⟨b, 3, none⟩ = some (.int .i64 o.n) ∧ b < y.heap.size :=
  ⟨h.cell 0, h.cell 1, h.cell 2, h.cell 3, h.lt⟩
set_option maxHeartbeats 16000000 in
set_option maxRecDepth 100000 in
theorem walk (x : Nat) (hx : x < 18446744073709551616) (A : Option Addr) (len cap : Nat) (l : List Op14) (p q : Op14) (hpq : GO p ∧ GO q) (w : World) (hL : IsR w A len cap 4 encO GO l) :
    Calls Try.prog 5 #[.float .f64 x, .slice A len cap, agg2 p q] w fun r w' => r = .returned (.bool true) ∧ Below w.heap.size w w' := by
  obtain ⟨hlen, hs, hc1, hc2, hnil, hg⟩ := hL
  subst hlen
  obtain ⟨hgp, hgq⟩ := hpq
  have H0 := Lib.hid ((Lp.start w).alloc w.heap.size rfl 45 #[.int .i64 p.k, .int .i64 p.a, .int .i64 p.b, .int .i64 p.n, .int .i64 q.k, .int .i64 q.a, .int .i64 q.b, .int .i64 q.n])
  have HX := Lib.hid hx
  have HGP := Lib.hid hgp
  have HGQ := Lib.hid hgq
  have HM := Lib.hid (made_any x hx A cap l _ ((hs.below H0.out.st.below).more H0.out.st.below.size) hc1 hc2 hg)
  clear hs hg hnil hx hgp hgq
  go_enter Try.func5, Try.ntmps5
  go_wp2_with fail
  refine HM.out.mono ?_
  rintro e w1 ⟨hb1, h | ⟨g, mb, hr, rfl, hk, h1, h2⟩⟩
  · obtain ⟨-, rfl⟩ := h
    have HPR := Lib.hid (H0.out.call hb1)
    clear hb1 HM H0
    go_wp2_with fail
    refine Iv.region (fun f aa y => ∃ p9 p10, aa = ⟨#[.float .f64 x, .slice A l.length cap, agg2 p q, undef, undef, .pointer (some ⟨w.heap.size, 0, none⟩), .bool false, .pointer none, .int .i64 0, sl (f 4) (ptr p9), sl (f 5) (ptr p10), undef, undef, undef, undef, undef, undef, undef, undef, undef, .tuple #[.pointer none, .int .i64 0], .float .f64 x, .slice A l.length cap, .tuple #[.pointer none, .int .i64 0], .pointer none, .int .i64 0, sl (f 0) (.pointer (some ⟨w.heap.size, 0, none⟩)), sl (f 1) (aggO p), sl (f 2) (.pointer (some ⟨w.heap.size, 4, none⟩)), sl (f 3) (aggO q), undef, undef, undef, undef, undef, undef, undef, undef, undef, undef, undef, undef, undef, undef, undef, undef, undef, undef, undef, undef, undef, undef, undef, undef, undef, undef, undef, undef, undef, undef, undef, undef, undef, undef, undef, undef, undef, undef, undef, undef, undef, undef, undef, undef, undef, undef, undef, undef, undef, undef, undef, undef, undef, undef, undef, undef, undef, undef, undef, undef, undef, undef, undef, undef, undef, undef, undef, undef, undef, undef, undef, undef, undef, undef, undef, undef, undef, undef, undef, undef, undef, undef, undef, undef], []⟩ ∧ Tq w1 y p q p9 p10 (f 4) (f 5) (f 6) (f 7)) (by kernel_rfl) (by kernel_rfl) ?_ ?_ ?_
    · exact ⟨0, 0, rfl, Tq.start w1 p q⟩
    · refine ⟨?_, ?_, ?_, ?_, ?_, ?_, ?_, ?_, trivial⟩
      · rintro f a0 y Q' ⟨p9, p10, rfl, hw⟩ hi hd hQ
        replace hQ := Lib.hid hQ
        simp [Iv.depsB, Region.binds] at hd
        try simp only [hi, hd, sl_true, sl_false]
        try simp only [hi, sl_true, sl_false]
        have kk := (HPR.out.call hw.bel).st.knows.at 0 rfl
        have k0 := kk.cell 0
        have k1 := kk.cell 1
        have k2 := kk.cell 2
        have k3 := kk.cell 3
        have k4 := kk.cell 4
        have k5 := kk.cell 5
        have k6 := kk.cell 6
        have k7 := kk.cell 7
        have kz := kk.lt
        clear kk
        simp only [List.getElem?_toArray, List.getElem?_cons_zero, List.getElem?_cons_succ] at k0 k1 k2 k3 k4 k5 k6 k7
        go_wp2_with fail
        refine hQ.out _ _ ⟨p9, p10, ?_, ?_⟩
        · simp [Iv.upd, hi, hd, sl_true, sl_false]
        · simpa [Iv.upd, hi, hd] using hw
      · rintro f a0 y Q' ⟨p9, p10, rfl, hw⟩ hi hd hQ
        replace hQ := Lib.hid hQ
        simp [Iv.depsB, Region.binds] at hd
        try simp only [hi, hd, sl_true, sl_false]
        try simp only [hi, sl_true, sl_false]
        have kk := (HPR.out.call hw.bel).st.knows.at 0 rfl
        have k0 := kk.cell 0
        have k1 := kk.cell 1
        have k2 := kk.cell 2
        have k3 := kk.cell 3
        have k4 := kk.cell 4
        have k5 := kk.cell 5
        have k6 := kk.cell 6
        have k7 := kk.cell 7
        have kz := kk.lt
        clear kk
        simp only [List.getElem?_toArray, List.getElem?_cons_zero, List.getElem?_cons_succ] at k0 k1 k2 k3 k4 k5 k6 k7
        go_wp2_with fail
        refine hQ.out _ _ ⟨p9, p10, ?_, ?_⟩
        · simp [Iv.upd, hi, hd, sl_true, sl_false]
        · simpa [Iv.upd, hi, hd] using hw
      · rintro f a0 y Q' ⟨p9, p10, rfl, hw⟩ hi hd hQ
        replace hQ := Lib.hid hQ
        simp [Iv.depsB, Region.binds] at hd
        try simp only [hi, hd, sl_true, sl_false]
        try simp only [hi, sl_true, sl_false]
        have kk := (HPR.out.call hw.bel).st.knows.at 0 rfl
        have k0 := kk.cell 0
        have k1 := kk.cell 1
        have k2 := kk.cell 2
        have k3 := kk.cell 3
        have k4 := kk.cell 4
        have k5 := kk.cell 5
        have k6 := kk.cell 6
        have k7 := kk.cell 7
        have kz := kk.lt
        clear kk
        simp only [List.getElem?_toArray, List.getElem?_cons_zero, List.getElem?_cons_succ] at k0 k1 k2 k3 k4 k5 k6 k7
        go_wp2_with fail
        refine hQ.out _ _ ⟨p9, p10, ?_, ?_⟩
        · simp [Iv.upd, hi, hd, sl_true, sl_false]
        · simpa [Iv.upd, hi, hd] using hw
      · rintro f a0 y Q' ⟨p9, p10, rfl, hw⟩ hi hd hQ
        replace hQ := Lib.hid hQ
        simp [Iv.depsB, Region.binds] at hd
        try simp only [hi, hd, sl_true, sl_false]
        try simp only [hi, sl_true, sl_false]
        have kk := (HPR.out.call hw.bel).st.knows.at 0 rfl
        have k0 := kk.cell 0
        have k1 := kk.cell 1
        have k2 := kk.cell 2
        have k3 := kk.cell 3
        have k4 := kk.cell 4
        have k5 := kk.cell 5
        have k6 := kk.cell 6
        have k7 := kk.cell 7
        have kz := kk.lt
        clear kk
        simp only [List.getElem?_toArray, List.getElem?_cons_zero, List.getElem?_cons_succ] at k0 k1 k2 k3 k4 k5 k6 k7
        go_wp2_with fail
        refine hQ.out _ _ ⟨p9, p10, ?_, ?_⟩
        · simp [Iv.upd, hi, hd, sl_true, sl_false]
        · simpa [Iv.upd, hi, hd] using hw
      · rintro f a0 y Q' ⟨p9, p10, rfl, hw⟩ hi hd hQ
        replace hQ := Lib.hid hQ
        simp [Iv.depsB, Region.binds] at hd
        try simp only [hi, hd, sl_true, sl_false]
        try simp only [hi, sl_true, sl_false]
        have e6 : f 6 = false := by
          cases e : f 6 with
          | false => rfl
          | true => have h7 := hw.o9 e; rw [hi] at h7; cases h7
        have HQW := Lib.hid hw
        rw [hi, e6] at HQW
        clear hw
        go_wp2_with fail
        have HN := Lib.hid HQW.out.make9
        refine hQ.out _ _ ⟨y.heap.size, p10, ?_, ?_⟩
        · simp [Iv.upd, hi, hd, sl_true, sl_false, e6]
        · simpa [Iv.upd, hi, hd, e6] using HN.out
      · rintro f a0 y Q' ⟨p9, p10, rfl, hw⟩ hi hd hQ
        replace hQ := Lib.hid hQ
        simp [Iv.depsB, Region.binds] at hd
        try simp only [hi, hd, sl_true, sl_false]
        try simp only [hi, sl_true, sl_false]
        have e7 : f 7 = false := by
          cases e : f 7 with
          | false => rfl
          | true => have h7 := hw.o10 e; rw [hi] at h7; cases h7
        have HQW := Lib.hid hw
        rw [hi, e7] at HQW
        clear hw
        go_wp2_with fail
        have HN := Lib.hid HQW.out.make10
        refine hQ.out _ _ ⟨p9, y.heap.size, ?_, ?_⟩
        · simp [Iv.upd, hi, hd, sl_true, sl_false, e7]
        · simpa [Iv.upd, hi, hd, e7] using HN.out
      · rintro f a0 y Q' ⟨p9, p10, rfl, hw⟩ hi hd hQ
        replace hQ := Lib.hid hQ
        simp [Iv.depsB, Region.binds] at hd
        try simp only [hi, hd, sl_true, sl_false]
        try simp only [hi, sl_true, sl_false]
        have e4 : f 4 = true := by simp [hd]
        have HQW := Lib.hid hw
        rw [hi, e4] at HQW
        obtain ⟨cz, cu, cf⟩ := HQW.out.cells9
        obtain ⟨u0, cu0⟩ := cu 0 (by omega)
        obtain ⟨u1, cu1⟩ := cu 1 (by omega)
        obtain ⟨u2, cu2⟩ := cu 2 (by omega)
        obtain ⟨u3, cu3⟩ := cu 3 (by omega)
        have cf0 := cf 0
        have cf1 := cf 1
        have cf2 := cf 2
        have cf3 := cf 3
        clear hw cu cf
        go_wp2_with fail
        have HN := Lib.hid HQW.out.tell9
        refine hQ.out _ _ ⟨p9, p10, ?_, ?_⟩
        · simp [Iv.upd, hi, hd, sl_true, sl_false, e4]
        · simpa [Iv.upd, hi, hd, e4] using HN.out
      · rintro f a0 y Q' ⟨p9, p10, rfl, hw⟩ hi hd hQ
        replace hQ := Lib.hid hQ
        simp [Iv.depsB, Region.binds] at hd
        try simp only [hi, hd, sl_true, sl_false]
        try simp only [hi, sl_true, sl_false]
        have e5 : f 5 = true := by simp [hd]
        have HQW := Lib.hid hw
        rw [hi, e5] at HQW
        obtain ⟨cz, cu, cf⟩ := HQW.out.cells10
        obtain ⟨u0, cu0⟩ := cu 0 (by omega)
        obtain ⟨u1, cu1⟩ := cu 1 (by omega)
        obtain ⟨u2, cu2⟩ := cu 2 (by omega)
        obtain ⟨u3, cu3⟩ := cu 3 (by omega)
        have cf0 := cf 0
        have cf1 := cf 1
        have cf2 := cf 2
        have cf3 := cf 3
        clear hw cu cf
        go_wp2_with fail
        have HN := Lib.hid HQW.out.tell10
        refine hQ.out _ _ ⟨p9, p10, ?_, ?_⟩
        · simp [Iv.upd, hi, hd, sl_true, sl_false, e5]
        · simpa [Iv.upd, hi, hd, e5] using HN.out
    · rintro f a0 w2 ⟨p9, p10, rfl, hw⟩ hall
      simp only [hall 0 (by decide), hall 1 (by decide), hall 2 (by decide), hall 3 (by decide), hall 4 (by decide), hall 5 (by decide), hall 6 (by decide), hall 7 (by decide), sl_true, ↓reduceIte] at hw ⊢
      clear hall
      have HP2 := Lib.hid (((HPR.out.call hw.bel).row (tq_fin hw).1).row (tq_fin hw).2)
      clear hw HPR
      go_wp2_with fail
      refine (awake_any _).mono ?_
      rintro e w3 ⟨rfl, hb⟩
      have HP3 := Lib.hid (HP2.out.call hb)
      clear hb HP2
      go_wp2_with fail
      refine (awake_any _).mono ?_
      rintro e w4 ⟨rfl, hb⟩
      have HP4 := Lib.hid (HP3.out.call hb)
      clear hb HP3
      go_wp2_with fail
      go_ret
      exact ⟨rfl, HP4.out.st.below⟩
  · have HPR := Lib.hid (H0.out.more hb1 hk h1 h2)
    have hok := mk_ok hr (l.take 40)
    have hll : (l.take 40).length ≤ 40 := by simp; omega
    clear hb1 hk h1 h2 HM H0
    generalize mk x (l.take 40) = bf at *
    obtain ⟨hF, htot, hg0, hg1⟩ := hok
    have HF := Lib.hid hF
    have hto : tot bf ≤ 40000000000000000 := by omega
    have HTO := Lib.hid hto
    have HRT := Lib.hid hr
    clear hg0 hg1 htot hll hr hF hto
    go_wp2_with fail
    refine Iv.region (fun f aa y => ∃ p9 p10, aa = ⟨#[.float .f64 x, .slice A l.length cap, agg2 p q, undef, undef, .pointer (some ⟨w.heap.size, 0, none⟩), .bool false, ptr g, .int .i64 (gv x (List.take 40 l)), sl (f 4) (ptr p9), sl (f 5) (ptr p10), undef, undef, undef, undef, undef, undef, undef, undef, undef, .tuple #[ptr g, .int .i64 (gv x (List.take 40 l))], .float .f64 x, .slice A l.length cap, .tuple #[ptr g, .int .i64 (gv x (List.take 40 l))], ptr g, .int .i64 (gv x (List.take 40 l)), sl (f 0) (.pointer (some ⟨w.heap.size, 0, none⟩)), sl (f 1) (aggO p), sl (f 2) (.pointer (some ⟨w.heap.size, 4, none⟩)), sl (f 3) (aggO q), undef, undef, undef, undef, undef, undef, undef, undef, undef, undef, undef, undef, undef, undef, undef, undef, undef, undef, undef, undef, undef, undef, undef, undef, undef, undef, undef, undef, undef, undef, undef, undef, undef, undef, undef, undef, undef, undef, undef, undef, undef, undef, undef, undef, undef, undef, undef, undef, undef, undef, undef, undef, undef, undef, undef, undef, undef, undef, undef, undef, undef, undef, undef, undef, undef, undef, undef, undef, undef, undef, undef, undef, undef, undef, undef, undef, undef, undef, undef, undef, undef, undef, undef, undef], []⟩ ∧ Tq w1 y p q p9 p10 (f 4) (f 5) (f 6) (f 7)) (by kernel_rfl) (by kernel_rfl) ?_ ?_ ?_
    · exact ⟨0, 0, rfl, Tq.start w1 p q⟩
    · refine ⟨?_, ?_, ?_, ?_, ?_, ?_, ?_, ?_, trivial⟩
      · rintro f a0 y Q' ⟨p9, p10, rfl, hw⟩ hi hd hQ
        replace hQ := Lib.hid hQ
        simp [Iv.depsB, Region.binds] at hd
        try simp only [hi, hd, sl_true, sl_false]
        try simp only [hi, sl_true, sl_false]
        have kk := (HPR.out.call hw.bel).st.knows.at 1 rfl
        have k0 := kk.cell 0
        have k1 := kk.cell 1
        have k2 := kk.cell 2
        have k3 := kk.cell 3
        have k4 := kk.cell 4
        have k5 := kk.cell 5
        have k6 := kk.cell 6
        have k7 := kk.cell 7
        have kz := kk.lt
        clear kk
        simp only [List.getElem?_toArray, List.getElem?_cons_zero, List.getElem?_cons_succ] at k0 k1 k2 k3 k4 k5 k6 k7
        go_wp2_with fail
        refine hQ.out _ _ ⟨p9, p10, ?_, ?_⟩
        · simp [Iv.upd, hi, hd, sl_true, sl_false]
        · simpa [Iv.upd, hi, hd] using hw
      · rintro f a0 y Q' ⟨p9, p10, rfl, hw⟩ hi hd hQ
        replace hQ := Lib.hid hQ
        simp [Iv.depsB, Region.binds] at hd
        try simp only [hi, hd, sl_true, sl_false]
        try simp only [hi, sl_true, sl_false]
        have kk := (HPR.out.call hw.bel).st.knows.at 1 rfl
        have k0 := kk.cell 0
        have k1 := kk.cell 1
        have k2 := kk.cell 2
        have k3 := kk.cell 3
        have k4 := kk.cell 4
        have k5 := kk.cell 5
        have k6 := kk.cell 6
        have k7 := kk.cell 7
        have kz := kk.lt
        clear kk
        simp only [List.getElem?_toArray, List.getElem?_cons_zero, List.getElem?_cons_succ] at k0 k1 k2 k3 k4 k5 k6 k7
        go_wp2_with fail
        refine hQ.out _ _ ⟨p9, p10, ?_, ?_⟩
        · simp [Iv.upd, hi, hd, sl_true, sl_false]
        · simpa [Iv.upd, hi, hd] using hw
      · rintro f a0 y Q' ⟨p9, p10, rfl, hw⟩ hi hd hQ
        replace hQ := Lib.hid hQ
        simp [Iv.depsB, Region.binds] at hd
        try simp only [hi, hd, sl_true, sl_false]
        try simp only [hi, sl_true, sl_false]
        have kk := (HPR.out.call hw.bel).st.knows.at 1 rfl
        have k0 := kk.cell 0
        have k1 := kk.cell 1
        have k2 := kk.cell 2
        have k3 := kk.cell 3
        have k4 := kk.cell 4
        have k5 := kk.cell 5
        have k6 := kk.cell 6
        have k7 := kk.cell 7
        have kz := kk.lt
        clear kk
        simp only [List.getElem?_toArray, List.getElem?_cons_zero, List.getElem?_cons_succ] at k0 k1 k2 k3 k4 k5 k6 k7
        go_wp2_with fail
        refine hQ.out _ _ ⟨p9, p10, ?_, ?_⟩
        · simp [Iv.upd, hi, hd, sl_true, sl_false]
        · simpa [Iv.upd, hi, hd] using hw
      · rintro f a0 y Q' ⟨p9, p10, rfl, hw⟩ hi hd hQ
        replace hQ := Lib.hid hQ
        simp [Iv.depsB, Region.binds] at hd
        try simp only [hi, hd, sl_true, sl_false]
        try simp only [hi, sl_true, sl_false]
        have kk := (HPR.out.call hw.bel).st.knows.at 1 rfl
        have k0 := kk.cell 0
        have k1 := kk.cell 1
        have k2 := kk.cell 2
        have k3 := kk.cell 3
        have k4 := kk.cell 4
        have k5 := kk.cell 5
        have k6 := kk.cell 6
        have k7 := kk.cell 7
        have kz := kk.lt
        clear kk
        simp only [List.getElem?_toArray, List.getElem?_cons_zero, List.getElem?_cons_succ] at k0 k1 k2 k3 k4 k5 k6 k7
        go_wp2_with fail
        refine hQ.out _ _ ⟨p9, p10, ?_, ?_⟩
        · simp [Iv.upd, hi, hd, sl_true, sl_false]
        · simpa [Iv.upd, hi, hd] using hw
      · rintro f a0 y Q' ⟨p9, p10, rfl, hw⟩ hi hd hQ
        replace hQ := Lib.hid hQ
        simp [Iv.depsB, Region.binds] at hd
        try simp only [hi, hd, sl_true, sl_false]
        try simp only [hi, sl_true, sl_false]
        have e6 : f 6 = false := by
          cases e : f 6 with
          | false => rfl
          | true => have h7 := hw.o9 e; rw [hi] at h7; cases h7
        have HQW := Lib.hid hw
        rw [hi, e6] at HQW
        clear hw
        go_wp2_with fail
        have HN := Lib.hid HQW.out.make9
        refine hQ.out _ _ ⟨y.heap.size, p10, ?_, ?_⟩
        · simp [Iv.upd, hi, hd, sl_true, sl_false, e6]
        · simpa [Iv.upd, hi, hd, e6] using HN.out
      · rintro f a0 y Q' ⟨p9, p10, rfl, hw⟩ hi hd hQ
        replace hQ := Lib.hid hQ
        simp [Iv.depsB, Region.binds] at hd
        try simp only [hi, hd, sl_true, sl_false]
        try simp only [hi, sl_true, sl_false]
        have e7 : f 7 = false := by
          cases e : f 7 with
          | false => rfl
          | true => have h7 := hw.o10 e; rw [hi] at h7; cases h7
        have HQW := Lib.hid hw
        rw [hi, e7] at HQW
        clear hw
        go_wp2_with fail
        have HN := Lib.hid HQW.out.make10
        refine hQ.out _ _ ⟨p9, y.heap.size, ?_, ?_⟩
        · simp [Iv.upd, hi, hd, sl_true, sl_false, e7]
        · simpa [Iv.upd, hi, hd, e7] using HN.out
      · rintro f a0 y Q' ⟨p9, p10, rfl, hw⟩ hi hd hQ
        replace hQ := Lib.hid hQ
        simp [Iv.depsB, Region.binds] at hd
        try simp only [hi, hd, sl_true, sl_false]
        try simp only [hi, sl_true, sl_false]
        have e4 : f 4 = true := by simp [hd]
        have HQW := Lib.hid hw
        rw [hi, e4] at HQW
        obtain ⟨cz, cu, cf⟩ := HQW.out.cells9
        obtain ⟨u0, cu0⟩ := cu 0 (by omega)
        obtain ⟨u1, cu1⟩ := cu 1 (by omega)
        obtain ⟨u2, cu2⟩ := cu 2 (by omega)
        obtain ⟨u3, cu3⟩ := cu 3 (by omega)
        have cf0 := cf 0
        have cf1 := cf 1
        have cf2 := cf 2
        have cf3 := cf 3
        clear hw cu cf
        go_wp2_with fail
        have HN := Lib.hid HQW.out.tell9
        refine hQ.out _ _ ⟨p9, p10, ?_, ?_⟩
        · simp [Iv.upd, hi, hd, sl_true, sl_false, e4]
        · simpa [Iv.upd, hi, hd, e4] using HN.out
      · rintro f a0 y Q' ⟨p9, p10, rfl, hw⟩ hi hd hQ
        replace hQ := Lib.hid hQ
        simp [Iv.depsB, Region.binds] at hd
        try simp only [hi, hd, sl_true, sl_false]
        try simp only [hi, sl_true, sl_false]
        have e5 : f 5 = true := by simp [hd]
        have HQW := Lib.hid hw
        rw [hi, e5] at HQW
        obtain ⟨cz, cu, cf⟩ := HQW.out.cells10
        obtain ⟨u0, cu0⟩ := cu 0 (by omega)
        obtain ⟨u1, cu1⟩ := cu 1 (by omega)
        obtain ⟨u2, cu2⟩ := cu 2 (by omega)
        obtain ⟨u3, cu3⟩ := cu 3 (by omega)
        have cf0 := cf 0
        have cf1 := cf 1
        have cf2 := cf 2
        have cf3 := cf 3
        clear hw cu cf
        go_wp2_with fail
        have HN := Lib.hid HQW.out.tell10
        refine hQ.out _ _ ⟨p9, p10, ?_, ?_⟩
        · simp [Iv.upd, hi, hd, sl_true, sl_false, e5]
        · simpa [Iv.upd, hi, hd, e5] using HN.out
    · rintro f a0 w2 ⟨p9, p10, rfl, hw⟩ hall
      simp only [hall 0 (by decide), hall 1 (by decide), hall 2 (by decide), hall 3 (by decide), hall 4 (by decide), hall 5 (by decide), hall 6 (by decide), hall 7 (by decide), sl_true, ↓reduceIte] at hw ⊢
      clear hall
      have HP2 := Lib.hid (((HPR.out.call hw.bel).row (tq_fin hw).1).row (tq_fin hw).2)
      clear hw HPR
      go_wp2_with fail
      refine (awake_any _).mono ?_
      rintro e w3 ⟨rfl, hb⟩
      have HP3 := Lib.hid (HP2.out.call hb)
      clear hb HP2
      obtain ⟨c0, c1, c2, c3, cz⟩ := whole_ops (HP3.out.st.knows.at 1 rfl)
      obtain ⟨d0, d1, d2, d3, dz⟩ := whole_ops (HP3.out.st.knows.at 0 rfl)
      by_cases t0 : p.a = q.a
      · have s0 : (p.a == q.a) = true := by simpa using t0
        go_wp2_with fail
        go_ret
        exact ⟨rfl, HP3.out.st.below⟩
      · have s0 : (p.a == q.a) = false := by simpa using t0
        by_cases t1 : p.a = q.b
        · have s1 : (p.a == q.b) = true := by simpa using t1
          go_wp2_with fail
          go_ret
          exact ⟨rfl, HP3.out.st.below⟩
        · have s1 : (p.a == q.b) = false := by simpa using t1
          by_cases t2 : p.b = q.a
          · have s2 : (p.b == q.a) = true := by simpa using t2
            go_wp2_with fail
            go_ret
            exact ⟨rfl, HP3.out.st.below⟩
          · have s2 : (p.b == q.a) = false := by simpa using t2
            by_cases t3 : p.b = q.b
            · have s3 : (p.b == q.b) = true := by simpa using t3
              go_wp2_with fail
              go_ret
              exact ⟨rfl, HP3.out.st.below⟩
            · have s3 : (p.b == q.b) = false := by simpa using t3
              obtain ⟨⟨r1, r2⟩, ⟨r3, r4⟩, r5⟩ := do_turns (x := x) (f := bf) t0 t1 t2 t3
              have HT := Lib.hid (show _ ∧ _ ∧ _ ∧ _ ∧ _ from ⟨r1, r2, r3, r4, r5⟩)
              have HF1 := Lib.hid (does_ok HRT.out HF.out p HTO.out)
              have HG1 := Lib.hid (does_ok HRT.out HF.out q HTO.out)
              have HF2 := Lib.hid (does_ok HRT.out HF1.out.1 q HF1.out.2)
              clear r1 r2 r3 r4 r5 t0 t1 t2 t3
              have HC := Lib.hid (copy_any (HP3.out.bk (List.mem_cons_of_mem _ (List.mem_cons_of_mem _ (List.mem_cons_self ..))) (List.mem_cons_self ..)) HF.out)
              go_wp2_with fail
              refine HC.out.mono ?_
              rintro e w4 ⟨g2, m2, rfl, hb, hk, h1, h2⟩
              have HP4 := Lib.hid (HP3.out.more hb hk h1 h2)
              clear hb hk h1 h2 HC HP3 c0 c1 c2 c3 cz d0 d1 d2 d3 dz
              generalize hf1 : doF x bf p = f1 at *
              generalize hg1 : doF x bf q = g1 at *
              generalize hf2 : doF x f1 q = f2 at *
              have HE := Lib.hid (show _ ∧ _ ∧ _ from ⟨hf1, hg1, hf2⟩)
              clear hf1 hg1 hf2
              obtain ⟨c0, c1, c2, c3, cz⟩ := whole_ops (HP4.out.st.knows.at 2 rfl)
              have HC := Lib.hid (does_any p HGP.out (HP4.out.bk (List.mem_cons_of_mem _ (List.mem_cons_of_mem _ (List.mem_cons_of_mem _ (List.mem_cons_self ..)))) (List.mem_cons_of_mem _ (List.mem_cons_self ..))) HF.out HX.out HRT.out (Int.le_trans HTO.out (by omega)))
              rw [HE.out.1] at HC
              go_wp2_with fail
              refine HC.out.mono ?_
              rintro e w5 ⟨rfl, ho, hk⟩
              have HP5 := Lib.hid (HP4.out.swap.put ho hk.mv)
              clear ho hk HC HP4 c0 c1 c2 c3 cz
              obtain ⟨c0, c1, c2, c3, cz⟩ := whole_ops (HP5.out.st.knows.at 1 rfl)
              have HC := Lib.hid (does_any q HGQ.out (HP5.out.bk (List.mem_cons_of_mem _ (List.mem_cons_of_mem _ (List.mem_cons_of_mem _ (List.mem_cons_self ..)))) (List.mem_cons_self ..)) HF1.out.1 HX.out HRT.out (Int.le_trans HF1.out.2 (by omega)))
              rw [HT.out.2.2.1, HT.out.2.2.2.1, HE.out.2.2] at HC
              go_wp2_with fail
              refine HC.out.mono ?_
              rintro e w6 ⟨rfl, ho, hk⟩
              have HP6 := Lib.hid (HP5.out.put ho hk.mv)
              clear ho hk HC HP5 c0 c1 c2 c3 cz
              obtain ⟨c0, c1, c2, c3, cz⟩ := whole_ops (HP6.out.st.knows.at 1 rfl)
              have HC := Lib.hid (does_any q HGQ.out (HP6.out.bk (List.mem_cons_self ..) (List.mem_cons_of_mem _ (List.mem_cons_self ..))) HF.out HX.out HRT.out (Int.le_trans HTO.out (by omega)))
              rw [HE.out.2.1] at HC
              go_wp2_with fail
              refine HC.out.mono ?_
              rintro e w7 ⟨rfl, ho, hk⟩
              have HP7 := Lib.hid (HP6.out.swap.put ho hk.mv)
              clear ho hk HC HP6 c0 c1 c2 c3 cz
              obtain ⟨c0, c1, c2, c3, cz⟩ := whole_ops (HP7.out.st.knows.at 2 rfl)
              have HC := Lib.hid (does_any p HGP.out (HP7.out.bk (List.mem_cons_self ..) (List.mem_cons_self ..)) HG1.out.1 HX.out HRT.out (Int.le_trans HG1.out.2 (by omega)))
              rw [HT.out.1, HT.out.2.1, ← HT.out.2.2.2.2] at HC
              go_wp2_with fail
              refine HC.out.mono ?_
              rintro e w8 ⟨rfl, ho, hk⟩
              have HP8 := Lib.hid (HP7.out.put ho hk.mv)
              clear ho hk HC HP7 c0 c1 c2 c3 cz
              have HFF := Lib.hid HF2.out.1
              have HSL := Lib.hid (supp_len HF2.out.1)
              generalize doV x bf p = V1 at *
              generalize doV x bf q = V2 at *
              generalize doE x bf p = E1 at *
              generalize doE x bf q = E2 at *
              have HC := Lib.hid (list_any (HP8.out.bk (List.mem_cons_of_mem _ (List.mem_cons_of_mem _ (List.mem_cons_of_mem _ (List.mem_cons_self ..)))) (List.mem_cons_of_mem _ (List.mem_cons_self ..))) HFF.out)
              go_wp2_with fail
              refine HC.out.mono ?_
              rintro e wa ⟨A1, c1, rfl, hb, ho⟩
              have HPA := Lib.hid (HP8.out.call hb)
              have HOA := Lib.hid ho
              clear hb ho HC
              have HC := Lib.hid (list_any (HPA.out.bk (List.mem_cons_self ..) (List.mem_cons_self ..)) HFF.out)
              go_wp2_with fail
              refine HC.out.mono ?_
              rintro e wb ⟨A2, c2, rfl, hb, ho⟩
              have HPB := Lib.hid (HPA.out.call hb)
              have HS := Lib.hid (rsame_any A1 c1 A2 c2 (val f2) (supp (ent f2)) wb (((Sees.own HOA.out).below hb).more hb.size) (Sees.own ho) (own_room HOA.out) (own_room ho) (by have := HSL.out; omega))
              clear hb ho HC HOA
              go_wp2_with fail
              refine HS.out.mono ?_
              rintro e wc ⟨rfl, hb⟩
              have HPC := Lib.hid (HPB.out.call hb)
              clear hb HS HPB HPA
              go_wp2_with fail
              go_ret
              exact ⟨rfl, HPC.out.st.below⟩

set_option maxRecDepth 100000 in
theorem lifted (os : Os) (started : os.Started) (H : Type) (enc : TypeId × Value → H) :
    ReturnsInHanded {} Try.checked os 5 .any (Rows.ledgerTurnsSpec.pre6 enc Try.prog Try.f5 Rows.ledgerTurnsRow.domain false) (Rows.ledgerTurnsSpec.post enc Try.prog Try.f5 false true false false) := by
  refine returnsInHanded_of_change (C := Try.checked) own started (by kernel_rfl) Try.func5
    (ChangeSpec.witness6 (enc := enc) (C := Try.checked) false ⟨#[], #[.float .f64 0, .slice none 0 0, .agg #[.int .i64 0, .int .i64 0, .int .i64 0, .int .i64 0, .int .i64 0, .int .i64 0, .int .i64 0, .int .i64 0]], []⟩ 8 (by kernel_rfl) (by kernel_rfl) (by kernel_rfl) (by kernel_rfl)) ?_
  intro W base args ds gs before hval0 hW hcnd _
  have hval : ∀ (j : Nat) t v, Try.f5.params[j]? = some t → args[j]? = some v → Value.okWide Try.prog W .any base t v := hval0
  have hW' := hW
  obtain ⟨p, q, hA0, hV, rfl, hfz, hnd⟩ := hW
  have hA : DataW.TrodAll enc Try.prog W 0 (fun _ => true) true Try.f5.params.toList args.toList ds p := hA0
  rw [Try.params5] at hA hval
  obtain ⟨v0, vs0, d0, ds0, p0, q0, hargs, rfl, rfl, h0, r0⟩ := trodAll_cons hA
  obtain ⟨v1, vs1, d1, ds1, p1, q1, rfl, rfl, rfl, h1, r1⟩ := trodAll_cons r0
  obtain ⟨v2, vs2, d2, ds2, p2, q2, rfl, rfl, rfl, h2, r2⟩ := trodAll_cons r1
  obtain ⟨rfl, rfl, rfl⟩ := trodAll_nil r2
  obtain rfl : args = #[v0, v1, v2] := by cases args; simp_all
  obtain ⟨rfl, rfl⟩ := trodVars_none hV
  obtain ⟨a0, rfl⟩ := okWide_float Try.underlying22 (hval 0 22 v0 rfl rfl)
  have w0 : a0 < 18446744073709551616 := by
    obtain ⟨m, hm⟩ := h0
    obtain ⟨s, hs, hl⟩ := float_of (k := .f64) Try.underlying22 hm
    simp [Value.cells] at hs
    rw [hs]; simpa [Lit.wf] using hl
  have lt0 : ∀ x ∈ p0, x.block < W.heap.size := by obtain ⟨m, hm⟩ := h0; exact DataW.trod_lt m _ _ _ hm
  obtain ⟨A1, len1, cap1, rfl⟩ := okWide_slice Try.underlying23 (hval 1 23 v1 rfl rfl)
  obtain ⟨l1, w1⟩ := open_ops h1
  have lt1 : ∀ x ∈ p1, x.block < W.heap.size := by obtain ⟨m, hm⟩ := h1; exact DataW.trod_lt m _ _ _ hm
  obtain ⟨oa2, ob2, rfl, w2⟩ := open_two (hval 2 45 v2 rfl rfl) h2
  have lt2 : ∀ x ∈ p2, x.block < W.heap.size := by obtain ⟨m, hm⟩ := h2; exact DataW.trod_lt m _ _ _ hm
  clear hA0 hval0
  simp only [List.append_nil] at hW'
  refine (walk a0 w0 A1 len1 cap1 l1 oa2 ob2 w2 W w1).mono fun e W' ⟨he, bel⟩ => ?_
  subst he
  exact ⟨_, rfl, _, _, _, [], _, [], hW', trodAll_mk1 (shut_bool Try.underlying4 _), (trodAll_cons_mk (Below.trod laidOut (by kernel_rfl) (of_decide_eq_true (by kernel_rfl)) h0 bel lt0) (trodAll_cons_mk (Below.trod laidOut (by kernel_rfl) (of_decide_eq_true (by kernel_rfl)) h1 bel lt1) (trodAll_cons_mk (Below.trod laidOut (by kernel_rfl) (of_decide_eq_true (by kernel_rfl)) h2 bel lt2) trodAll_mk0))), rfl, bel.frame _, fun h => by cases h⟩

theorem proved : Rows.LedgerTurnsSaid :=
  OpenClaim.holds_of_wide 5 Try.f5 rfl rfl rfl rfl rfl rfl rfl ⟨rfl, rfl, rfl, rfl, rfl⟩ rfl rfl rfl rfl rfl (by kernel_rfl) Try.func5 (by kernel_rfl)
    (of_decide_eq_true (by kernel_rfl)) (by unfold Func.isWrapper; first | (rw [if_pos (by decide +kernel)]; kernel_rfl) | (rw [if_neg (by decide +kernel)]; exact ⟨rfl, rfl⟩))
    (fun os started H enc _ => lifted os started H enc)
#print axioms proved
end Go.Proofs.Ytmemfbdikinegaa.ledgerTurns
