/- Layer 13: the chapter's example, as the laws ask it. -/
import Derived.Test.YtcjefigcaifmeaaLokO
namespace Go.Proofs.Ytcjefigcaifmeaa
open Go.ChangeShapes Go.WideShapes Go.ChangeAt Go.RowKit Go.Lk
set_option linter.unusedVariables false
set_option linter.unusedSimpArgs false
set_option maxRecDepth 100000

theorem w64n (n : Int) (h : 0 ≤ n ∧ n ≤ 8192) : W64 n := by unfold W64; omega
set_option maxHeartbeats 16000000 in
theorem awake_any (w : World) : Calls Try.prog 5 #[] w fun e w' => e = .returned (.bool true) ∧ Below w.heap.size w w' := by
  have FA1 := Lib.hid aw1
  have FA2 := Lib.hid aw2
  have FA3 := Lib.hid aw3
  have FA4 := Lib.hid aw4
  have FA5 := Lib.hid aw5
  have FA6 := Lib.hid aw6
  have HD2 : Hid (S3.dead 2 = true) := Lib.hid (by rw [FA3.out.2.2.2.1]; rfl)
  have HS7 : Hid (supp (S3.h 7) = [1, 3]) := Lib.hid (by rw [FA3.out.2.2.1.h7]; exact supp_o13)
  go_enter Try.func5, Try.ntmps5
  go_wp2_with fail
  refine (knew _).mono ?_
  rintro e w1 ⟨rfl, -, k1⟩
  have H := Lib.hid k1
  clear k1
  generalize w.heap.size + 1 + 1 = g at *
  have HC := Lib.hid (kask 2 7 true (w64n _ (by omega)) (w64n _ (by omega)) H.out (by omega))
  rw [FA1.out.1, FA1.out.2.1, show askS newT 2 true 7 = S1 from rfl] at HC
  clear H
  go_wp2_with fail
  refine HC.out.mono ?_
  rintro e w2 ⟨A2, c2, B2, d2, rfl, hp, -, ho2, -⟩
  have H := Lib.hid (hp.alloc w2.heap.size rfl 34 #[.bool true, .slice A2 0 c2, .slice B2 0 d2])
  clear hp HC
  clear ho2
  have HC := Lib.hid (kask 3 7 false (w64n _ (by omega)) (w64n _ (by omega)) H.out (by omega))
  rw [FA2.out.1, FA2.out.2.1, show askS S1 3 false 7 = S2 from rfl] at HC
  clear H
  go_wp2_with fail
  refine HC.out.mono ?_
  rintro e w3 ⟨A3, c3, B3, d3, rfl, hp, -, ho3, -⟩
  have H := Lib.hid (hp.alloc w3.heap.size rfl 34 #[.bool false, .slice A3 0 c3, .slice B3 0 d3])
  clear hp HC
  clear ho3
  have HC := Lib.hid (kask 1 7 false (w64n _ (by omega)) (w64n _ (by omega)) H.out (by omega))
  rw [FA3.out.1, FA3.out.2.1, show askS S2 1 false 7 = S3 from rfl] at HC
  clear H
  go_wp2_with fail
  refine HC.out.mono ?_
  rintro e w4 ⟨A4, c4, B4, d4, rfl, hp, -, ho4, -⟩
  have H := Lib.hid (hp.alloc w4.heap.size rfl 34 #[.bool true, .slice A4 1 c4, .slice B4 1 d4])
  clear hp HC
  clear ho4
  have HC := Lib.hid (kdead 2 (w64n _ (by omega)) H.out)
  rw [HD2.out] at HC
  go_wp2_with fail
  refine HC.out.mono ?_
  rintro e w5 ⟨rfl, rfl⟩
  clear HC HD2
  have HC := Lib.hid (kholds 7 (w64n _ (by omega)) H.out (by omega))
  rw [HS7.out] at HC
  go_wp2_with fail
  refine HC.out.mono ?_
  rintro e w6 ⟨A6, c6, rfl, hb, -⟩
  replace H := Lib.hid (H.out.call hb)
  clear hb HC HS7
  have HC := Lib.hid (kend 2 (w64n _ (by omega)) H.out (by omega))
  rw [FA4.out.1, show endS S3 2 = S4 from rfl, show (if (2 : Int) < 1 then (130 : Int) else 0) = 0 from rfl] at HC
  clear H
  go_wp2_with fail
  refine HC.out.mono ?_
  rintro e w7 ⟨A7, c7, rfl, hp, -, -⟩
  have H := Lib.hid hp
  clear hp HC
  have HC := Lib.hid (kask 2 7 true (w64n _ (by omega)) (w64n _ (by omega)) H.out (by omega))
  rw [FA5.out.1, FA5.out.2.1, show askS S4 2 true 7 = S5 from rfl] at HC
  clear H
  go_wp2_with fail
  refine HC.out.mono ?_
  rintro e w8 ⟨A8, c8, B8, d8, rfl, hp, -, ho8, -⟩
  have H := Lib.hid (hp.alloc w8.heap.size rfl 34 #[.bool false, .slice A8 1 c8, .slice B8 0 d8])
  clear hp HC
  clear ho8
  have HC := Lib.hid (kend 1 (w64n _ (by omega)) H.out (by omega))
  rw [FA6.out.1, show endS S5 1 = S6 from rfl, show (if (1 : Int) < 1 then (130 : Int) else 0) = 0 from rfl] at HC
  clear H
  go_wp2_with fail
  refine HC.out.mono ?_
  rintro e w9 ⟨A9, c9, rfl, hp, -, ho9⟩
  have H := Lib.hid hp
  clear hp HC
  have HV := Sees.own ho9
  obtain ⟨b0, off, hA, hb, hcc⟩ := HV.item encG_len (by omega) 0 (2, 7) rfl
  subst hA
  have q0 := hcc 0 _ rfl
  have q1 := hcc 1 _ rfl
  rw [Nat.add_zero] at q0
  have t3 := H.out.st.knows.at 0 rfl
  have t2 := H.out.st.knows.at 1 rfl
  have t1 := H.out.st.knows.at 2 rfl
  have t0 := H.out.st.knows.at 3 rfl
  have r00 := t0.cell 0
  have r01 := t0.cell 1
  have r02 := t0.cell 2
  have rl0 := t0.lt
  have r10 := t1.cell 0
  have r11 := t1.cell 1
  have r12 := t1.cell 2
  have rl1 := t1.lt
  have r20 := t2.cell 0
  have r21 := t2.cell 1
  have r22 := t2.cell 2
  have rl2 := t2.lt
  have r30 := t3.cell 0
  have r31 := t3.cell 1
  have r32 := t3.cell 2
  have rl3 := t3.lt
  clear t0 t1 t2 t3 hcc HV ho9
  have HC := Lib.hid (kwaits 7 (w64n _ (by omega)) H.out (by omega))
  rw [FA6.out.2.2] at HC
  go_wp2_with fail
  refine HC.out.mono ?_
  rintro e w10 ⟨A10, c10, rfl, hb10, -⟩
  have HB := Lib.hid ((H.out.call hb10).st.below)
  clear hb10 HC H
  go_wp2_with fail
  go_ret
  exact ⟨rfl, HB.out⟩
end Go.Proofs.Ytcjefigcaifmeaa
