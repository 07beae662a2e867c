/- Vaults: contracts: put, Open. -/
import Derived.Test.YtckhddndeojobaaGreatVltX
namespace Go.Proofs.YtckhddndeojobaaGreat
open Go.RowKit Go.Cn Go.So Go.Vt
open Go.Lk (upd supp Fin1 upd_same upd_other)
set_option linter.unusedVariables false
set_option linter.unusedSimpArgs false
set_option maxRecDepth 100000
section
variable {w w1 w' : World} {g sg hb fb : Nat} {v v' : Vt} {Fs F : Nat → Prop}
theorem WentV.before (h : Below w.heap.size w w1) (hm : WentV F w1 w' g v) : WentV F w w' g v := by
  obtain ⟨ho, F', hF, hd⟩ := hm
  refine ⟨(Off.of h F).trans ho, F', fun b hf => ?_, hd⟩
  rcases hF b hf with h1 | h1
  · exact .inl h1
  · exact .inr (Nat.le_trans h.size h1)
theorem WentV.after (hm : WentV F w w1 g v) (h : Below w1.heap.size w1 w') : WentV F w w' g v := by
  obtain ⟨ho, F', hF, sg, hb, fb, Fs, x⟩ := hm
  exact ⟨ho.call h, F', hF, sg, hb, fb, Fs, x.call h⟩
/-- A row of entries that may be put. -/
structure Ev (w : World) (A : Option Addr) (cap : Nat) (l : List En) (F : Nat → Prop) : Prop where
  sees : Sees w w.heap.size 2 A l.length (flat encE l)
  room : l.length ≤ cap
  top : cap ≤ 9223372036854775807
  good : ∀ e ∈ l, W64 e.1
  far : 0 < l.length → ∀ a, A = some a → ¬ F a.block
theorem vput_any (t : Int) (A : Option Addr) (cap : Nat) (l : List En) (x : Vx w g sg hb fb v Fs F) (hr : Ev w A cap l F) :
    Calls Tryz.prog 27 #[ptr g, .int .i64 t, .slice A l.length cap] w fun e w' => e = .returned (.tuple #[]) ∧ WentV F w w' g (putV v t l) := by
  obtain ⟨c0, c1, c2, c3, c4, c5, cf, cz⟩ := x.cells
  have HX := Lib.hid x
  have HP := Lib.hid (sput_any t A cap l w x.sto hr.sees hr.room hr.top hr.good fun hn a ha hf => hr.far hn a ha ((x.foot _).2 (.inr (.inr (.inr hf)))))
  clear x hr
  go_enter Tryz.func27, Tryz.ntmps27
  go_wp2_with fail
  refine HP.out.mono ?_
  rintro e w1 ⟨rfl, hm⟩
  obtain ⟨Fs', F', x1, ho, hF⟩ := HX.out.went hm
  clear hm HP c0 c1 c2 c3 c4 c5 cf cz
  obtain ⟨c0, c1, c2, c3, c4, c5, cf, cz⟩ := x1.cells
  have HM : Hid (WentV F w (w1.setCell ⟨g, 5, none⟩ (.int .i64 (max v.top t))) g (putV v t l)) := Lib.hid ⟨ho.then hF (x1.offG 5 _), F', hF, sg, hb, fb, Fs', x1.setTop _⟩
  clear x1 ho hF HX
  dsimp only at *
  go_wp2_with fail
  go_end0
  exact ⟨rfl, HM.out⟩
theorem chk_bad {n : Int} (h : Am.isA n = false) : chkE n = 40 := by unfold chkE; rw [h]; rfl
theorem chk_ok {n : Int} (h : Am.isA n = true) : chkE n = 0 := by unfold chkE; rw [h]; rfl
theorem vopen_any (t a n : Int) (ha : W64 a) (x : Vx w g sg hb fb v Fs F) :
    Calls Tryz.prog 21 #[ptr g, .int .i64 t, .int .i64 a, .int .i64 n] w fun e w' => e = .returned (.int .i64 (openE v t a n)) ∧ WentV F w w' g (openV v t a n) := by
  have HX := Lib.hid x
  have HO := Lib.hid (vorder_any t x)
  have HE : Hid (openE v t a n = if orderE v t = 0 then (if isAc a = false then 153 else if (v.s.ch a).isSome = true then 154 else if Am.isA n = false then 155 else 0) else orderE v t) := Lib.hid rfl
  have HV : Hid (openV v t a n = if openE v t a n = 0 then putV v t [(a, n)] else v) := Lib.hid rfl
  have HA := Lib.hid (fun w0 => vacc_any a w0)
  have HC := Lib.hid (fun w0 => check_same n w0)
  clear x
  by_cases h0 : orderE v t = 0
  · rw [h0] at HO
    rw [if_pos h0] at HE
    have HL := Lib.hid (fun w1 (hb1 : Below w.heap.size w w1) => vlast_any a ha (HX.out.call hb1))
    cases hac : isAc a with
    | false =>
      rw [hac, if_pos rfl] at HE
      have HV2 : Hid (openV v t a n = v) := Lib.hid (by rw [HV.out, HE.out]; rfl)
      rw [hac] at HA
      clear HV hac h0
      go_enter Tryz.func21, Tryz.ntmps21
      go_wp2_with fail
      refine HO.out.mono ?_
      rintro e w1 ⟨rfl, hb1⟩
      obtain ⟨c0, c1, c2, c3, c4, c5, cf, cz⟩ := (HX.out.call hb1).cells
      have HB1 := Lib.hid hb1
      clear hb1
      generalize lastS v.s a = y at *
      obtain ⟨y1, y2⟩ := y
      go_wp2_with fail
      refine (HL.out _ HB1.out).mono ?_
      rintro e w2 ⟨rfl, hb2⟩
      have HB2 := Lib.hid (HB1.out.trans (hb2.mono HB1.out.size))
      clear hb2 c0 c1 c2 c3 c4 c5 cf cz
      have HB3 := Lib.hid (HB2.out.alloc HB2.out.size (.cells #[.int .i64 y1, .int .i64 y2] 81))
      go_wp2_with fail
      refine (HA.out _).mono ?_
      rintro e w3 ⟨rfl, rfl⟩
      go_wp2_with fail
      go_ret
      exact ⟨by rw [HE.out]; rfl, by rw [HV2.out]; exact .same HX.out HB3.out⟩
    | true =>
      rw [hac, if_neg (by simp)] at HE
      rw [hac] at HA
      cases hso : (v.s.ch a).isSome with
      | true =>
        rw [hso, if_pos rfl] at HE
        have HV2 : Hid (openV v t a n = v) := Lib.hid (by rw [HV.out, HE.out]; rfl)
        rw [hso] at HL
        clear HV hac h0 hso
        go_enter Tryz.func21, Tryz.ntmps21
        go_wp2_with fail
        refine HO.out.mono ?_
        rintro e w1 ⟨rfl, hb1⟩
        obtain ⟨c0, c1, c2, c3, c4, c5, cf, cz⟩ := (HX.out.call hb1).cells
        have HB1 := Lib.hid hb1
        clear hb1
        generalize lastS v.s a = y at *
        obtain ⟨y1, y2⟩ := y
        go_wp2_with fail
        refine (HL.out _ HB1.out).mono ?_
        rintro e w2 ⟨rfl, hb2⟩
        have HB2 := Lib.hid (HB1.out.trans (hb2.mono HB1.out.size))
        clear hb2 c0 c1 c2 c3 c4 c5 cf cz
        have HB3 := Lib.hid (HB2.out.alloc HB2.out.size (.cells #[.int .i64 y1, .int .i64 y2] 81))
        go_wp2_with fail
        refine (HA.out _).mono ?_
        rintro e w3 ⟨rfl, rfl⟩
        go_wp2_with fail
        go_ret
        exact ⟨by rw [HE.out]; rfl, by rw [HV2.out]; exact .same HX.out HB3.out⟩
      | false =>
        rw [hso, if_neg (by simp)] at HE
        rw [hso] at HL
        cases hA : Am.isA n with
        | false =>
          rw [hA, if_pos rfl] at HE
          have HV2 : Hid (openV v t a n = v) := Lib.hid (by rw [HV.out, HE.out]; rfl)
          rw [chk_bad hA] at HC
          clear HV hac h0 hso hA
          go_enter Tryz.func21, Tryz.ntmps21
          go_wp2_with fail
          refine HO.out.mono ?_
          rintro e w1 ⟨rfl, hb1⟩
          obtain ⟨c0, c1, c2, c3, c4, c5, cf, cz⟩ := (HX.out.call hb1).cells
          have HB1 := Lib.hid hb1
          clear hb1
          generalize lastS v.s a = y at *
          obtain ⟨y1, y2⟩ := y
          go_wp2_with fail
          refine (HL.out _ HB1.out).mono ?_
          rintro e w2 ⟨rfl, hb2⟩
          have HB2 := Lib.hid (HB1.out.trans (hb2.mono HB1.out.size))
          clear hb2 c0 c1 c2 c3 c4 c5 cf cz
          have HB3 := Lib.hid (HB2.out.alloc HB2.out.size (.cells #[.int .i64 y1, .int .i64 y2] 81))
          go_wp2_with fail
          refine (HA.out _).mono ?_
          rintro e w3 ⟨rfl, rfl⟩
          go_wp2_with fail
          refine (HC.out _).mono ?_
          rintro e w4 ⟨rfl, rfl⟩
          go_wp2_with fail
          go_ret
          exact ⟨by rw [HE.out]; rfl, by rw [HV2.out]; exact .same HX.out HB3.out⟩
        | true =>
          rw [hA, if_neg (by simp)] at HE
          have HV2 : Hid (openV v t a n = putV v t [(a, n)]) := Lib.hid (by rw [HV.out, HE.out]; rfl)
          rw [chk_ok hA] at HC
          clear HV hac h0 hso hA
          go_enter Tryz.func21, Tryz.ntmps21
          go_wp2_with fail
          refine HO.out.mono ?_
          rintro e w1 ⟨rfl, hb1⟩
          obtain ⟨c0, c1, c2, c3, c4, c5, cf, cz⟩ := (HX.out.call hb1).cells
          have HB1 := Lib.hid hb1
          clear hb1
          generalize lastS v.s a = y at *
          obtain ⟨y1, y2⟩ := y
          go_wp2_with fail
          refine (HL.out _ HB1.out).mono ?_
          rintro e w2 ⟨rfl, hb2⟩
          have HB2 := Lib.hid (HB1.out.trans (hb2.mono HB1.out.size))
          clear hb2 c0 c1 c2 c3 c4 c5 cf cz
          have HB3 := Lib.hid (HB2.out.alloc HB2.out.size (.cells #[.int .i64 y1, .int .i64 y2] 81))
          go_wp2_with fail
          refine (HA.out _).mono ?_
          rintro e w3 ⟨rfl, rfl⟩
          go_wp2_with fail
          refine (HC.out _).mono ?_
          rintro e w4 ⟨rfl, rfl⟩
          go_upto_region 11 with fail
          generalize hw5 : w2.alloc (.cells #[.int .i64 y1, .int .i64 y2] 81) = w5 at *
          clear hw5
          have HB6 := Lib.hid (HB3.out.alloc HB3.out.size (.cells #[.int .i64 a, .int .i64 n] 62))
          have hev : Ev (w5.alloc (.cells #[.int .i64 a, .int .i64 n] 62)) (some ⟨w5.heap.size, 0, none⟩) 1 [(a, n)] F := by
            refine ⟨⟨rfl, fun _ => ⟨w5.heap.size, 0, rfl, by simp, fun j u hu => ?_⟩⟩, Nat.le_refl _, by omega, fun e he => by rw [List.mem_singleton.1 he]; exact ha, fun _ ad had hf => ?_⟩
            · rw [Nat.zero_add, (Whole.fresh w5 _ _).cell j, ← Array.getElem?_toList]
              exact hu
            · injection had with had
              subst had
              have h1 := HX.out.low hf
              have h2 := HB3.out.size
              simp only at h1
              omega
          have HPT := Lib.hid (vput_any t (some ⟨w5.heap.size, 0, none⟩) 1 [(a, n)] (HX.out.call HB6.out) hev)
          clear hev
          go_wp2_with fail
          refine HPT.out.mono ?_
          rintro e w6 ⟨rfl, hm⟩
          have HM := Lib.hid (WentV.before HB6.out hm)
          clear hm
          go_wp2_with fail
          go_ret
          exact ⟨by rw [HE.out]; rfl, by rw [HV2.out]; exact HM.out⟩
  · rw [if_neg h0] at HE
    have HV2 : Hid (openV v t a n = v) := Lib.hid (by rw [HV.out, HE.out, if_neg h0])
    have i0 : (orderE v t == 0) = false := by simpa using h0
    clear HV h0
    generalize orderE v t = E at *
    go_enter Tryz.func21, Tryz.ntmps21
    go_wp2_with fail
    refine HO.out.mono ?_
    rintro e w1 ⟨rfl, hb1⟩
    have HB1 := Lib.hid hb1
    clear hb1
    have i1 : (E != 0) = true := by simpa using i0
    go_wp2_with fail
    go_ret
    exact ⟨by rw [HE.out]; rfl, by rw [HV2.out]; exact .same HX.out HB1.out⟩
end
end Go.Proofs.YtckhddndeojobaaGreat
