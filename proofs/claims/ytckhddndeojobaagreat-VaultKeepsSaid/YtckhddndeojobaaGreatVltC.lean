/- Vaults: contracts: Close. -/
import Derived.Test.YtckhddndeojobaaGreatVltJ
namespace Go.Proofs.YtckhddndeojobaaGreat
open Go.RowKit Go.Cn Go.So Go.Vt
open Go.Lk (upd supp Fin1 upd_same upd_other)
set_option linter.unusedVariables false
set_option linter.unusedSimpArgs false
set_option maxRecDepth 100000
set_option maxHeartbeats 4000000 in
theorem vclose_any {w : World} {g sg hb fb : Nat} {v : Vt} {Fs F : Nat → Prop} (t : Int) (x : Vx w g sg hb fb v Fs F) :
    Calls Tryz.prog 17 #[ptr g, .int .i64 t] w fun e w' => e = .returned (.int .i64 (closeE v t)) ∧ WentV F w w' g (closeV v t) := by
  have HX := Lib.hid x
  have HT := Lib.hid (fun z => vtime_any t z)
  have HV : Hid (closeV v t = if closeE v t = 0 then { v with s := closeS v.s t, top := max v.top t } else v) := Lib.hid rfl
  obtain ⟨c0, c1, c2, c3, c4, c5, cf, cz⟩ := x.cells
  have HM : Hid (Mo hvE w (some hb) v.held) := Lib.hid (.inr ⟨hb, rfl, x.held⟩)
  clear x
  cases ht : isT t with
  | false =>
    have HE : Hid (closeE v t = 151) := Lib.hid (by unfold closeE; rw [ht, if_pos rfl])
    have HV2 : Hid (closeV v t = v) := Lib.hid (by rw [HV.out, HE.out]; rfl)
    rw [ht] at HT
    clear ht HV
    go_enter Tryz.func17, Tryz.ntmps17
    go_wp2_with fail
    refine (HT.out _).mono ?_
    rintro e w1 ⟨rfl, rfl⟩
    go_wp2_with fail
    go_ret
    exact ⟨by rw [HE.out]; rfl, by rw [HV2.out]; exact .same HX.out (Below.refl _ _)⟩
  | true =>
    have HEB : Hid (Busy v t → closeE v t = 160) := Lib.hid fun h => by unfold closeE; rw [ht, if_neg (by simp), if_pos h]
    have HEO : Hid (¬ Busy v t → closeE v t = 0) := Lib.hid fun h => by unfold closeE; rw [ht, if_neg (by simp), if_neg h]
    rw [ht] at HT
    clear ht
    go_enter Tryz.func17, Tryz.ntmps17
    go_wp2_with fail
    refine (HT.out _).mono ?_
    rintro e w1 ⟨rfl, rfl⟩
    go_wp2_with (first
      | (at_range; refine wpList_range_mo _ rfl _ 31 rfl 54 Tryz.underlying31 rfl HM.out ?_; intro w0 hrg0 hb0 hs0)
      | go_in)
    go_frame
    go_loopw [6] (fun bx wr => ∃ (cnt : Nat) (L : List Int), Ro hvE wr (some hb) w1.heap.size v.held L cnt ∧ (∀ a ∈ L, ∀ h, v.held a = some h → ¬ h.t ≤ t) ∧ Below w1.heap.size w1 wr)
      (fun _ wr => leftO (some hb) w1.heap.size wr)
    case atStart => exact ⟨_, [], hrg0, (fun y hy => by cases hy), hb0⟩
    case round =>
      obtain ⟨cnt, L, hrg, hno, hbw⟩ := hrel
      have HB := Lib.hid hbw
      have HR := Lib.hid hrg
      have HNO := Lib.hid hno
      clear hrg hbw hrg0 hb0 hs0 hno c0 c1 c2 c3 c4 c5 cf cz
      go_wp2_with (first
        | (at_next; refine wpList_next_mo _ hvE_inj rfl _ rfl w1.heap.size cnt L rfl HR.out ?_ ?_)
        | go_in)
      · intro hc0 hnd hmem
        have hnb : ¬ Busy v t := fun ⟨a, h, h1, h2⟩ => Int.not_le.2 (HNO.out a ((hmem a).2 (by rw [h1]; rfl)) h h1) h2
        have HE := Lib.hid (HEO.out hnb)
        have HV2 : Hid (closeV v t = { v with s := closeS v.s t, top := max v.top t }) := Lib.hid (by rw [HV.out, if_pos HE.out])
        clear hmem hnd hnb HV HEB HEO
        have HX1 := Lib.hid (HX.out.call HB.out)
        obtain ⟨c0, c1, c2, c3, c4, c5, cf, cz⟩ := HX1.out.cells
        have HCL := Lib.hid (sclose_any t wr HX1.out.sto)
        go_wp2_with fail
        refine HCL.out.mono ?_
        rintro e w2 ⟨rfl, hm⟩
        obtain ⟨Fs', F', x1, ho, hF⟩ := HX1.out.went hm
        clear hm HCL c0 c1 c2 c3 c4 c5 cf cz
        obtain ⟨c0, c1, c2, c3, c4, c5, cf, cz⟩ := x1.cells
        have HM2 : Hid (WentV F wr (w2.setCell ⟨g, 5, none⟩ (.int .i64 (max v.top t))) g { v with s := closeS v.s t, top := max v.top t }) := Lib.hid ⟨ho.then hF (x1.offG 5 _), F', hF, sg, hb, fb, Fs', x1.setTop _⟩
        clear x1 ho hF
        dsimp only at *
        go_wp2_with fail
        go_ret
        exact ⟨by rw [HE.out]; rfl, by rw [HV2.out]; exact WentV.before HB.out HM2.out⟩
      · intro a h w2 cnt2 hfx hx hx64 hrg2 hlt hof hsz hen
        have HFX := Lib.hid hfx
        obtain ⟨⟨g1, g2, g3, g4⟩, g5, g6⟩ := h
        have hb2 : Below w1.heap.size w1 w2 := HB.out.trans (hof.below HB.out.size fun k hk => by rw [hk]; exact Nat.le_refl _)
        have HB3 := Lib.hid (hb2.alloc hb2.size (.cells #[.int .i64 g1, .int .i64 g2, .int .i64 g3, .bool g4, .int .i64 g5, .int .i64 g6] 54))
        have HR3 := Lib.hid (hrg2.call ((Below.refl _ _).alloc (Nat.le_refl _) (.cells #[.int .i64 g1, .int .i64 g2, .int .i64 g3, .bool g4, .int .i64 g5, .int .i64 g6] 54)))
        have hs2 := hb2.size
        have hme := HR3.out.measure
        have hmo := HR.out.measure
        clear hfx hof hsz hb2 hrg2
        by_cases hle : g5 ≤ t
        · have HE := Lib.hid (HEB.out ⟨a, _, HFX.out, hle⟩)
          have HV2 : Hid (closeV v t = v) := Lib.hid (by rw [HV.out, HE.out]; rfl)
          clear HV HEB HEO hme hmo
          go_wp2_with fail
          go_ret
          exact ⟨by rw [HE.out]; rfl, by rw [HV2.out]; exact .same HX.out HB3.out⟩
        · have HNO2 : Hid (∀ b ∈ L ++ [a], ∀ h, v.held b = some h → ¬ h.t ≤ t) := Lib.hid fun b hb2 h hh => by
            rcases List.mem_append.1 hb2 with h1 | h1
            · exact Int.not_le.2 (HNO.out b h1 h hh)
            · rw [List.mem_singleton.1 h1, HFX.out] at hh
              injection hh with hh
              rw [← hh]
              exact hle
          go_wp2_with fail
          go_roundw
          case rel => exact ⟨cnt2, L ++ [a], HR3.out, HNO2.out, HB3.out⟩
          case measure => first | (rw [hme, hmo]; exact hlt) | (rw [HR3.out.measure, HR.out.measure]; exact hlt)
end Go.Proofs.YtckhddndeojobaaGreat
