/- Layer 15: a call of a law (one), a vault made by calls. (Written by gvltr.py.) -/
import Derived.Test.YtckhddndeojobaaGreatVltO
namespace Go.Proofs.YtckhddndeojobaaGreat
open Go.ChangeShapes Go.WideShapes Go.ChangeAt Go.RowKit Go.Cn Go.So Go.Vt
open Go.Lk (upd supp Fin1 upd_same upd_other)
set_option linter.unusedVariables false
set_option linter.unusedSimpArgs false
set_option maxRecDepth 100000
set_option maxHeartbeats 4000000 in
theorem one_any {W w : World} {g : Nat} {v : Vt} {m : Nat} {Y : Nat → Prop} (o : Op15) (ho : GO o) (h : Vp W w g v m Y) (hm : m < 4000) :
    Calls Tryz.prog 10 #[ptr g, aggO o] w fun e w' => e = .returned (.int .i64 (oneE v o)) ∧ Vp W w' g (oneV v o) (m + 1) Y ∧ Keep Y w w' := by
  obtain ⟨k, id, acc, t, n, p⟩ := o
  have hb0 := (Below.refl w.heap.size w).alloc (Nat.le_refl _) (.cells #[.int .i64 k, .int .i64 id, .int .i64 acc, .int .i64 t, .int .i64 n, .bool p] 41)
  have HP := Lib.hid (h.call hb0)
  have HKP := Lib.hid (Keep.below hb0 h.low)
  have HW := Lib.hid (Whole.fresh w 41 #[.int .i64 k, .int .i64 id, .int .i64 acc, .int .i64 t, .int .i64 n, .bool p])
  have HO := Lib.hid ho
  have HR : Hid (oneE v ⟨k, id, acc, t, n, p⟩ = (if k = 0 then openE v t acc n else if k = 1 then holdE v t ⟨id, acc, n, p⟩ else if k = 2 then commitE v t id else if k = 3 then dropE v id else if k = 4 then closeE v t else if k = 5 then oursE (pruneSE v.s t) else 0) ∧
    oneV v ⟨k, id, acc, t, n, p⟩ = (if k = 0 then openV v t acc n else if k = 1 then holdV v t ⟨id, acc, n, p⟩ else if k = 2 then commitV v t id else if k = 3 then dropV v id else if k = 4 then closeV v t else if k = 5 then pruneV v t else v)) := Lib.hid ⟨rfl, rfl⟩
  rw [HR.out.1, HR.out.2]
  clear HR h ho hb0
  by_cases e0 : k = 0
  · subst e0
    rw [if_pos rfl, if_pos rfl]
    go_enter Tryz.func10, Tryz.ntmps10
    go_wp2_with fail
    refine (vp_open t acc n HO.out.acc HP.out hm).mono ?_
    rintro e w6 ⟨rfl, hp, hk⟩
    have HP6 := Lib.hid (show Vp W w6 g _ (m + 1) Y from hp)
    have HK6 := Lib.hid (HKP.out.trans hk)
    clear hp hk
    go_wp2_with fail
    go_ret
    exact ⟨rfl, HP6.out, HK6.out⟩
  · rw [if_neg e0, if_neg e0]
    have i0 : (k == 0) = false := by simpa using e0
    by_cases e1 : k = 1
    · subst e1
      rw [if_pos rfl, if_pos rfl]
      have HPT := Lib.hid (fun z => part_any ⟨1, id, acc, t, n, p⟩ z)
      go_enter Tryz.func10, Tryz.ntmps10
      go_upto_region 5 with fail
      generalize hw0 : w.alloc (.cells #[.int .i64 1, .int .i64 id, .int .i64 acc, .int .i64 t, .int .i64 n, .bool p] 41) = w0 at *
      clear hw0
      obtain ⟨C, hC, HCc, HCf⟩ := vbelow_class w0
      refine region_inT 5 C hC (by kernel_rfl) (by kernel_rfl) ?_
      simp only [List.take_succ_cons, List.take_zero, List.drop_succ_cons, List.drop_zero]
      iterate 5
        (refine WQ.step (fun K hK => ?_)
         go_simp
         first
           | (refine hK _ ?_; clear hK K)
           | (apply Exists.intro
              refine ⟨fun z hz => ?_, hK _ ?_⟩
              · first
                  | rfl
                  | (go_at_call 18; refine (HPT.out z).mono ?_; rintro e z2 ⟨rfl, hb⟩; exact ⟨rfl, HCc.out _ _ hz hb⟩)
                  | (have ky := HW.out.below (HCf.out _ hz) HW.out.lt
                     have k0 := ky.cell 0
                     have k1 := ky.cell 1
                     have k2 := ky.cell 2
                     have k3 := ky.cell 3
                     have k4 := ky.cell 4
                     have k5 := ky.cell 5
                     have kz := ky.lt
                     simp only [List.getElem?_toArray, List.getElem?_cons_zero, List.getElem?_cons_succ] at k0 k1 k2 k3 k4 k5
                     clear ky
                     go_simp
                     rfl)
              clear hK K))
      refine WQ.nil ?_
      intro w3 hw
      have HB3 := Lib.hid (HCf.out _ hw)
      clear hw hC HCc HCf C
      go_wp2_with fail
      refine (vp_hold t ⟨id, acc, n, p⟩ HO.out.id HO.out.acc HO.out.n (HP.out.call HB3.out)).mono ?_
      rintro e w6 ⟨rfl, hp, hk⟩
      have HP6 := Lib.hid hp
      have HK6 := Lib.hid ((HKP.out.trans (Keep.below HB3.out HP.out.low)).trans hk)
      clear hp hk
      go_wp2_with fail
      go_ret
      exact ⟨rfl, HP6.out, HK6.out⟩
    · rw [if_neg e1, if_neg e1]
      have i1 : (k == 1) = false := by simpa using e1
      by_cases e2 : k = 2
      · subst e2
        rw [if_pos rfl, if_pos rfl]
        go_enter Tryz.func10, Tryz.ntmps10
        go_wp2_with fail
        refine (vp_commit t id HO.out.id HP.out hm).mono ?_
        rintro e w6 ⟨rfl, hp, hk⟩
        have HP6 := Lib.hid (show Vp W w6 g _ (m + 1) Y from hp)
        have HK6 := Lib.hid (HKP.out.trans hk)
        clear hp hk
        go_wp2_with fail
        go_ret
        exact ⟨rfl, HP6.out, HK6.out⟩
      · rw [if_neg e2, if_neg e2]
        have i2 : (k == 2) = false := by simpa using e2
        by_cases e3 : k = 3
        · subst e3
          rw [if_pos rfl, if_pos rfl]
          go_enter Tryz.func10, Tryz.ntmps10
          go_wp2_with fail
          refine (vp_drop id HO.out.id HP.out).mono ?_
          rintro e w6 ⟨rfl, hp, hk⟩
          have HP6 := Lib.hid (show Vp W w6 g _ (m + 1) Y from hp.le (Nat.le_succ m))
          have HK6 := Lib.hid (HKP.out.trans hk)
          clear hp hk
          go_wp2_with fail
          go_ret
          exact ⟨rfl, HP6.out, HK6.out⟩
        · rw [if_neg e3, if_neg e3]
          have i3 : (k == 3) = false := by simpa using e3
          by_cases e4 : k = 4
          · subst e4
            rw [if_pos rfl, if_pos rfl]
            go_enter Tryz.func10, Tryz.ntmps10
            go_wp2_with fail
            refine (vp_close t HP.out).mono ?_
            rintro e w6 ⟨rfl, hp, hk⟩
            have HP6 := Lib.hid (show Vp W w6 g _ (m + 1) Y from hp.le (Nat.le_succ m))
            have HK6 := Lib.hid (HKP.out.trans hk)
            clear hp hk
            go_wp2_with fail
            go_ret
            exact ⟨rfl, HP6.out, HK6.out⟩
          · rw [if_neg e4, if_neg e4]
            have i4 : (k == 4) = false := by simpa using e4
            by_cases e5 : k = 5
            · subst e5
              rw [if_pos rfl, if_pos rfl]
              go_enter Tryz.func10, Tryz.ntmps10
              go_wp2_with fail
              refine (vp_prune t HP.out).mono ?_
              rintro e w6 ⟨rfl, hp, hk⟩
              have HP6 := Lib.hid (show Vp W w6 g _ (m + 1) Y from hp.le (Nat.le_succ m))
              have HK6 := Lib.hid (HKP.out.trans hk)
              clear hp hk
              go_wp2_with fail
              go_ret
              exact ⟨rfl, HP6.out, HK6.out⟩
            · rw [if_neg e5, if_neg e5]
              have i5 : (k == 5) = false := by simpa using e5
              go_enter Tryz.func10, Tryz.ntmps10
              go_wp2_with fail
              go_ret
              exact ⟨rfl, HP.out.le (Nat.le_succ m), HKP.out⟩
set_option maxHeartbeats 4000000 in
/-- A vault made by calls. -/
theorem made_any (x : Nat) (hx : x < 18446744073709551616) (A : Option Addr) (cap : Nat) (l : List Op15) (w : World) (hs : Sees w w.heap.size 6 A l.length (flat encO l)) (hc : l.length ≤ cap) (hc2 : cap ≤ 9223372036854775807) (hg : ∀ o ∈ l, GO o) :
    Calls Tryz.prog 7 #[.float .f64 x, .slice A l.length cap] w fun e w' =>
      (Am.rated x = false ∧ e = .returned (.pointer none) ∧ Below w.heap.size w w') ∨ ∃ g, Am.rated x = true ∧ e = .returned (ptr g) ∧ Vp w w' g (mk x (l.take 40)) 40 fun _ => False := by
  have HS := Lib.hid hs
  have HGO := Lib.hid hg
  have HN := Lib.hid (vnew_any x hx w)
  clear hs hg hx
  go_enter Tryz.func7, Tryz.ntmps7
  go_wp2_with fail
  refine HN.out.mono ?_
  rintro e w1 ⟨hb1, ⟨hr, rfl⟩ | ⟨g, F, hr, rfl, hv, hF⟩⟩
  · have HB := Lib.hid hb1
    have HR := Lib.hid hr
    clear hb1 hr
    go_wp2_with fail
    go_ret
    exact .inl ⟨HR.out, rfl, HB.out⟩
  · have HR := Lib.hid hr
    have HP := Lib.hid (Vp.start hb1 hv hF hr)
    clear hb1 hr hv hF HN
    go_wp2_with fail
    go_loopw [7] (fun i wr => ∃ n : Nat, n ≤ l.length ∧ n ≤ 40 ∧ i = .int .i64 (n : Int) ∧ Vp w wr g (mk x (l.take n)) n fun _ => False) (fun i _ => l.length - (intOf i).toNat)
    case atStart => exact ⟨0, by omega, by omega, rfl, HP.out⟩
    case round =>
      obtain ⟨n, hn1, hn2, rfl, hp⟩ := hrel
      have HP := Lib.hid hp
      clear hp
      by_cases hlt : n < l.length ∧ n < 40
      · obtain ⟨h1, h2⟩ := hlt
        obtain ⟨o, ho⟩ : ∃ o, l[n]? = some o := ⟨_, List.getElem?_eq_getElem h1⟩
        obtain ⟨b0, off, rfl, hb, hcc⟩ := (HS.out.below HP.out.bel).item encO_len (by omega) n o ho
        have q0 := hcc 0 _ rfl
        have q1 := hcc 1 _ rfl
        have q2 := hcc 2 _ rfl
        have q3 := hcc 3 _ rfl
        have q4 := hcc 4 _ rfl
        have q5 := hcc 5 _ rfl
        rw [Nat.add_zero] at q0
        have i1 : (n : Int) < (l.length : Int) := by omega
        have i2 : (n : Int) < 40 := by omega
        have HDO := Lib.hid (one_any o (HGO.out o (List.mem_of_getElem? ho)) HP.out (by omega))
        have HSN := Lib.hid (mk_snoc x ho)
        clear hcc ho
        generalize oneE (mk x (l.take n)) o = E at *
        generalize hmf : oneV (mk x (l.take n)) o = v2 at *
        clear hmf
        obtain ⟨k, id, a, t, m, p⟩ := o
        dsimp only at *
        go_wp2_with fail
        refine HDO.out.mono ?_
        rintro e w4 ⟨rfl, hp, -⟩
        have HP4 := Lib.hid hp
        clear hp HDO HP
        go_wp2_with fail
        go_roundw
        case rel => exact ⟨n + 1, by omega, by omega, by go_num, by rw [HSN.out]; exact HP4.out⟩
        case measure => simp [intOf]; omega
      · have he : l.take n = l.take 40 := by
          by_cases e : n = 40
          · rw [e]
          · have : n = l.length := by omega
            rw [this, List.take_length, List.take_of_length_le (by omega)]
        rw [he] at HP
        have HP7 := Lib.hid (HP.out.le hn2)
        by_cases h1 : n < l.length
        · have h2 : n = 40 := by omega
          subst h2
          go_wp2_with fail
          go_ret
          first | exact .inr ⟨g, HR.out, rfl, HP7.out⟩ | exact .inr ⟨HR.out, g, rfl, HP7.out⟩
        · have h2 : n = l.length := by omega
          subst h2
          go_wp2_with fail
          go_ret
          first | exact .inr ⟨g, HR.out, rfl, HP7.out⟩ | exact .inr ⟨HR.out, g, rfl, HP7.out⟩
end Go.Proofs.YtckhddndeojobaaGreat
