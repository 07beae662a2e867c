/- What is purged is just all letters to a node, and the others stay in their order: moietylaw09.PostPurges answers true. For every list of calls and number of eight bits; no conditions. -/
import Derived.Test.YtilnhelkkmhfhaaPostL
namespace Go.Proofs.Ytilnhelkkmhfhaa.postPurges
open Go.ChangeShapes Go.WideShapes Go.ChangeAt Go.RowKit Go.Po
set_option linter.unusedVariables false
set_option linter.unusedSimpArgs false

set_option maxRecDepth 100000 in
set_option maxHeartbeats 4000000 in
theorem walk (A : Option Addr) (len cap : Nat) (l : List Oc) (a1 : Int) (wa1 : 0 ≤ a1 ∧ a1 ≤ 255) (w : World) (hL : IsR w A len cap 5 encC GC l) :
    Calls Try.prog 8 #[.slice A len cap, .int .u8 a1] w fun r w' => r = .returned (.bool true) ∧ Below w.heap.size w w' := by
  obtain ⟨hlen, hs, hc1, hc2, hn, hg⟩ := hL
  subst hlen
  have HS := Lib.hid hs
  have HG := Lib.hid hg
  clear hs hg hn
  go_enter Try.func8, Try.ntmps8
  go_wp2_with fail
  refine (snew_lp (St.start w) 4 (by omega)).mono ?_
  rintro e w1 ⟨g, rfl, hl⟩
  have H := Lib.hid hl
  clear hl
  go_wp2_with fail
  refine (awake_any _).mono ?_
  rintro e w2 ⟨rfl, hb⟩
  replace H := Lib.hid (H.out.call hb)
  clear hb
  go_wp2_with fail
  go_loopw [7] (fun i wr => ∃ (k : Nat) (n : Nt (List UInt8)), k ≤ l.length ∧ k ≤ 40 ∧ i = .int .i64 (k : Int) ∧ n.sent ≤ k ∧ n.nodes = 4 ∧ sLp w wr [] g n) (fun i _ => l.length - (intOf i).toNat)
  case atStart => exact ⟨0, _, by omega, by omega, rfl, Nat.le_refl _, rfl, H.out⟩
  case round =>
    obtain ⟨k, n, hk1, hk2, rfl, hsent, hnodes, hl⟩ := hrel
    replace H := Lib.hid hl
    have HND := Lib.hid hnodes
    clear hl hnodes
    by_cases hlt : k < l.length ∧ k < 40
    · obtain ⟨h1, h2⟩ := hlt
      obtain ⟨v, hv⟩ : ∃ v, l[k]? = some v := ⟨_, List.getElem?_eq_getElem h1⟩
      have hga := HG.out v (List.mem_of_getElem? hv)
      have HGA := Lib.hid hga.few
      have HFEW := Lib.hid (few_any v hga.s)
      obtain ⟨b0, off, rfl, hb, hcc⟩ := (HS.out.below H.out.st.below).item encC_len (by omega) k v hv
      have q0 := hcc 0 _ rfl
      have q1 := hcc 1 _ rfl
      have q2 := hcc 2 _ rfl
      have q3 := hcc 3 _ rfl
      have q4 := hcc 4 _ rfl
      rw [Nat.add_zero] at q0
      clear hcc hv hga hb
      have i1 : (k : Int) < (l.length : Int) := by omega
      have i2 : (k : Int) < 40 := by omega
      go_wp2_with fail
      refine (HFEW.out _).mono ?_
      rintro e w5 ⟨rfl, hb2⟩
      have H2 := Lib.hid ((H.out.call hb2).other (.cells #[.int .i64 v.kind, .int .i64 v.a, .int .i64 v.b, .string (txt v.few.s), .bool v.off] 36))
      clear hb2 q0 q1 q2 q3 q4 HFEW
      rcases (show v.kind = 0 ∨ v.kind = 2 ∨ (v.kind ≠ 0 ∧ v.kind ≠ 2) by omega) with hkd | hkd | ⟨hk0, hk2'⟩
      · rw [hkd] at H2 ⊢
        go_wp2_with fail
        refine (H2.out.ssend HGA.out.a HGA.out.b v.few.s (by omega)).mono ?_
        rintro e w6 ⟨rfl, hl⟩
        have H3 := Lib.hid hl
        have hsn := send_sent n v.few.a v.few.b v.few.s
        have HN4 := Lib.hid ((send_same n v.few.a v.few.b v.few.s).1.trans HND.out)
        clear hl
        go_wp2_with fail
        go_roundw
        case rel => exact ⟨k + 1, _, by omega, by omega, by go_num, by omega, HN4.out, H3.out⟩
        case measure => simp [intOf]; omega
      · rw [hkd] at H2 ⊢
        go_wp2_with fail
        refine (H2.out.scopy HGA.out.a).mono ?_
        rintro e w6 ⟨rfl, hl⟩
        have H3 := Lib.hid hl
        have hsn := (copy_sent n v.few.a).1
        have HN4 := Lib.hid ((copy_sent n v.few.a).2.1.trans HND.out)
        clear hl
        go_wp2_with fail
        go_roundw
        case rel => exact ⟨k + 1, _, by omega, by omega, by go_num, by omega, HN4.out, H3.out⟩
        case measure => simp [intOf]; omega
      · generalize v.kind = kd at *
        go_wp2_with fail
        go_roundw
        case rel => exact ⟨k + 1, n, by omega, by omega, by go_num, by omega, HND.out, H2.out⟩
        case measure => simp [intOf]; omega
    · have hend : ((k : Int) < l.length ∧ k = 40) ∨ k = l.length := by omega
      rcases hend with ⟨h1, rfl⟩ | rfl
      all_goals
        go_wp2_with fail
        have hq9 := low_two a1 wa1
        generalize wrap64 (bits BinOp.and IntKind.u8 a1 3) = q at *
        refine H.out.sletters.mono ?_
        rintro e w3 ⟨A1, cap1, R1, rfl, hca, hAa, htopa, hl, hown1, -, -⟩
        have H1 := Lib.hid hl
        have HO1 := Lib.hid hown1
        clear hl hown1 H
        go_wp2_with fail
        obtain ⟨ks, hks⟩ : ∃ ks, ks = n.under.filter fun l => decide (l.to ≠ q) := ⟨_, rfl⟩
        have HP : Hid (n.purge q = ({ n with under := ks }, 0)) := Lib.hid (by unfold Nt.purge; rw [if_pos ⟨hq9.1, by rw [HND.out]; omega⟩, hks])
        have hkl : ks.length ≤ n.under.length := by rw [hks]; exact List.length_filter_le _ _
        have HKS := Lib.hid hks
        clear hks
        refine (H1.out.spurge (w64 q (by omega))).mono ?_
        rintro e w4 ⟨rfl, hl⟩
        rw [HP.out] at hl ⊢
        have H2 := Lib.hid hl
        have hfew := H1.out.fine.few
        clear hl H1
        go_wp2_with fail
        refine H2.out.sletters.mono ?_
        rintro e w5 ⟨A2, cap2, R2, rfl, hcb, hAb, htopb, hl, hown2, -, -⟩
        have H3 := Lib.hid hl
        have HO2 := Lib.hid hown2
        clear hl hown2 H2
        generalize hun : n.under = us at *
        have HUN := Lib.hid hun
        clear hun
        simp only [] at hcb HO2
        go_wp2_with fail
        go_loopw [12, 13] (fun a i wr => ∃ (c : Nat), c ≤ us.length ∧ i = .int .i64 (c : Int) ∧ a = .int .i64 ((((us.take c).filter fun l => decide (l.to ≠ q)).length : Nat) : Int) ∧ sLp w wr (R2 ++ R1) g { n with under := ks }) (fun _ i _ => us.length - (intOf i).toNat)
        case atStart => exact ⟨0, by omega, rfl, by simp, by simpa using H3.out⟩
        case round =>
          obtain ⟨c, hcl, rfl, rfl, hl⟩ := hrel
          replace H3 := Lib.hid hl
          by_cases hlt : c < us.length
          · obtain ⟨y, hy⟩ : ∃ y, us[c]? = some y := ⟨_, List.getElem?_eq_getElem hlt⟩
            have ho1 := HO1.out wr (fun r hr => hl.knows r (List.mem_append.2 (.inr hr)))
            obtain ⟨b1, rfl⟩ := row_some ho1 (by omega)
            obtain ⟨⟨y0, y1, y2, y3⟩, -⟩ := own_letter ho1 hy
            have HN := Lib.hid (filter_next (fun l => decide (l.to ≠ q)) us c y hy)
            have hle := filter_le (fun l : Lt (List UInt8) => decide (l.to ≠ q)) us c
            have HAT := Lib.hid (filter_at (fun l => decide (l.to ≠ q)) us c y hy)
            have i1 : (c : Int) < (us.length : Int) := by omega
            by_cases hyq : y.to = q
            · rw [hyq] at y2
              clear hl ho1 hy
              generalize hfl : ((us.take c).filter fun l => decide (l.to ≠ q)).length = a at *
              have HFL := Lib.hid hfl
              clear hfl
              go_wp2_with fail
              go_roundw
              case rel => exact ⟨c + 1, by omega, by go_num, by rw [HN.out, if_neg (by simp [hyq]), HFL.out], H3.out⟩
              case measure => simp [intOf]; omega
            · have hat := HAT.out (by simp [hyq])
              rw [← HKS.out] at hat
              have hal := (List.getElem?_eq_some_iff.1 hat).1
              have ho2 := HO2.out wr (fun r hr => hl.knows r (List.mem_append.2 (.inl hr)))
              obtain ⟨b2, rfl⟩ := row_some ho2 (by omega)
              obtain ⟨⟨z0, z1, z2, z3⟩, -⟩ := own_letter ho2 hat
              have HYQ := Lib.hid hyq
              clear hl ho1 hy ho2 hat HAT
              generalize hfl : ((us.take c).filter fun l => decide (l.to ≠ q)).length = a at *
              have HFL := Lib.hid hfl
              clear hfl
              have i2 : (a : Int) < (ks.length : Int) := by omega
              go_wp2_with fail
              obtain ⟨C, hC, HCC⟩ := one_class wr
              refine region_in C hC (by kernel_rfl) (by kernel_rfl) ?_
              iterate 15
                (refine WQ.step (fun K hK => ?_)
                 go_simp
                 first
                   | (refine hK _ ?_; clear hK K)
                   | (apply Exists.intro
                      refine ⟨fun x hx => ?_, hK _ ?_⟩
                      · first
                          | rfl
                          | (rw [HCC.out _ hx]
                             go_simp
                             exact ⟨rfl, rfl⟩)
                          | (rw [HCC.out _ hx]
                             go_simp
                             rfl)
                      clear hK K))
              refine WQ.nil ?_
              intro y hy
              rw [HCC.out _ hy]
              clear hy hC HCC C
              go_wp2_with fail
              go_roundw
              case rel => exact ⟨c + 1, by omega, by go_num, by rw [HN.out, if_pos (by simp [HYQ.out]), List.length_append, HFL.out]; simp, H3.out.drewN 1⟩
              case measure => simp [intOf]; omega
          · have hce : c = us.length := by omega
            subst hce
            have hfin : ((us.take us.length).filter fun l => decide (l.to ≠ q)).length = ks.length := by rw [List.take_length, HKS.out]
            rw [hfin]
            go_wp2_with fail
            go_ret
            exact ⟨rfl, H3.out.st.below⟩

set_option maxRecDepth 100000 in
theorem lifted (os : Os) (started : os.Started) (H : Type) (enc : TypeId × Value → H) :
    ReturnsInHanded {} Try.checked os 8 .any (Rows.postPurgesSpec.pre6 enc Try.prog Try.f8 Rows.postPurgesRow.domain false) (Rows.postPurgesSpec.post enc Try.prog Try.f8 false true false false) := by
  refine returnsInHanded_of_change (C := Try.checked) own started (by kernel_rfl) Try.func8
    (ChangeSpec.witness6 (enc := enc) (C := Try.checked) false ⟨#[], #[.slice none 0 0, .int .u8 0], []⟩ 8 (by kernel_rfl) (by kernel_rfl) (by kernel_rfl) (by kernel_rfl)) ?_
  intro W base args ds gs before hval0 hW hcnd _
  have hval : ∀ (j : Nat) t v, Try.f8.params[j]? = some t → args[j]? = some v → Value.okWide Try.prog W .any base t v := hval0
  have hW' := hW
  obtain ⟨p, q, hA0, hV, rfl, hfz, hnd⟩ := hW
  have hA : DataW.TrodAll enc Try.prog W 0 (fun _ => true) true Try.f8.params.toList args.toList ds p := hA0
  rw [Try.params8] at hA hval
  obtain ⟨v0, vs0, d0, ds0, p0, q0, hargs, rfl, rfl, h0, r0⟩ := trodAll_cons hA
  obtain ⟨v1, vs1, d1, ds1, p1, q1, rfl, rfl, rfl, h1, r1⟩ := trodAll_cons r0
  obtain ⟨rfl, rfl, rfl⟩ := trodAll_nil r1
  obtain rfl : args = #[v0, v1] := by cases args; simp_all
  obtain ⟨rfl, rfl⟩ := trodVars_none hV
  obtain ⟨A0, len0, cap0, rfl⟩ := okWide_slice Try.underlying22 (hval 0 22 v0 rfl rfl)
  obtain ⟨l0, w0⟩ := open_posts h0
  have lt0 : ∀ x ∈ p0, x.block < W.heap.size := by obtain ⟨m, hm⟩ := h0; exact DataW.trod_lt m _ _ _ hm
  obtain ⟨a1, rfl⟩ := okWide_int Try.underlying5 (hval 1 5 v1 rfl rfl)
  have w1 : 0 ≤ a1 ∧ a1 ≤ 255 := by
    obtain ⟨m, hm⟩ := h1
    obtain ⟨s, hs, _, hl⟩ := DataW.trod_int Try.underlying5 hm
    simp [Value.cells] at hs
    rw [hs]; have := bounds_u8 hl; omega
  have lt1 : ∀ x ∈ p1, x.block < W.heap.size := by obtain ⟨m, hm⟩ := h1; exact DataW.trod_lt m _ _ _ hm
  clear hA0 hval0
  simp only [List.append_nil] at hW'
  refine (walk A0 len0 cap0 l0 a1 w1 W w0).mono fun e W' ⟨he, bel⟩ => ?_
  subst he
  exact ⟨_, rfl, _, _, _, [], _, [], hW', trodAll_mk1 (shut_bool Try.underlying4 _), (trodAll_cons_mk (Below.trod laidOut (by kernel_rfl) (of_decide_eq_true (by kernel_rfl)) h0 bel lt0) (trodAll_cons_mk (Below.trod laidOut (by kernel_rfl) (of_decide_eq_true (by kernel_rfl)) h1 bel lt1) trodAll_mk0)), rfl, bel.frame _, fun h => by cases h⟩

theorem proved : Rows.PostPurgesSaid :=
  OpenClaim.holds_of_wide 8 Try.f8 rfl rfl rfl rfl rfl rfl rfl ⟨rfl, rfl, rfl, rfl, rfl⟩ rfl rfl rfl rfl rfl (by kernel_rfl) Try.func8 (by kernel_rfl)
    (of_decide_eq_true (by kernel_rfl)) (by unfold Func.isWrapper; first | (rw [if_pos (by decide +kernel)]; kernel_rfl) | (rw [if_neg (by decide +kernel)]; exact ⟨rfl, rfl⟩))
    (fun os started H enc _ => lifted os started H enc)
#print axioms proved
end Go.Proofs.Ytilnhelkkmhfhaa.postPurges
