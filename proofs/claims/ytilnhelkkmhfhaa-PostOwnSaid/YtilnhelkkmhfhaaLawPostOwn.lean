/- What is told of letters is its owner's, changed it changes nothing: moietylaw09.PostOwn answers true. For every list of calls; no conditions. -/
import Derived.Test.YtilnhelkkmhfhaaPostL
namespace Go.Proofs.Ytilnhelkkmhfhaa.postOwn
open Go.ChangeShapes Go.WideShapes Go.ChangeAt Go.RowKit Go.Po
set_option linter.unusedVariables false
set_option linter.unusedSimpArgs false

set_option maxRecDepth 100000 in
set_option maxHeartbeats 4000000 in
theorem walk (A : Option Addr) (len cap : Nat) (l : List Oc) (w : World) (hL : IsR w A len cap 5 encC GC l) :
    Calls Try.prog 7 #[.slice A len cap] w fun r w' => r = .returned (.bool true) ∧ Below w.heap.size w w' := by
  obtain ⟨hlen, hs, hc1, hc2, hn, hg⟩ := hL
  subst hlen
  have HS := Lib.hid hs
  have HG := Lib.hid hg
  clear hs hg hn
  go_enter Try.func7, Try.ntmps7
  go_wp2_with fail
  refine (snew_lp (St.start w) 3 (by omega)).mono ?_
  rintro e w1 ⟨g, rfl, hl⟩
  have H := Lib.hid hl
  clear hl
  go_wp2_with fail
  refine (awake_any _).mono ?_
  rintro e w2 ⟨rfl, hb⟩
  replace H := Lib.hid (H.out.call hb)
  clear hb
  go_wp2_with fail
  go_loopw [5] (fun i wr => ∃ (k : Nat) (n : Nt (List UInt8)), k ≤ l.length ∧ k ≤ 30 ∧ i = .int .i64 (k : Int) ∧ n.sent ≤ k ∧ sLp w wr [] g n) (fun i _ => l.length - (intOf i).toNat)
  case atStart => exact ⟨0, _, by omega, by omega, rfl, Nat.le_refl _, H.out⟩
  case round =>
    obtain ⟨k, n, hk1, hk2, rfl, hsent, hl⟩ := hrel
    replace H := Lib.hid hl
    clear hl
    by_cases hlt : k < l.length ∧ k < 30
    · obtain ⟨h1, h2⟩ := hlt
      obtain ⟨v, hv⟩ : ∃ v, l[k]? = some v := ⟨_, List.getElem?_eq_getElem h1⟩
      have hga := HG.out v (List.mem_of_getElem? hv)
      have HGA := Lib.hid hga.few
      have HFEW := Lib.hid (few_any v hga.s)
      obtain ⟨b0, off, rfl, hb, hcc⟩ := (HS.out.below H.out.st.below).item encC_len (by omega) k v hv
      have q0 := hcc 0 _ rfl
      have q1 := hcc 1 _ rfl
      have q2 := hcc 2 _ rfl
      have q3 := hcc 3 _ rfl
      have q4 := hcc 4 _ rfl
      rw [Nat.add_zero] at q0
      clear hcc hv hga hb
      have i1 : (k : Int) < (l.length : Int) := by omega
      have i2 : (k : Int) < 30 := by omega
      go_wp2_with fail
      refine (HFEW.out _).mono ?_
      rintro e w5 ⟨rfl, hb2⟩
      have H2 := Lib.hid ((H.out.call hb2).other (.cells #[.int .i64 v.kind, .int .i64 v.a, .int .i64 v.b, .string (txt v.few.s), .bool v.off] 36))
      clear hb2 q0 q1 q2 q3 q4 HFEW
      by_cases hkd : v.kind = 0
      · rw [hkd] at H2 ⊢
        go_wp2_with fail
        refine (H2.out.ssend HGA.out.a HGA.out.b v.few.s (by omega)).mono ?_
        rintro e w6 ⟨rfl, hl⟩
        have H3 := Lib.hid hl
        have hsn := send_sent n v.few.a v.few.b v.few.s
        clear hl
        go_wp2_with fail
        go_roundw
        case rel => exact ⟨k + 1, _, by omega, by omega, by go_num, by omega, H3.out⟩
        case measure => simp [intOf]; omega
      · generalize v.kind = kd at *
        go_wp2_with fail
        go_roundw
        case rel => exact ⟨k + 1, n, by omega, by omega, by go_num, by omega, H2.out⟩
        case measure => simp [intOf]; omega
    · have hend : ((k : Int) < l.length ∧ k = 30) ∨ k = l.length := by omega
      rcases hend with ⟨h1, rfl⟩ | rfl
      all_goals
        go_wp2_with fail
        refine H.out.sletters.mono ?_
        rintro e w3 ⟨A1, cap1, R1, rfl, hca, hAa, htopa, hl, hown1, hlow1, hlast1⟩
        have H1 := Lib.hid hl
        have hlow1b : ∀ r ∈ R1, w.heap.size ≤ r.1 ∧ r.1 < w3.heap.size := fun r hr => ⟨Nat.le_trans H.out.st.below.size (hlow1 r hr), (hl.knows r (by simp [hr])).lt⟩
        have HT1 := Lib.hid (And.intro hlow1b (And.intro hown1 hlast1))
        clear hl hown1 hlow1 hlast1 hlow1b H
        go_wp2_with fail
        refine H1.out.sletters.mono ?_
        rintro e w4 ⟨A2, cap2, R2, rfl, hcb, hAb, htopb, hl, hown2, hlow2, hlast2⟩
        obtain ⟨Rw, hmine, hl2⟩ := Mine.told (L := R2) (by simpa using hl) H1.out.st.below.size hlow2 HT1.out.1 hAa hca htopa HT1.out.2.1 HT1.out.2.2
        have HB := Lib.hid hown2
        have H2 := Lib.hid hl2
        have HM := Lib.hid hmine
        have hfew := hl2.fine.few
        clear hl hl2 hmine hown2 hlow2 hlast2 HT1 H1
        generalize hun : n.under = us at *
        have HUN := Lib.hid hun
        clear hun
        go_wp2_with fail
        go_loopw [9] (fun i wr => ∃ (c : Nat) (Rw : List Row), c ≤ us.length ∧ i = .int .i64 (c : Int) ∧ Mine w Rw R2 A1 cap1 us.length ∧ sLp w wr (Rw ++ R2) g n) (fun i _ => us.length - (intOf i).toNat)
        case atStart => exact ⟨0, Rw, by omega, rfl, HM.out, H2.out⟩
        case round =>
          obtain ⟨c, Rw, hcl, rfl, hm, hl⟩ := hrel
          replace HM := Lib.hid hm
          replace H2 := Lib.hid hl
          clear hm hl
          by_cases hlt : c < us.length
          · obtain ⟨b, rfl, ⟨u0, t0⟩, ⟨u1, t1⟩, ⟨u2, t2⟩, ⟨u3, t3⟩, ⟨s0, s1, s2, s3⟩, hst⟩ := HM.out.store H2.out hlt
            obtain ⟨Rw', hm', hl'⟩ := hst (.int .i64 (-1)) (.int .i64 0) (.int .i64 0) (.string ⟨#[]⟩)
            have HM2 := Lib.hid hm'
            have H3 := Lib.hid hl'
            have i1 : (c : Int) < (us.length : Int) := by omega
            clear hst hm' hl' HM H2
            go_wp2_with fail
            go_roundw
            case rel => exact ⟨c + 1, Rw', by omega, by go_num, HM2.out, H3.out⟩
            case measure => simp [intOf]; omega
          · have hce : c = us.length := by omega
            subst hce
            have hl3 := H2.out.other (.cells #[.int .i64 (-2), .int .i64 0, .int .i64 0, .string ⟨#[]⟩] 47)
            obtain ⟨xs, ho⟩ := HM.out.own (fun r hr => hl3.knows r (List.mem_append.2 (.inl hr)))
            have HO := Lib.hid ho
            have H3 := Lib.hid hl3
            have hrm := own_slice0 ho
            clear ho hl3
            go_wp2_with (at_builtin; refine wpList_appG rfl (.tmp 66) (.tmp 68) _ 47 _ 4 40 rfl sinfo Try.underlying39 rfl (by decide) 0 _ us.length xs rfl HO.out (wr.heap.size + 1) (some ⟨wr.heap.size, 0, none⟩) 1 1 [.int .i64 (-2), .int .i64 0, .int .i64 0, .string ⟨#[]⟩] rfl (sees_new wr wr.heap.size rfl 4 47 [.int .i64 (-2), .int .i64 0, .int .i64 0, .string ⟨#[]⟩] rfl) (by intro h; cases h) (by intro u hu; simp at hu; rcases hu with rfl | rfl | rfl <;> rfl) (by omega) (by omega) (Nat.zero_le _) ?_)
            intro v5 w5 ho5 hg5
            obtain ⟨A5, cap5, rfl, -, -, -⟩ := own_slice0 ho5
            have H5 := Lib.hid (HM.out.append H3.out hg5)
            clear ho5 hg5 H2 HM H3 HO hrm
            go_wp2_with fail
            refine H5.out.sletters.mono ?_
            rintro e w6 ⟨A6, cap6, R6, rfl, hcc6, hA6, htop6, hl, hown6, -, -⟩
            rw [HUN.out] at hcc6 hown6 ⊢
            have H6 := Lib.hid hl
            have H6O := Lib.hid hown6
            clear hl hown6 H5
            go_wp2_with fail
            go_loopw [11] (fun i wr => ∃ (c : Nat), c ≤ us.length ∧ i = .int .i64 (c : Int) ∧ sLp w wr (R6 ++ R2) g n) (fun i _ => us.length - (intOf i).toNat)
            case atStart => exact ⟨0, by omega, rfl, H6.out⟩
            case round =>
              obtain ⟨c, hcl, rfl, hl⟩ := hrel
              replace H6 := Lib.hid hl
              by_cases hlt : c < us.length
              · obtain ⟨y, hy⟩ : ∃ y, us[c]? = some y := ⟨_, List.getElem?_eq_getElem hlt⟩
                have hoc := H6O.out wr (fun r hr => hl.knows r (List.mem_append.2 (.inl hr)))
                have hob := HB.out wr (fun r hr => hl.knows r (List.mem_append.2 (.inr hr)))
                obtain ⟨b6, rfl⟩ := row_some hoc (by omega)
                obtain ⟨b2, rfl⟩ := row_some hob (by omega)
                obtain ⟨⟨y0, y1, y2, y3⟩, -⟩ := own_letter hoc hy
                obtain ⟨⟨z0, z1, z2, z3⟩, -⟩ := own_letter hob hy
                have i1 : (c : Int) < (us.length : Int) := by omega
                clear hl hoc hob hy
                go_wp2_with fail
                obtain ⟨C, hC, HCC⟩ := one_class wr
                refine region_in C hC (by kernel_rfl) (by kernel_rfl) ?_
                iterate 9
                  (refine WQ.step (fun K hK => ?_)
                   go_simp
                   first
                     | (refine hK _ ?_; clear hK K)
                     | (apply Exists.intro
                        refine ⟨fun x hx => ?_, hK _ ?_⟩
                        · first
                            | rfl
                            | (rw [HCC.out _ hx]
                               go_simp
                               exact ⟨rfl, rfl⟩)
                            | (rw [HCC.out _ hx]
                               go_simp
                               rfl)
                        clear hK K))
                refine WQ.nil ?_
                intro y hy
                rw [HCC.out _ hy]
                clear hy hC HCC C
                go_wp2_with fail
                go_roundw
                case rel => exact ⟨c + 1, by omega, by go_num, H6.out.drewN 1⟩
                case measure => simp [intOf]; omega
              · have hce : c = us.length := by omega
                subst hce
                go_wp2_with fail
                go_ret
                exact ⟨rfl, H6.out.st.below⟩

set_option maxRecDepth 100000 in
theorem lifted (os : Os) (started : os.Started) (H : Type) (enc : TypeId × Value → H) :
    ReturnsInHanded {} Try.checked os 7 .any (Rows.postOwnSpec.pre6 enc Try.prog Try.f7 Rows.postOwnRow.domain false) (Rows.postOwnSpec.post enc Try.prog Try.f7 false true false false) := by
  refine returnsInHanded_of_change (C := Try.checked) own started (by kernel_rfl) Try.func7
    (ChangeSpec.witness6 (enc := enc) (C := Try.checked) false ⟨#[], #[.slice none 0 0], []⟩ 8 (by kernel_rfl) (by kernel_rfl) (by kernel_rfl) (by kernel_rfl)) ?_
  intro W base args ds gs before hval0 hW hcnd _
  have hval : ∀ (j : Nat) t v, Try.f7.params[j]? = some t → args[j]? = some v → Value.okWide Try.prog W .any base t v := hval0
  have hW' := hW
  obtain ⟨p, q, hA0, hV, rfl, hfz, hnd⟩ := hW
  have hA : DataW.TrodAll enc Try.prog W 0 (fun _ => true) true Try.f7.params.toList args.toList ds p := hA0
  rw [Try.params7] at hA hval
  obtain ⟨v0, vs0, d0, ds0, p0, q0, hargs, rfl, rfl, h0, r0⟩ := trodAll_cons hA
  obtain ⟨rfl, rfl, rfl⟩ := trodAll_nil r0
  obtain rfl : args = #[v0] := by cases args; simp_all
  obtain ⟨rfl, rfl⟩ := trodVars_none hV
  obtain ⟨A0, len0, cap0, rfl⟩ := okWide_slice Try.underlying22 (hval 0 22 v0 rfl rfl)
  obtain ⟨l0, w0⟩ := open_posts h0
  have lt0 : ∀ x ∈ p0, x.block < W.heap.size := by obtain ⟨m, hm⟩ := h0; exact DataW.trod_lt m _ _ _ hm
  clear hA0 hval0
  simp only [List.append_nil] at hW'
  refine (walk A0 len0 cap0 l0 W w0).mono fun e W' ⟨he, bel⟩ => ?_
  subst he
  exact ⟨_, rfl, _, _, _, [], _, [], hW', trodAll_mk1 (shut_bool Try.underlying4 _), (trodAll_cons_mk (Below.trod laidOut (by kernel_rfl) (of_decide_eq_true (by kernel_rfl)) h0 bel lt0) trodAll_mk0), rfl, bel.frame _, fun h => by cases h⟩

theorem proved : Rows.PostOwnSaid :=
  OpenClaim.holds_of_wide 7 Try.f7 rfl rfl rfl rfl rfl rfl rfl ⟨rfl, rfl, rfl, rfl, rfl⟩ rfl rfl rfl rfl rfl (by kernel_rfl) Try.func7 (by kernel_rfl)
    (of_decide_eq_true (by kernel_rfl)) (by unfold Func.isWrapper; first | (rw [if_pos (by decide +kernel)]; kernel_rfl) | (rw [if_neg (by decide +kernel)]; exact ⟨rfl, rfl⟩))
    (fun os started H enc _ => lifted os started H enc)
#print axioms proved
end Go.Proofs.Ytilnhelkkmhfhaa.postOwn
