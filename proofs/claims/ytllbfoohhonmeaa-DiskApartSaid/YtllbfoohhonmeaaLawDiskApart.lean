/- What is done to one log changes no other one: moietylaw07.DiskApart answers true. For every two lists of acts; no conditions. -/
import Derived.Test.YtllbfoohhonmeaaDiskP
namespace Go.Proofs.Ytllbfoohhonmeaa.diskApart
open Go.ChangeShapes Go.WideShapes Go.ChangeAt Go.RowKit Go.Dk
set_option linter.unusedVariables false
set_option linter.unusedSimpArgs false

theorem check_one (d : D) (h1 : d.logs.length = 3) (h2 : d.down = false) (log : Int) (h3 : 0 ≤ log) (h4 : log < 3) : d.check log = 0 := by unfold D.check; rw [h1, if_pos ⟨h3, h4⟩, if_neg (by simp [h2])]
theorem act_of (d : D) (h0 : d.ahead = 0) (log k : Int) (hk : k ≠ log) (size : Nat) (c : Lg) : (d.act log size c).1.of k = d.of k := by
  unfold D.act; split
  · rfl
  · rename_i hc
    split
    · rfl
    · rw [if_neg (by omega)]
      have hin : 0 ≤ log := by
        have hc : d.check log = 0 := by simpa using hc
        unfold D.check at hc
        split at hc
        · rename_i h; exact h.1
        · cases hc
      unfold D.of D.done
      simp only [List.length_set]
      split
      · rename_i h
        rw [List.getD_eq_getElem?_getD, List.getD_eq_getElem?_getD, List.getElem?_set_ne (by omega)]
      · rfl

set_option maxRecDepth 100000 in
set_option maxHeartbeats 4000000 in
theorem walk (A : Option Addr) (len cap : Nat) (l : List Ac) (A2 : Option Addr) (len2 cap2 : Nat) (m : List Ac) (w : World) (hL : IsR w A len cap 5 encA (GA w) l) (hM : IsR w A2 len2 cap2 5 encA (GA w) m) :
    Calls Try.prog 6 #[.slice A len cap, .slice A2 len2 cap2] w fun r w' => r = .returned (.bool true) ∧ Below w.heap.size w w' := by
  have hlen := hL.count
  subst hlen
  have HMADE := Lib.hid (made_any A cap l w hL)
  obtain ⟨hlen, hs, hc1, hc2, hn, hg⟩ := hM
  subst hlen
  have HS := Lib.hid hs
  have HG := Lib.hid hg
  clear hs hg hn hL
  go_enter Try.func6, Try.ntmps6
  go_wp2_with fail
  refine HMADE.out.mono ?_
  rintro e w1 ⟨g, d0, rfl, hl, hfit0⟩
  have H := Lib.hid hl
  have HF0 := Lib.hid hfit0
  clear hl hfit0 HMADE
  go_wp2_with fail
  refine (awake_any _).mono ?_
  rintro e w2 ⟨rfl, hb⟩
  replace H := Lib.hid (H.out.call hb)
  clear hb
  go_wp2_with fail
  have HC0 := Lib.hid (check_one d0 HF0.out.len HF0.out.down 1 (by omega) (by omega))
  refine (H.out.read (w64 1 (by omega))).mono ?_
  rintro e w3 ⟨v, rfl, ho, hb⟩
  rw [HC0.out]
  obtain ⟨A0, cap0, R, rfl, hA, hcap, hl, hown⟩ := H.out.own hb ho
  have HN := Lib.hid hown
  have HRD : Hid (d0.read 1 = (d0.of 1).all) := Lib.hid (by unfold D.read; rw [if_pos HC0.out])
  rw [HRD.out] at HN ⊢
  replace H : Hid (Lw w w3 R g d0) := Lib.hid (by simpa using hl)
  clear hl ho hb hown
  go_wp2_with fail
  refine (H.out.sure (w64 1 (by omega))).mono ?_
  rintro e w4 ⟨rfl, hb⟩
  replace H := Lib.hid (H.out.call hb)
  clear hb
  generalize hof : d0.of 1 = c0 at *
  have HOF := Lib.hid hof
  clear hof
  go_wp2_with fail
  go_loopw [9] (fun i wr => ∃ (n : Nat) (d : D), n ≤ m.length ∧ n ≤ 30 ∧ i = .int .i64 (n : Int) ∧ Fit d (n + 30) ∧ d.of 1 = c0 ∧ Lw w wr R g d) (fun i _ => m.length - (intOf i).toNat)
  case atStart => exact ⟨0, d0, by omega, by omega, rfl, HF0.out.more (by omega), HOF.out, H.out⟩
  case round =>
    obtain ⟨n, d, hn1, hn2, rfl, hfit, hof, hl⟩ := hrel
    replace H := Lib.hid hl
    have HF := Lib.hid hfit
    replace HOF := Lib.hid hof
    have hacts := hfit.acts
    have hah := hfit.ahead
    clear hl hfit hof
    by_cases hlt : n < m.length ∧ n < 30
    · obtain ⟨h1, h2⟩ := hlt
      obtain ⟨v, hv⟩ : ∃ v, m[n]? = some v := ⟨_, List.getElem?_eq_getElem h1⟩
      have hga := HG.out v (List.mem_of_getElem? hv)
      have HGA := Lib.hid hga.few
      have HFEW := Lib.hid (few_any v hga.room hga.top hga.s)
      have hfs : v.few.s.length ≤ 2000 := by show (v.s.take 2000).length ≤ _; rw [List.length_take]; omega
      obtain ⟨b0, off, rfl, hb, hcc⟩ := (HS.out.below H.out.st.below).item encA_len (by omega) n v hv
      have q0 := hcc 0 _ rfl
      have q1 := hcc 1 _ rfl
      have q2 := hcc 2 _ rfl
      have q3 := hcc 3 _ rfl
      have q4 := hcc 4 _ rfl
      rw [Nat.add_zero] at q0
      clear hcc hv hga
      have hea : (encA v).toArray = #[.int .i64 v.kind, .int .i64 v.log, .int .i64 v.n, .string (txt v.s), .slice v.A v.keep.length v.cap] := rfl
      rw [hea] at HFEW
      have i1 : (n : Int) < (m.length : Int) := by omega
      have i2 : (n : Int) < 30 := by omega
      generalize v.few = u at *
      have heb : (encA u).toArray = #[.int .i64 u.kind, .int .i64 u.log, .int .i64 u.n, .string (txt u.s), .slice u.A u.keep.length u.cap] := rfl
      rw [heb] at HFEW
      clear hea heb
      have hlg := HGA.out.log
      have HLG := Lib.hid hlg
      clear hlg
      go_wp2_with fail
      refine (HFEW.out _).mono ?_
      rintro e w5 ⟨rfl, hb2⟩
      have H2 := Lib.hid ((H.out.call hb2).alloc w5.heap.size rfl 36 #[.int .i64 u.kind, .int .i64 u.log, .int .i64 u.n, .string (txt u.s), .slice u.A u.keep.length u.cap])
      obtain ⟨tc, w6, htr, hin, htb⟩ := text_run u.s (by omega) (w5.alloc (.cells #[.int .i64 u.kind, .int .i64 u.log, .int .i64 u.n, .string (txt u.s), .slice u.A u.keep.length u.cap] 36))
      have HIN := Lib.hid hin
      have HTB := Lib.hid htb
      have hsz : (w5.alloc (.cells #[.int .i64 u.kind, .int .i64 u.log, .int .i64 u.n, .string (txt u.s), .slice u.A u.keep.length u.cap] 36)).heap.size = w5.heap.size + 1 := by simp
      rw [hsz] at htr HIN
      clear q0 q1 q2 q3 q4 hb2 hin htb HFEW hsz
      have kinds : u.log = 1 ∨ (u.log ≠ 1 ∧ (u.kind = 0 ∨ u.kind = 1 ∨ u.kind = 2 ∨ (u.kind ≠ 0 ∧ u.kind ≠ 1 ∧ u.kind ≠ 2))) := by omega
      generalize u.kind = kd at *
      generalize u.log = lg at *
      rcases kinds with rfl | ⟨k9, rfl | rfl | rfl | ⟨k0, k1, k2⟩⟩
      · have H4 := Lib.hid (H2.out.few (L' := R) (fun r hr => List.mem_cons_of_mem _ hr))
        go_wp2_with fail
        go_roundw
        case rel => exact ⟨n + 1, d, by omega, by omega, by go_num, HF.out.more (by omega), HOF.out, H4.out⟩
        case measure => simp [intOf]; omega
      · have HO4 : Hid ((d.append lg u.s).1.of 1 = c0) := Lib.hid ((act_of d hah lg 1 (Ne.symm k9) _ _).trans HOF.out)
        go_wp2_with fail
        refine ((H2.out.call HTB.out).append HLG.out (by omega) (by omega) HIN.out).mono ?_
        rintro e w7 ⟨rfl, hl⟩
        have H4 := Lib.hid (hl.few (L' := R) (fun r hr => List.mem_cons_of_mem _ hr))
        have HF4 := Lib.hid (HF.out.append lg u.s)
        clear hl
        generalize (d.append lg u.s).1 = d4 at *
        go_wp2_with fail
        go_roundw
        case rel => exact ⟨n + 1, d4, by omega, by omega, by go_num, HF4.out.more (by omega), HO4.out, H4.out⟩
        case measure => simp [intOf]; omega
      · have HO4 : Hid ((d.sync lg).1.of 1 = c0) := Lib.hid ((act_of d hah lg 1 (Ne.symm k9) _ _).trans HOF.out)
        go_wp2_with fail
        refine (H2.out.sync HLG.out (by omega)).mono ?_
        rintro e w7 ⟨rfl, hl⟩
        have H4 := Lib.hid (hl.few (L' := R) (fun r hr => List.mem_cons_of_mem _ hr))
        have HF4 := Lib.hid (HF.out.sync lg)
        clear hl
        generalize (d.sync lg).1 = d4 at *
        go_wp2_with fail
        go_roundw
        case rel => exact ⟨n + 1, d4, by omega, by omega, by go_num, HF4.out.more (by omega), HO4.out, H4.out⟩
        case measure => simp [intOf]; omega
      · have HO4 : Hid ((d.swap lg u.s).1.of 1 = c0) := Lib.hid ((act_of d hah lg 1 (Ne.symm k9) _ _).trans HOF.out)
        go_wp2_with fail
        refine ((H2.out.call HTB.out).swap HLG.out (by omega) HIN.out).mono ?_
        rintro e w7 ⟨rfl, hl⟩
        have H4 := Lib.hid (hl.few (L' := R) (fun r hr => List.mem_cons_of_mem _ hr))
        have HF4 := Lib.hid (HF.out.swap lg u.s)
        clear hl
        generalize (d.swap lg u.s).1 = d4 at *
        go_wp2_with fail
        go_roundw
        case rel => exact ⟨n + 1, d4, by omega, by omega, by go_num, HF4.out.more (by omega), HO4.out, H4.out⟩
        case measure => simp [intOf]; omega
      · have H4 := Lib.hid (H2.out.few (L' := R) (fun r hr => List.mem_cons_of_mem _ hr))
        go_wp2_with fail
        go_roundw
        case rel => exact ⟨n + 1, d, by omega, by omega, by go_num, HF.out.more (by omega), HOF.out, H4.out⟩
        case measure => simp [intOf]; omega
    · have HC1 := Lib.hid (check_one d HF.out.len HF.out.down 1 (by omega) (by omega))
      have HR1 : Hid (d.read 1 = c0.all) := Lib.hid (by unfold D.read; rw [if_pos HC1.out, HOF.out])
      have hend : ((n : Int) < m.length ∧ n = 30) ∨ n = m.length := by omega
      rcases hend with ⟨h1, rfl⟩ | rfl
      all_goals
        go_wp2_with fail
        refine (H.out.read (w64 1 (by omega))).mono ?_
        rintro e w5 ⟨v, rfl, ho, hb⟩
        rw [HC1.out]
        rw [HR1.out] at ho
        obtain ⟨A5, cap5, R5, rfl, hA5, hcap5, hl, hown5⟩ := H.out.own hb ho
        have H5 : Hid (Lw w w5 (R5 ++ R) g d) := Lib.hid hl
        have hc1 := conv_bytes c0.all A0 cap0 _ w5 ((HN.out w5 (fun r hr => hl.knows r (List.mem_append.2 (.inr hr)))).sees rfl)
        have hc2 := conv_bytes c0.all A5 cap5 _ w5 ((hown5 w5 (fun r hr => hl.knows r (List.mem_append.2 (.inl hr)))).sees rfl)
        clear hl ho hb hown5
        go_wp2_with fail
        refine (H5.out.sure (w64 1 (by omega))).mono ?_
        rintro e w6 ⟨rfl, hb⟩
        rw [HOF.out]
        replace H5 := Lib.hid (H5.out.call hb)
        clear hb
        go_wp2_with fail
        go_ret
        exact ⟨rfl, H5.out.st.below⟩

set_option maxRecDepth 100000 in
theorem lifted (os : Os) (started : os.Started) (H : Type) (enc : TypeId × Value → H) :
    ReturnsInHanded {} Try.checked os 6 .any (Rows.diskApartSpec.pre6 enc Try.prog Try.f6 Rows.diskApartRow.domain false) (Rows.diskApartSpec.post enc Try.prog Try.f6 false true false false) := by
  refine returnsInHanded_of_change (C := Try.checked) own started (by kernel_rfl) Try.func6
    (ChangeSpec.witness6 (enc := enc) (C := Try.checked) false ⟨#[], #[.slice none 0 0, .slice none 0 0], []⟩ 8 (by kernel_rfl) (by kernel_rfl) (by kernel_rfl) (by kernel_rfl)) ?_
  intro W base args ds gs before hval0 hW hcnd _
  have hval : ∀ (j : Nat) t v, Try.f6.params[j]? = some t → args[j]? = some v → Value.okWide Try.prog W .any base t v := hval0
  have hW' := hW
  obtain ⟨p, q, hA0, hV, rfl, hfz, hnd⟩ := hW
  have hA : DataW.TrodAll enc Try.prog W 0 (fun _ => true) true Try.f6.params.toList args.toList ds p := hA0
  rw [Try.params6] at hA hval
  obtain ⟨v0, vs0, d0, ds0, p0, q0, hargs, rfl, rfl, h0, r0⟩ := trodAll_cons hA
  obtain ⟨v1, vs1, d1, ds1, p1, q1, rfl, rfl, rfl, h1, r1⟩ := trodAll_cons r0
  obtain ⟨rfl, rfl, rfl⟩ := trodAll_nil r1
  obtain rfl : args = #[v0, v1] := by cases args; simp_all
  obtain ⟨rfl, rfl⟩ := trodVars_none hV
  obtain ⟨A0, len0, cap0, rfl⟩ := okWide_slice Try.underlying22 (hval 0 22 v0 rfl rfl)
  obtain ⟨l0, w0⟩ := open_acts h0
  have lt0 : ∀ x ∈ p0, x.block < W.heap.size := by obtain ⟨m, hm⟩ := h0; exact DataW.trod_lt m _ _ _ hm
  obtain ⟨A1, len1, cap1, rfl⟩ := okWide_slice Try.underlying22 (hval 1 22 v1 rfl rfl)
  obtain ⟨l1, w1⟩ := open_acts h1
  have lt1 : ∀ x ∈ p1, x.block < W.heap.size := by obtain ⟨m, hm⟩ := h1; exact DataW.trod_lt m _ _ _ hm
  clear hA0 hval0
  simp only [List.append_nil] at hW'
  refine (walk A0 len0 cap0 l0 A1 len1 cap1 l1 W w0 w1).mono fun e W' ⟨he, bel⟩ => ?_
  subst he
  exact ⟨_, rfl, _, _, _, [], _, [], hW', trodAll_mk1 (shut_bool Try.underlying4 _), (trodAll_cons_mk (Below.trod laidOut (by kernel_rfl) (of_decide_eq_true (by kernel_rfl)) h0 bel lt0) (trodAll_cons_mk (Below.trod laidOut (by kernel_rfl) (of_decide_eq_true (by kernel_rfl)) h1 bel lt1) trodAll_mk0)), rfl, bel.frame _, fun h => by cases h⟩

theorem proved : Rows.DiskApartSaid :=
  OpenClaim.holds_of_wide 6 Try.f6 rfl rfl rfl rfl rfl rfl rfl ⟨rfl, rfl, rfl, rfl, rfl⟩ rfl rfl rfl rfl rfl (by kernel_rfl) Try.func6 (by kernel_rfl)
    (of_decide_eq_true (by kernel_rfl)) (by unfold Func.isWrapper; first | (rw [if_pos (by decide +kernel)]; kernel_rfl) | (rw [if_neg (by decide +kernel)]; exact ⟨rfl, rfl⟩))
    (fun os started H enc _ => lifted os started H enc)
#print axioms proved
end Go.Proofs.Ytllbfoohhonmeaa.diskApart
