/- Of any bytes in a log just the frames are opened with which they begin, and the rest is taken off: moietylaw08.WalOpens answers true. For every text and number; no conditions. -/
import Derived.Test.YtpfpaebbkolpkaaWalB
namespace Go.Proofs.Ytpfpaebbkolpkaa.walOpens
open Go.ChangeShapes Go.WideShapes Go.ChangeAt Go.RowKit Go.Dk Go.Fm Go.Wl
set_option linter.unusedVariables false
set_option linter.unusedSimpArgs false

theorem put_facts (s : List UInt8) (hs : s.length ≤ 3000) : ∃ d1 : D, (D.new 3).append 2 s = (d1, 0) ∧ Ok d1 ∧ d1.acts = 1 ∧ d1.ahead = 0 ∧ d1.down = false ∧ d1.logs.length = 3 ∧ (d1.of 2).all = s ∧ (∀ k : Int, k ≠ 2 → d1.of k = ⟨[], 0⟩) := by
  have hof : ∀ k : Int, (D.new 3).of k = ⟨[], 0⟩ := fun k => by
    rcases (D.new 3).number k with h | ⟨i, c, rfl, h⟩
    · exact D.of_out h
    · rw [D.of_in h]
      simp only [D.new] at h
      rw [List.getElem?_replicate] at h
      split at h
      · injection h with h; exact h.symm
      · cases h
  have e : (D.new 3).append 2 s = ((D.new 3).done 2 ⟨s, 0⟩, 0) := by
    have := act_ok (d := D.new 3) (log := 2) (size := s.length) (c := ⟨s, 0⟩) rfl (by omega) (by decide)
    unfold D.append
    rw [hof 2]
    simpa using this
  refine ⟨_, e, ?_, rfl, rfl, rfl, rfl, rfl, fun k hk => ?_⟩
  · have := (Ok.new (n := 3) (by omega) (by omega)).append 2 s
    rwa [e] at this
  · unfold D.of
    split
    · rename_i h
      have h3 : ((D.new 3).done 2 ⟨s, 0⟩).logs = [⟨[], 0⟩, ⟨[], 0⟩, ⟨s, 0⟩] := rfl
      rw [h3] at h ⊢
      have : k.toNat = 0 ∨ k.toNat = 1 := by simp at h; omega
      rcases this with e | e <;> rw [e] <;> rfl
    · rfl

set_option maxRecDepth 100000 in
set_option maxHeartbeats 8000000 in
theorem walk (l : List UInt8) (hl0 : l.length ≤ 9223372036854775807) (log : Int) (hlog : -9223372036854775808 ≤ log ∧ log ≤ 9223372036854775807) (w : World) :
    Calls Try.prog 4 #[.string (txt l), .int .i64 log] w fun r w' => r = .returned (.bool true) ∧ Below w.heap.size w w' := by
  have hsz : (txt l).size = l.length := txt_size l
  have hlong : (3000 : Int) < l.length ∨ ¬ (3000 : Int) < l.length := by omega
  obtain ⟨s, hs⟩ : ∃ s, s = l.take 3000 := ⟨_, rfl⟩
  have hsl : s.length ≤ 3000 := by rw [hs, List.length_take]; omega
  have HEX : Hid ((txt l).extract 0 3000 = txt s) := Lib.hid (by
    rw [hs]
    unfold txt
    apply ByteArray.ext
    simp)
  have HEQ : Hid (¬ (3000 : Int) < l.length → txt l = txt s) := Lib.hid fun h => by rw [hs, List.take_of_length_le (by omega)]
  obtain ⟨d1, e1, ok1, a1, h1, dn1, n1, o2, o0⟩ := put_facts s hsl
  have E1 := Lib.hid e1
  have OK := Lib.hid ok1
  have A1 := Lib.hid a1
  have N1 := Lib.hid n1
  have O2 := Lib.hid o2
  have O0 := Lib.hid o0
  have D1 := Lib.hid dn1
  have AH := Lib.hid h1
  have A0 : Hid ((D.new 3).acts = 0) := Lib.hid rfl
  have HNEW := Lib.hid (fun (w : World) => new_lw (St.start w) 3 (by omega) (by omega))
  have LOG := Lib.hid hlog
  clear e1 ok1 a1 h1 dn1 n1 o2 o0 hs hlog
  generalize D.new 3 = d0 at *
  go_enter Try.func4, Try.ntmps4
  go_wp2_with fail
  refine (HNEW.out _).mono ?_
  rintro e w1 ⟨g, rfl, hl⟩
  have H : Hid (Lw w w1 [] g d0) := Lib.hid hl
  clear hl HNEW
  go_wp2_with fail
  refine (awake_any _).mono ?_
  rintro e w2 ⟨rfl, hb⟩
  replace H := Lib.hid (H.out.call hb)
  clear hb
  obtain ⟨c, w3, hcv, hin, hb⟩ := text_bytes s (by omega) w2
  have HC1 := Lib.hid ((H.out.call hb).append (w64 2 (by omega)) (by omega) (by rw [A0.out]; omega) hin)
  rw [E1.out] at HC1
  clear hin hb H
  have key : ((3000 : Int) < l.length ∧ (txt l).extract 0 3000 = txt s) ∨ (¬ (3000 : Int) < l.length ∧ txt l = txt s) := by
    rcases hlong with h | h
    · exact .inl ⟨by omega, HEX.out⟩
    · exact .inr ⟨by omega, HEQ.out (by omega)⟩
  clear hlong HEX HEQ
  rcases key with ⟨hlong, hex⟩ | ⟨hlong, hex⟩
  all_goals
    first
      | (rw [show txt l = txt s from hex] at hsz ⊢; clear hex)
      | skip
    go_wp2_with fail
    refine HC1.out.mono ?_
    rintro e w4 ⟨rfl, hl⟩
    have H := Lib.hid hl
    clear hl HC1 hcv hlong hsz
    try clear hex
    have hsz : (txt s).size = s.length := txt_size s
    have HAC : Hid (d1.acts + 1 ≤ 9223372036854775807) := Lib.hid (by rw [A1.out]; omega)
    rcases (show (log < 0 ∨ 2 < log) ∨ (0 ≤ log ∧ log < 2) ∨ log = 2 by omega) with hc | hc | hc
    · have hop : opens d1 log = (d1, 70) := by
        have : d1.check log = 70 := by unfold D.check; rw [if_neg (by rw [N1.out]; omega)]
        rw [opens_check d1 log (by rw [this]; simp), this]
      have HC2 := Lib.hid (H.out.wopenE LOG.out HAC.out (by rw [hop]; simp))
      rw [hop] at HC2
      clear hop
      go_wp2_with fail
      refine HC2.out.mono ?_
      rintro e w5 ⟨rfl, hl⟩
      replace H := Lib.hid hl
      clear hl HC2
      rcases hc with hc | hc
      · go_wp2_with fail
        go_ret
        exact ⟨rfl, H.out.st.below⟩
      · have hc2 : ¬ log < 0 := by omega
        go_wp2_with fail
        go_ret
        exact ⟨rfl, H.out.st.below⟩
    · have hr : Runs d1 log ⟨[], 0⟩ := ⟨OK.out, ⟨by rw [N1.out]; omega, by rw [O0.out log (by omega)]; rfl, by rw [O0.out log (by omega)]; rfl, (fun x hx => by cases hx), Nat.le_refl _⟩, D1.out⟩
      obtain ⟨e5, e6⟩ := opens_again hr.fits rfl D1.out
      have HC2 := Lib.hid (H.out.wopen LOG.out HAC.out (by rw [e5]))
      rw [e5, e6] at HC2
      simp only [List.length_nil] at HC2
      clear hr e5 e6
      obtain ⟨hca, hcb⟩ := hc
      have hc1 : ¬ log < 0 := by omega
      have hc2 : ¬ 2 < log := by omega
      go_wp2_with fail
      refine HC2.out.mono ?_
      rintro e w5 ⟨p, h, R, rfl, hl, -⟩
      have HB5 := Lib.hid hl.st.below
      clear hl HC2
      go_wp2_with fail
      go_ret
      exact ⟨rfl, HB5.out⟩
    · subst hc
      have hop : (opens d1 2).2 = 0 := opens_ok OK.out (by rw [N1.out]; omega) D1.out (by rw [AH.out]; omega)
      have hrun := opened_runs OK.out hop
      have hac2 := opens_acts d1 2
      rw [A1.out] at hac2
      rw [O2.out] at hrun
      have HC2 := Lib.hid (H.out.wopen LOG.out HAC.out hop)
      rw [O2.out] at HC2
      have htk : s.take (scan s).2 = frames (scan s).1 := scan_take s
      have hle := scan_le s
      have HRS := Lib.hid (fun w0 => rscan_any s w0 (by omega))
      unfold RScans at HRS
      have hex2 : (txt s).extract 0 (scan s).2 = txt (frames (scan s).1) := by
        rw [← htk]
        unfold txt
        apply ByteArray.ext
        simp
      have HRUN := Lib.hid hrun
      have HN : Hid ((scan s).2 = (frames (scan s).1).length) := Lib.hid (scan_whole _ s (Nat.le_refl _)).2.1
      clear hop hrun htk
      generalize (opens d1 2).1 = d2 at *
      generalize (scan s).1 = ls at *
      generalize (scan s).2 = n at *
      go_wp2_with fail
      refine HC2.out.mono ?_
      rintro e w5 ⟨p, h, R, rfl, hl, -, -, -, ht⟩
      have HT := Lib.hid ht
      replace H := Lib.hid hl
      clear hl ht HC2
      go_wp2_with fail
      refine (HRS.out _).mono ?_
      rintro e w6 ⟨v6, rfl, ho, hb⟩
      obtain ⟨A6, c6, rfl, i61, i62, -⟩ := own_slice0 ho
      obtain ⟨R2, ow2, hl, -⟩ := H.out.owned hb ho
      have OW2 := Lib.hid ow2
      replace H := Lib.hid hl
      clear hb ho hl ow2 HRS
      have hch := HRUN.out.check
      have hrd : d2.read 2 = frames ls := by unfold D.read; rw [if_pos hch]; exact HRUN.out.fits.all
      have hsu : (d2.of 2).sure = (frames ls).length := by rw [HRUN.out.fits.sure, List.take_length]
      have HRE := Lib.hid (H.out.read (w64 2 (by omega)))
      rw [hch, hrd] at HRE
      have HSU : Hid ((d2.of 2).sure = (frames ls).length) := Lib.hid hsu
      clear hch hrd hsu
      go_wp2_with fail
      refine HRE.out.mono ?_
      rintro e w7 ⟨v7, rfl, ho, hb⟩
      obtain ⟨A7, c7, rfl, i71, i72, -⟩ := own_slice0 ho
      obtain ⟨R3, ow3, hl, -⟩ := H.out.owned hb ho
      have OW3 := Lib.hid ow3
      replace H := Lib.hid hl
      clear hb ho hl ow3 HRE
      obtain ⟨C, hC, HCc, HCf⟩ := H.out.class
      have KN : Hid (∀ x, C x → Knows x R ∧ Knows x R2 ∧ Knows x R3) := Lib.hid fun x hx => by
        have hk := (HCf.out x hx).knows
        exact ⟨fun r hr => hk r (by simp [hr]), fun r hr => hk r (by simp [hr]), fun r hr => hk r (by simp [hr])⟩
      have HSAME : Hid (∀ x, C x → Calls Try.prog 27 #[.slice (some ⟨h, 0, none⟩) ls.length ls.length, .slice A6 ls.length c6] x fun e w' => e = .returned (.bool true) ∧ Below x.heap.size x w') := Lib.hid fun x hx => by
        obtain ⟨k1, k2, k3⟩ := KN.out x hx
        have := same_any x.heap.size x.heap.size (some ⟨h, 0, none⟩) A6 ls.length c6 ls ls x (by omega) (HT.out.shows x k1) (OW2.out.sees rfl k2) (Nat.le_refl _) (Nat.le_refl _)
        rwa [decide_eq_true rfl] at this
      have HSURE : Hid (∀ x, C x → Calls Try.prog 28 #[ptr g, .int .i64 2] x fun e w' => e = .returned (.int .i64 n) ∧ Below x.heap.size x w') := Lib.hid fun x hx => by
        have := (HCf.out x hx).sure (w64 2 (by omega))
        rwa [HSU.out, ← HN.out] at this
      have HWR : Hid (∀ x, C x → Whole x p 89 (wcells g ((⟨ls, ls.length⟩ : Wk).wv 2))) := Lib.hid fun x hx => (HCf.out x hx).knows (wrow p g ((⟨ls, ls.length⟩ : Wk).wv 2)) (by simp)
      have HLEN : Hid (∀ x, C x → Calls Try.prog 17 #[ptr p] x fun e w' => e = .returned (.int .i64 ls.length) ∧ w' = x) := Lib.hid fun x hx => len_any p g _ x (HWR.out x hx)
      have HWS : Hid (∀ x, C x → Calls Try.prog 18 #[ptr p] x fun e w' => e = .returned (.int .i64 ls.length) ∧ w' = x) := Lib.hid fun x hx => wsure_any p g _ x (HWR.out x hx)
      have HCV : Hid (∀ x, C x → (convert 52 9 (.slice A7 (frames ls).length c7)).run Try.prog x = .ok (.string (txt (frames ls))) x) := Lib.hid fun x hx => conv_bytes (frames ls) A7 c7 x.heap.size x (Sees.own (OW3.out.1 x (KN.out x hx).2.2))
      have HBL : Hid (∀ x, C x → Below w.heap.size w x) := Lib.hid fun x hx => (HCf.out x hx).st.below
      go_wp2_with fail
      refine region_in C hC (by kernel_rfl) (by kernel_rfl) ?_
      iterate 44
        (refine WQ.step (fun K hK => ?_)
         go_simp
         first
           | (refine hK _ ?_; clear hK K)
           | (apply Exists.intro
              refine ⟨fun x hx => ?_, hK _ ?_⟩
              · first
                  | rfl
                  | (go_at_call 27; refine (HSAME.out _ hx).mono ?_; rintro e x1 ⟨rfl, hb⟩; exact ⟨rfl, HCc.out _ _ hx hb⟩)
                  | (go_at_call 28; refine (HSURE.out _ hx).mono ?_; rintro e x1 ⟨rfl, hb⟩; exact ⟨rfl, HCc.out _ _ hx hb⟩)
                  | (go_at_call 17; refine (HLEN.out _ hx).mono ?_; rintro e x1 ⟨rfl, rfl⟩; exact ⟨rfl, hx⟩)
                  | (go_at_call 18; refine (HWS.out _ hx).mono ?_; rintro e x1 ⟨rfl, rfl⟩; exact ⟨rfl, hx⟩)
                  | (have k := HCV.out _ hx
                     go_simp
                     rfl)
              clear hK K))
      refine WQ.nil ?_
      intro y hy
      have HB := Lib.hid (HBL.out y hy)
      clear hy hC HCc HCf HSAME HSURE HLEN HWS HCV HBL HWR KN C
      go_wp2_with fail
      go_ret
      exact ⟨rfl, HB.out⟩

set_option maxRecDepth 100000 in
theorem lifted (os : Os) (started : os.Started) (H : Type) (enc : TypeId × Value → H) :
    ReturnsInHanded {} Try.checked os 4 .any (Rows.walOpensSpec.pre6 enc Try.prog Try.f4 Rows.walOpensRow.domain false) (Rows.walOpensSpec.post enc Try.prog Try.f4 false true false false) := by
  refine returnsInHanded_of_change (C := Try.checked) own started (by kernel_rfl) Try.func4
    (ChangeSpec.witness6 (enc := enc) (C := Try.checked) false ⟨#[], #[.string ⟨#[]⟩, .int .i64 0], []⟩ 8 (by kernel_rfl) (by kernel_rfl) (by kernel_rfl) (by kernel_rfl)) ?_
  intro W base args ds gs before hval0 hW hcnd _
  have hval : ∀ (j : Nat) t v, Try.f4.params[j]? = some t → args[j]? = some v → Value.okWide Try.prog W .any base t v := hval0
  have hW' := hW
  obtain ⟨p, q, hA0, hV, rfl, hfz, hnd⟩ := hW
  have hA : DataW.TrodAll enc Try.prog W 0 (fun _ => true) true Try.f4.params.toList args.toList ds p := hA0
  rw [Try.params4] at hA hval
  obtain ⟨v0, vs0, d0, ds0, p0, q0, hargs, rfl, rfl, h0, r0⟩ := trodAll_cons hA
  obtain ⟨v1, vs1, d1, ds1, p1, q1, rfl, rfl, rfl, h1, r1⟩ := trodAll_cons r0
  obtain ⟨rfl, rfl, rfl⟩ := trodAll_nil r1
  obtain rfl : args = #[v0, v1] := by cases args; simp_all
  obtain ⟨rfl, rfl⟩ := trodVars_none hV
  obtain ⟨a0, rfl⟩ := okWide_string Try.underlying9 (hval 0 9 v0 rfl rfl)
  have w0 : a0.size ≤ maxLen := by
    obtain ⟨m, hm⟩ := h0
    obtain ⟨s, hs, _, hl⟩ := DataW.trod_string Try.underlying9 hm
    simp [Value.cells] at hs
    rw [hs]; exact hl
  obtain ⟨l0, rfl⟩ : ∃ l, a0 = txt l := ⟨a0.data.toList, (txt_of _).symm⟩
  rw [txt_size] at w0; unfold maxLen at w0
  have lt0 : ∀ x ∈ p0, x.block < W.heap.size := by obtain ⟨m, hm⟩ := h0; exact DataW.trod_lt m _ _ _ hm
  obtain ⟨a1, rfl⟩ := okWide_int Try.underlying3 (hval 1 3 v1 rfl rfl)
  have w1 : -9223372036854775808 ≤ a1 ∧ a1 ≤ 9223372036854775807 := by
    obtain ⟨m, hm⟩ := h1
    obtain ⟨s, hs, _, hl⟩ := DataW.trod_int Try.underlying3 hm
    simp [Value.cells] at hs
    rw [hs]; have := bounds_i64 hl; omega
  have lt1 : ∀ x ∈ p1, x.block < W.heap.size := by obtain ⟨m, hm⟩ := h1; exact DataW.trod_lt m _ _ _ hm
  clear hA0 hval0
  simp only [List.append_nil] at hW'
  refine (walk l0 w0 a1 w1 W ).mono fun e W' ⟨he, bel⟩ => ?_
  subst he
  exact ⟨_, rfl, _, _, _, [], _, [], hW', trodAll_mk1 (shut_bool Try.underlying4 _), (trodAll_cons_mk (Below.trod laidOut (by kernel_rfl) (of_decide_eq_true (by kernel_rfl)) h0 bel lt0) (trodAll_cons_mk (Below.trod laidOut (by kernel_rfl) (of_decide_eq_true (by kernel_rfl)) h1 bel lt1) trodAll_mk0)), rfl, bel.frame _, fun h => by cases h⟩

theorem proved : Rows.WalOpensSaid :=
  OpenClaim.holds_of_wide 4 Try.f4 rfl rfl rfl rfl rfl rfl rfl ⟨rfl, rfl, rfl, rfl, rfl⟩ rfl rfl rfl rfl rfl (by kernel_rfl) Try.func4 (by kernel_rfl)
    (of_decide_eq_true (by kernel_rfl)) (by unfold Func.isWrapper; first | (rw [if_pos (by decide +kernel)]; kernel_rfl) | (rw [if_neg (by decide +kernel)]; exact ⟨rfl, rfl⟩))
    (fun os started H enc _ => lifted os started H enc)
#print axioms proved
end Go.Proofs.Ytpfpaebbkolpkaa.walOpens
