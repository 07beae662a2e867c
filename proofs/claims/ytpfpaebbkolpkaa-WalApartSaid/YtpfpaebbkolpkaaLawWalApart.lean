/- Two wals on one disk know nothing of each other: moietylaw08.WalApart answers true. For every two lists of texts; no conditions. -/
import Derived.Test.YtpfpaebbkolpkaaWalL
namespace Go.Proofs.Ytpfpaebbkolpkaa.walApart
open Go.ChangeShapes Go.WideShapes Go.ChangeAt Go.RowKit Go.Dk Go.Fm Go.Wl
set_option linter.unusedVariables false
set_option linter.unusedSimpArgs false

theorem done_beside (d : D) (log : Int) (h0 : 0 ≤ log) (c : Lg) (j : Int) (hj : j ≠ log) : (d.done log.toNat c).of j = d.of j := by
  unfold D.of D.done
  simp only [List.length_set]
  split
  · rename_i hi
    simp only [List.getD_eq_getElem?_getD]
    rw [List.getElem?_set_ne (by omega)]
  · rfl
theorem opens_past {d : D} {log : Int} (h0 : (opens d log).2 = 0) : (∃ c, (opens d log).1 = d.done log.toNat c) ∨ (opens d log).1 = d := by
  unfold opens at h0 ⊢
  split at h0
  · rename_i h; exact absurd h0 h
  · rename_i hc
    rw [if_neg hc]
    split at h0
    · rename_i h
      rw [if_pos h]
      exact .inl ⟨_, (act_done h0).1⟩
    · rename_i h
      rw [if_neg h]
      split at h0
      · rename_i h2
        rw [if_pos h2]
        exact .inl ⟨_, (act_done h0).1⟩
      · rename_i h2
        rw [if_neg h2]
        exact .inr rfl
/-- What one log's opening leaves of the others. -/
theorem opens_beside {d : D} {log : Int} (hl : 0 ≤ log) (h0 : (opens d log).2 = 0) (ha : d.ahead = 0) : (opens d log).1.ahead = 0 ∧ (opens d log).1.logs.length = d.logs.length ∧ ∀ j, j ≠ log → (opens d log).1.of j = d.of j := by
  rcases opens_past h0 with ⟨c, e⟩ | e
  · rw [e]
    exact ⟨by show d.ahead - 1 = 0; omega, done_len .., fun j hj => done_beside d log hl c j hj⟩
  · rw [e]; exact ⟨ha, rfl, fun j _ => rfl⟩
theorem Runs.beside {d d' : D} {log log' : Int} {k k' : Wk} (h : Runs d log k) (r : Runs d' log' k') (p : d'.logs.length = d.logs.length) (ho : d'.of log = d.of log) : Runs d' log k :=
  ⟨r.ok, ⟨by rw [p]; exact h.fits.is, by rw [ho]; exact h.fits.all, by rw [ho]; exact h.fits.sure, h.fits.low, h.fits.le⟩, r.down⟩
/-- Of what was not sure nothing is there, if nothing more is kept. -/
theorem lost_none {d : D} {log : Int} {ls : List (List UInt8)} (h : Runs d log ⟨ls, 0⟩) : (scan ((d.crash []).up.of log).all).1 = [] := by
  obtain ⟨j, h1, h2, h3, h4, h5, h6, h7⟩ := lost_at h []
  have hk : (d.of log).kept (List.getD [] log.toNat 0) = 0 := by
    unfold Lg.kept
    rw [h.fits.sure]
    simp [frames]
  rw [hk] at h3
  have : j = 0 := by
    rcases Nat.eq_zero_or_pos j with h0 | h0
    · exact h0
    · have hm := frames_many (ls.take j)
      have h1 : j ≤ ls.length := h1
      have h3 : (frames (ls.take j)).length ≤ 0 := h3
      rw [List.length_take] at hm
      omega
  rw [h5, this]; rfl
theorem cuts_stop (l : List (List UInt8)) (n : Nat) (h : l.length ≤ n) : cuts (l.take (n + 1)) = cuts (l.take n) := by
  rw [List.take_of_length_le (by omega), List.take_of_length_le h]
theorem swap_rows {W w : World} {L : List Row} {a b : Row} {g : Nat} {d : D} (h : Lx W w (a :: b :: L) g d) : Lx W w (b :: a :: L) g d := h.perm (List.Perm.swap b a L)

set_option maxRecDepth 100000 in
set_option maxHeartbeats 16000000 in
theorem walk (A : Option Addr) (len cap : Nat) (l : List (List UInt8)) (A2 : Option Addr) (len2 cap2 : Nat) (m : List (List UInt8)) (w : World)
    (hL : IsR w A len cap 1 encS (fun s => s.length ≤ 9223372036854775807) l) (hM : IsR w A2 len2 cap2 1 encS (fun s => s.length ≤ 9223372036854775807) m) :
    Calls Try.prog 8 #[.slice A len cap, .slice A2 len2 cap2] w fun r w' => r = .returned (.bool true) ∧ Below w.heap.size w w' := by
  obtain ⟨hlen, hs, hc1, hc2, hn, hg⟩ := hL
  subst hlen
  obtain ⟨hlen, hs2, hc3, hc4, hn2, hg2⟩ := hM
  subst hlen
  rw [flat_texts] at hs hs2
  have HS := Lib.hid hs
  have HG := Lib.hid hg
  have HS2 := Lib.hid hs2
  have HG2 := Lib.hid hg2
  obtain ⟨r0, eo, es⟩ := new_runs 2 (by omega) (by omega) 0 (by omega)
  obtain ⟨r1, eo1, es1⟩ := new_runs 2 (by omega) (by omega) 1 (by omega)
  have A0 : Hid ((D.new 2).acts = 0) := Lib.hid rfl
  have AH : Hid ((D.new 2).ahead = 0) := Lib.hid rfl
  have R0 := Lib.hid r0
  have E0 := Lib.hid eo
  have S0 := Lib.hid es
  have R1 := Lib.hid r1
  have E1 := Lib.hid eo1
  have S1 := Lib.hid es1
  have HNEW := Lib.hid (new_lw (St.start w) 2 (by omega) (by omega))
  clear r0 eo es r1 eo1 es1 hs hs2 hg hg2 hn hn2
  generalize D.new 2 = d0 at *
  go_enter Try.func8, Try.ntmps8
  go_wp2_with fail
  refine HNEW.out.mono ?_
  rintro e w1 ⟨g, rfl, hl⟩
  have H : Hid (Lw w w1 [] g d0) := Lib.hid hl
  clear hl HNEW
  go_wp2_with fail
  refine (H.out.wopen (w64 0 (by omega)) (by rw [A0.out]; omega) (by rw [E0.out])).mono ?_
  rintro e w2 ⟨p, h, R, rfl, hl, hp, hd, -, -⟩
  rw [S0.out, E0.out] at hl
  rw [S0.out]
  simp only [List.length_nil] at hl ⊢
  have HP : Hid (w.heap.size ≤ p) := Lib.hid (Nat.le_trans H.out.st.below.size hp)
  replace H : Hid (Lw w w2 [wrow p g ((⟨[], 0⟩ : Wk).wv 0)] g d0) := Lib.hid (hl.few fun r hr => by rw [List.mem_singleton.1 hr]; exact List.mem_cons_self ..)
  clear hl hp hd
  go_wp2_with fail
  refine (H.out.wopen (w64 1 (by omega)) (by rw [A0.out]; omega) (by rw [E1.out])).mono ?_
  rintro e w2b ⟨q, hq, Rq, rfl, hl, hp, hd, -, -⟩
  rw [S1.out, E1.out] at hl
  rw [S1.out]
  simp only [List.length_nil] at hl ⊢
  have HX : Hid (Lx w w2b [wrow p g ((⟨[], 0⟩ : Wk).wv 0), wrow q g ((⟨[], 0⟩ : Wk).wv 1)] g d0) := Lib.hid ⟨hl.few (fun r hr => by
      rcases List.mem_cons.1 hr with rfl | hr
      · simp
      · rw [List.mem_singleton.1 hr]; simp), List.pairwise_cons.2 ⟨fun r hr => by rw [List.mem_singleton.1 hr]; exact hd (wrow p g ((⟨[], 0⟩ : Wk).wv 0)) (by simp), List.pairwise_singleton _ _⟩, fun r hr => by
      rcases List.mem_cons.1 hr with rfl | hr
      · exact HP.out
      · rw [List.mem_singleton.1 hr]; exact Nat.le_trans H.out.st.below.size hp⟩
  clear hl hp hd H HP
  go_wp2_with fail
  refine (awake_any _).mono ?_
  rintro e w3 ⟨rfl, hb⟩
  replace HX := Lib.hid (HX.out.call hb)
  clear hb
  have HZ : Hid (w.heap.size ≤ w3.heap.size) := Lib.hid HX.out.lw.st.below.size
  obtain ⟨R1, ow1, hx1⟩ := HX.out.owned ((Below.refl _ _).alloc (Nat.le_refl _) (.cells #[] 9)) (own_empty w3 9 1)
  obtain ⟨R2, ow2, hx2⟩ := hx1.owned ((Below.refl _ _).alloc (Nat.le_refl _) (.cells #[] 9)) (own_empty (w3.alloc (.cells #[] 9)) 9 1)
  have hz3 : (w3.alloc (.cells #[] 9)).heap.size = w3.heap.size + 1 := by simp
  rw [hz3] at ow2
  have HX2 : Hid (Lx w _ (wrow p g ((⟨[], 0⟩ : Wk).wv 0) :: wrow q g ((⟨[], 0⟩ : Wk).wv 1) :: (R1 ++ (R2 ++ []))) g d0) := Lib.hid (hx2.perm (by
    have h1 : (R2 ++ (R1 ++ [wrow p g ((⟨[], 0⟩ : Wk).wv 0), wrow q g ((⟨[], 0⟩ : Wk).wv 1)])).Perm ((R2 ++ R1) ++ [wrow p g ((⟨[], 0⟩ : Wk).wv 0), wrow q g ((⟨[], 0⟩ : Wk).wv 1)]) := by rw [List.append_assoc]
    refine h1.trans (List.perm_append_comm.trans ?_)
    rw [List.append_nil]
    exact List.Perm.cons _ (List.Perm.cons _ (show (R2 ++ R1).Perm (R1 ++ R2) from List.perm_append_comm))))
  have HOW1 : Hid (OwnT R1 w.heap.size (.slice (some ⟨w3.heap.size, 0, none⟩) 0 0) []) := Lib.hid (OwnT.less (B := w3.heap.size) ow1 HZ.out)
  have HOW2 : Hid (OwnT R2 w.heap.size (.slice (some ⟨w3.heap.size + 1, 0, none⟩) 0 0) []) := Lib.hid (OwnT.less (B := w3.heap.size + 1) ow2 (by have := HZ.out; omega))
  clear HX hx1 hx2 ow1 ow2 hz3
  have RR0 := R0
  have RR1 := Lib.hid (‹Hid (Runs d0 1 ⟨[], 0⟩)›.out)
  go_wp2_with fail
  go_loopw [13, 14, 15] (fun u v i wr => ∃ (n : Nat) (d : D) (k1 : Nat) (a0 : Option Addr) (c0 : Nat) (R1 : List Row) (k2 : Nat) (a3 : Option Addr) (c3 : Nat) (R2 : List Row), n ≤ 8 ∧ i = .int .i64 (n : Int) ∧ k1 = min n l.length ∧ k2 = min n m.length ∧
    u = .slice a0 k1 c0 ∧ k1 ≤ c0 ∧ c0 ≤ 9223372036854775807 ∧ OwnT R1 w.heap.size (.slice a0 k1 c0) (cuts (l.take n)) ∧ v = .slice a3 k2 c3 ∧ k2 ≤ c3 ∧ c3 ≤ 9223372036854775807 ∧ OwnT R2 w.heap.size (.slice a3 k2 c3) (cuts (m.take n)) ∧
    Lx w wr (wrow p g ((⟨cuts (l.take n), 0⟩ : Wk).wv 0) :: wrow q g ((⟨cuts (m.take n), 0⟩ : Wk).wv 1) :: (R1 ++ (R2 ++ []))) g d ∧ Runs d 0 ⟨cuts (l.take n), 0⟩ ∧ Runs d 1 ⟨cuts (m.take n), 0⟩ ∧ d.acts ≤ 2 * n ∧ d.ahead = 0) (fun _ _ i _ => 8 - (intOf i).toNat)
  case atStart => exact ⟨0, d0, 0, _, _, R1, 0, _, _, R2, by omega, rfl, by omega, by omega, rfl, by omega, by omega, HOW1.out, rfl, by omega, by omega, HOW2.out, HX2.out, RR0.out, RR1.out, by rw [A0.out]; omega, AH.out⟩
  case round =>
    clear HOW1 HOW2 HX2 RR0 RR1 A0 AH E0 S0 E1 S1
    obtain ⟨n, d, k1, a0, c0, R1, k2, a3, c3, R2, hn8, rfl, hk1, hk2, rfl, hkc1, hcc1, how1, rfl, hkc2, hcc2, how2, hx, hr, hr1, hda, hdh⟩ := hrel
    have HX := Lib.hid hx
    have HOW1 := Lib.hid how1
    have HOW2 := Lib.hid how2
    have HR := Lib.hid hr
    have HR1 := Lib.hid hr1
    have HDA := Lib.hid hda
    have HDH := Lib.hid hdh
    have HK1 := Lib.hid hk1
    have HK2 := Lib.hid hk2
    have HCL1 : Hid ((cuts (l.take n)).length = k1) := Lib.hid (by rw [cuts_length, List.length_take]; exact hk1.symm)
    have HCL2 : Hid ((cuts (m.take n)).length = k2) := Lib.hid (by rw [cuts_length, List.length_take]; exact hk2.symm)
    have hk18 : k1 ≤ 8 := by omega
    have hk28 : k2 ≤ 8 := by omega
    have HFR1 : Hid ((frames (cuts (l.take n))).length ≤ 8 * 1008) := Lib.hid (by
      have := frames_short _ (cuts_short (l.take n))
      rw [HCL1.out] at this
      omega)
    have HFR2 : Hid ((frames (cuts (m.take n))).length ≤ 8 * 1008) := Lib.hid (by
      have := frames_short _ (cuts_short (m.take n))
      rw [HCL2.out] at this
      omega)
    clear how1 how2 hx hr hr1 hda hdh hk1 hk2
    by_cases hlt8 : n < 8
    · have i8 : (n : Int) < 8 := by omega
      obtain ⟨la0, hla0⟩ : ∃ x, x = cuts (l.take n) := ⟨_, rfl⟩
      obtain ⟨la1, hla1⟩ : ∃ x, x = cuts (l.take (n + 1)) := ⟨_, rfl⟩
      obtain ⟨lb0, hlb0⟩ : ∃ x, x = cuts (m.take n) := ⟨_, rfl⟩
      obtain ⟨lb1, hlb1⟩ : ∃ x, x = cuts (m.take (n + 1)) := ⟨_, rfl⟩
      rw [← hla0] at HX HOW1 HR HCL1 HFR1
      rw [← hlb0] at HX HOW2 HR1 HCL2 HFR2
      have HLA0 := Lib.hid hla0
      have HLA1 := Lib.hid hla1
      have HLB0 := Lib.hid hlb0
      have HLB1 := Lib.hid hlb1
      clear hla0 hla1 hlb0 hlb1
      by_cases hlt : n < l.length
      · obtain ⟨x, hx1⟩ : ∃ x, l[n]? = some x := ⟨_, List.getElem?_eq_getElem hlt⟩
        obtain rfl : k1 = n := by have := HK1.out; omega
        obtain ⟨b, off, rfl, hbB, hat⟩ := (HS.out.below HX.out.lw.st.below).2 (by omega)
        have g0 := hat k1 _ (strs_at l k1 x hx1)
        have HFEW := Lib.hid (few_text x (HG.out x (List.mem_of_getElem? hx1)))
        have HSN := Lib.hid (cuts_snoc l k1 x hx1)
        have HAT := Lib.hid (cuts_at l k1 x hx1)
        have i1 : (k1 : Int) < (l.length : Int) := by omega
        obtain ⟨s, hs⟩ : ∃ s, s = x.take 1000 := ⟨_, rfl⟩
        have hsl : s.length ≤ 1000 := by rw [hs, List.length_take]; omega
        rw [← hs] at HFEW HSN HAT
        rw [← HLA0.out] at HSN HAT
        rw [← HLA1.out] at HSN
        obtain ⟨d', e', r', p', o'⟩ := HR.out.append (b := s) (by omega) (by have := HFR1.out; simp only; omega) (by rw [HDH.out]; omega)
        simp only at e' r'
        have r1' := Runs.beside HR1.out r' p'.len (o' 1 (by omega))
        have E' := Lib.hid e'
        have RA : Hid (Runs d' 0 ⟨la1, 0⟩) := Lib.hid (by rw [HSN.out]; exact r')
        have RB := Lib.hid r1'
        have DA : Hid (d'.acts ≤ 2 * k1 + 1) := Lib.hid (by have := p'.acts; have := HDA.out; omega)
        have DH : Hid (d'.ahead = 0) := Lib.hid (by have := p'.ahead; rw [HDH.out] at this; exact this)
        clear hat hx1 hs e' r' p' o' r1' HR HR1
        go_wp2_with fail
        refine (HFEW.out _).mono ?_
        rintro e w5 ⟨rfl, hb⟩
        replace HX := Lib.hid (HX.out.call hb)
        clear hb HFEW g0
        have hll : la0.length = k1 := HCL1.out
        go_wp2_with (at_builtin; refine wpList_appX (W := w) (w := w5) (P := [wrow p g ((⟨la0, 0⟩ : Wk).wv 0), wrow q g ((⟨lb0, 0⟩ : Wk).wv 1)]) (R := R1) (L := R2 ++ []) rfl (.tmp 70) (.tmp 78) rfl w.heap.size (.slice a0 k1 c0) la0 (by rfl) HX.out HOW1.out (Nat.le_refl _) HX.out.lw.st.below.size s _ rfl rfl (by omega) ?_)
        intro a1 c1 w6 R1' how1 hc11 hc12 hx hz6
        have HX6 : Hid (Lx w w6 (wrow p g ((⟨la0, 0⟩ : Wk).wv 0) :: wrow q g ((⟨lb0, 0⟩ : Wk).wv 1) :: (R1' ++ (R2 ++ []))) g d) := Lib.hid (by simpa using hx)
        rw [← HSN.out] at how1
        have OW1 := Lib.hid how1
        obtain ⟨b1, rfl, t1⟩ := how1.text (w := w6) (fun r hr => HX6.out.lw.st.knows r (by simp [hr])) k1 s (by rw [HSN.out]; exact HAT.out)
        obtain ⟨c, w7, hcv, hin, hb⟩ := text_bytes s (by omega) w6
        have HC := Lib.hid ((HX6.out.call hb).wappend (w64 0 (by omega)) (by have := HDA.out; omega) (by show la0.length + 1 ≤ _; omega) hin)
        rw [E'.out] at HC
        have HK1' : Hid (k1 + 1 = min (k1 + 1) l.length) := Lib.hid (by omega)
        clear how1 hx hin hb hll HDA HDH
        go_wp2_with fail
        refine HC.out.mono ?_
        rintro e w8 ⟨rfl, hx⟩
        have HX8 : Hid (Lx w w8 (wrow p g ((⟨la1, 0⟩ : Wk).wv 0) :: wrow q g ((⟨lb0, 0⟩ : Wk).wv 1) :: (R1' ++ (R2 ++ []))) g d') := Lib.hid (by rw [HSN.out]; simpa using hx)
        clear hx HC hcv t1 HX6 E'
        by_cases hlt2 : k1 < m.length
        · obtain ⟨x2, hx2⟩ : ∃ x, m[k1]? = some x := ⟨_, List.getElem?_eq_getElem hlt2⟩
          have hkn : k2 = k1 := by have := HK2.out; omega
          subst hkn
          obtain ⟨b2, off2, rfl, hbB2, hat⟩ := (HS2.out.below HX8.out.lw.st.below).2 (by omega)
          have g0 := hat k2 _ (strs_at m k2 x2 hx2)
          have HFEW := Lib.hid (few_text x2 (HG2.out x2 (List.mem_of_getElem? hx2)))
          have HSN2 := Lib.hid (cuts_snoc m k2 x2 hx2)
          have HAT2 := Lib.hid (cuts_at m k2 x2 hx2)
          have i2 : (k2 : Int) < (m.length : Int) := by omega
          obtain ⟨s2, hs⟩ : ∃ s, s = x2.take 1000 := ⟨_, rfl⟩
          have hsl2 : s2.length ≤ 1000 := by rw [hs, List.length_take]; omega
          rw [← hs] at HFEW HSN2 HAT2
          rw [← HLB0.out] at HSN2 HAT2
          rw [← HLB1.out] at HSN2
          obtain ⟨d2, e', r', p', o'⟩ := RB.out.append (b := s2) (by omega) (by have := HFR2.out; simp only; omega) (by rw [DH.out]; omega)
          simp only at e' r'
          have r1' := Runs.beside RA.out r' p'.len (o' 0 (by omega))
          have E' := Lib.hid e'
          have RB2 : Hid (Runs d2 1 ⟨lb1, 0⟩) := Lib.hid (by rw [HSN2.out]; exact r')
          have RA2 := Lib.hid r1'
          have DA2 : Hid (d2.acts ≤ 2 * (k2 + 1)) := Lib.hid (by have := p'.acts; have := DA.out; omega)
          have DH2 : Hid (d2.ahead = 0) := Lib.hid (by have := p'.ahead; rw [DH.out] at this; exact this)
          clear hat hx2 hs e' r' p' o' r1' RA RB
          go_wp2_with fail
          refine (HFEW.out _).mono ?_
          rintro e w15 ⟨rfl, hb⟩
          replace HX8 := Lib.hid (HX8.out.call hb)
          clear hb HFEW g0
          have hll : lb0.length = k2 := HCL2.out
          go_wp2_with (at_builtin; refine wpList_appX (W := w) (w := w15) (P := wrow p g ((⟨la1, 0⟩ : Wk).wv 0) :: wrow q g ((⟨lb0, 0⟩ : Wk).wv 1) :: R1') (R := R2) (L := []) rfl (.tmp 92) (.tmp 100) rfl w.heap.size (.slice a3 k2 c3) lb0 (by rfl) HX8.out HOW2.out (Nat.le_refl _) HX8.out.lw.st.below.size s2 _ rfl rfl (by omega) ?_)
          intro a21 c21 w16 R2' how2 hc21 hc22 hx hz6
          have HX6 : Hid (Lx w w16 (wrow p g ((⟨la1, 0⟩ : Wk).wv 0) :: wrow q g ((⟨lb0, 0⟩ : Wk).wv 1) :: (R1' ++ (R2' ++ []))) g d') := Lib.hid (by simpa using hx)
          rw [← HSN2.out] at how2
          have OW2 := Lib.hid how2
          obtain ⟨b21, rfl, t1⟩ := how2.text (w := w16) (fun r hr => HX6.out.lw.st.knows r (by simp [hr])) k2 s2 (by rw [HSN2.out]; exact HAT2.out)
          obtain ⟨c22, w17, hcv, hin, hb⟩ := text_bytes s2 (by omega) w16
          have HC := Lib.hid ((swap_rows (HX6.out.call hb)).wappend (w64 1 (by omega)) (by have := DA.out; omega) (by show lb0.length + 1 ≤ _; omega) hin)
          rw [E'.out] at HC
          have HK2' : Hid (k2 + 1 = min (k2 + 1) m.length) := Lib.hid (by omega)
          clear how2 hx hin hb hll DA DH
          go_wp2_with fail
          refine HC.out.mono ?_
          rintro e w18 ⟨rfl, hx⟩
          have HX9 : Hid (Lx w w18 (wrow p g ((⟨la1, 0⟩ : Wk).wv 0) :: wrow q g ((⟨lb1, 0⟩ : Wk).wv 1) :: (R1' ++ (R2' ++ []))) g d2) := Lib.hid (by rw [HSN2.out]; exact swap_rows (by simpa using hx))
          clear hx HC hcv t1 HX6 E'
          go_wp2_with fail
          go_roundw
          case rel =>
            refine ⟨k2 + 1, d2, _, _, _, R1', k2 + 1, _, c21, R2', by omega, by go_num, HK1'.out, HK2'.out, rfl, by omega, by omega, ?_, rfl, hc21, hc22, ?_, ?_, ?_, ?_, DA2.out, DH2.out⟩
            · rw [← HLA1.out]; exact OW1.out
            · rw [← HLB1.out]; exact OW2.out
            · rw [← HLA1.out, ← HLB1.out]; exact HX9.out
            · rw [← HLA1.out]; exact RA2.out
            · rw [← HLB1.out]; exact RB2.out
          case measure => simp [intOf]; omega
        · have HEQ2 : Hid (lb1 = lb0) := Lib.hid (by rw [HLB1.out, HLB0.out]; exact cuts_stop m k1 (by omega))
          have i2 : ¬ (k1 : Int) < (m.length : Int) := by omega
          have HK2' : Hid (k2 = min (k1 + 1) m.length) := Lib.hid (by have := HK2.out; omega)
          go_wp2_with fail
          go_roundw
          case rel =>
            refine ⟨k1 + 1, d', _, _, _, R1', k2, a3, c3, R2, by omega, by go_num, HK1'.out, HK2'.out, rfl, by omega, by omega, ?_, rfl, hkc2, hcc2, ?_, ?_, ?_, ?_, by have := DA.out; omega, DH.out⟩
            · rw [← HLA1.out]; exact OW1.out
            · rw [← HLB1.out, HEQ2.out]; exact HOW2.out
            · rw [← HLA1.out, ← HLB1.out, HEQ2.out]; exact HX8.out
            · rw [← HLA1.out]; exact RA.out
            · rw [← HLB1.out, HEQ2.out]; exact RB.out
          case measure => simp [intOf]; omega
      · have HEQ : Hid (la1 = la0) := Lib.hid (by rw [HLA1.out, HLA0.out]; exact cuts_stop l n (by omega))
        have i1 : ¬ (n : Int) < (l.length : Int) := by omega
        have RA : Hid (Runs d 0 ⟨la1, 0⟩) := Lib.hid (by rw [HEQ.out]; exact HR.out)
        have RB := HR1
        have DA : Hid (d.acts ≤ 2 * n + 1) := Lib.hid (by have := HDA.out; omega)
        have DH := HDH
        have HX8 : Hid (Lx w wr (wrow p g ((⟨la1, 0⟩ : Wk).wv 0) :: wrow q g ((⟨lb0, 0⟩ : Wk).wv 1) :: (R1 ++ (R2 ++ []))) g d) := Lib.hid (by rw [HEQ.out]; exact HX.out)
        have OW1 : Hid (OwnT R1 w.heap.size (.slice a0 k1 c0) la1) := Lib.hid (by rw [HEQ.out]; exact HOW1.out)
        have HK1' : Hid (k1 = min (n + 1) l.length) := Lib.hid (by have := HK1.out; omega)
        clear HX HR HR1 HDA HDH
        by_cases hlt2 : n < m.length
        · obtain ⟨x2, hx2⟩ : ∃ x, m[n]? = some x := ⟨_, List.getElem?_eq_getElem hlt2⟩
          have hkn : k2 = n := by have := HK2.out; omega
          subst hkn
          obtain ⟨b2, off2, rfl, hbB2, hat⟩ := (HS2.out.below HX8.out.lw.st.below).2 (by omega)
          have g0 := hat k2 _ (strs_at m k2 x2 hx2)
          have HFEW := Lib.hid (few_text x2 (HG2.out x2 (List.mem_of_getElem? hx2)))
          have HSN2 := Lib.hid (cuts_snoc m k2 x2 hx2)
          have HAT2 := Lib.hid (cuts_at m k2 x2 hx2)
          have i2 : (k2 : Int) < (m.length : Int) := by omega
          obtain ⟨s2, hs⟩ : ∃ s, s = x2.take 1000 := ⟨_, rfl⟩
          have hsl2 : s2.length ≤ 1000 := by rw [hs, List.length_take]; omega
          rw [← hs] at HFEW HSN2 HAT2
          rw [← HLB0.out] at HSN2 HAT2
          rw [← HLB1.out] at HSN2
          obtain ⟨d2, e', r', p', o'⟩ := RB.out.append (b := s2) (by omega) (by have := HFR2.out; simp only; omega) (by rw [DH.out]; omega)
          simp only at e' r'
          have r1' := Runs.beside RA.out r' p'.len (o' 0 (by omega))
          have E' := Lib.hid e'
          have RB2 : Hid (Runs d2 1 ⟨lb1, 0⟩) := Lib.hid (by rw [HSN2.out]; exact r')
          have RA2 := Lib.hid r1'
          have DA2 : Hid (d2.acts ≤ 2 * (k2 + 1)) := Lib.hid (by have := p'.acts; have := DA.out; omega)
          have DH2 : Hid (d2.ahead = 0) := Lib.hid (by have := p'.ahead; rw [DH.out] at this; exact this)
          clear hat hx2 hs e' r' p' o' r1' RA RB
          go_wp2_with fail
          refine (HFEW.out _).mono ?_
          rintro e w15 ⟨rfl, hb⟩
          replace HX8 := Lib.hid (HX8.out.call hb)
          clear hb HFEW g0
          have hll : lb0.length = k2 := HCL2.out
          go_wp2_with (at_builtin; refine wpList_appX (W := w) (w := w15) (P := wrow p g ((⟨la1, 0⟩ : Wk).wv 0) :: wrow q g ((⟨lb0, 0⟩ : Wk).wv 1) :: R1) (R := R2) (L := []) rfl (.tmp 92) (.tmp 100) rfl w.heap.size (.slice a3 k2 c3) lb0 (by rfl) HX8.out HOW2.out (Nat.le_refl _) HX8.out.lw.st.below.size s2 _ rfl rfl (by omega) ?_)
          intro a21 c21 w16 R2' how2 hc21 hc22 hx hz6
          have HX6 : Hid (Lx w w16 (wrow p g ((⟨la1, 0⟩ : Wk).wv 0) :: wrow q g ((⟨lb0, 0⟩ : Wk).wv 1) :: (R1 ++ (R2' ++ []))) g d) := Lib.hid (by simpa using hx)
          rw [← HSN2.out] at how2
          have OW2 := Lib.hid how2
          obtain ⟨b21, rfl, t1⟩ := how2.text (w := w16) (fun r hr => HX6.out.lw.st.knows r (by simp [hr])) k2 s2 (by rw [HSN2.out]; exact HAT2.out)
          obtain ⟨c22, w17, hcv, hin, hb⟩ := text_bytes s2 (by omega) w16
          have HC := Lib.hid ((swap_rows (HX6.out.call hb)).wappend (w64 1 (by omega)) (by have := DA.out; omega) (by show lb0.length + 1 ≤ _; omega) hin)
          rw [E'.out] at HC
          have HK2' : Hid (k2 + 1 = min (k2 + 1) m.length) := Lib.hid (by omega)
          clear how2 hx hin hb hll DA DH
          go_wp2_with fail
          refine HC.out.mono ?_
          rintro e w18 ⟨rfl, hx⟩
          have HX9 : Hid (Lx w w18 (wrow p g ((⟨la1, 0⟩ : Wk).wv 0) :: wrow q g ((⟨lb1, 0⟩ : Wk).wv 1) :: (R1 ++ (R2' ++ []))) g d2) := Lib.hid (by rw [HSN2.out]; exact swap_rows (by simpa using hx))
          clear hx HC hcv t1 HX6 E'
          go_wp2_with fail
          go_roundw
          case rel =>
            refine ⟨k2 + 1, d2, _, _, _, R1, k2 + 1, _, c21, R2', by omega, by go_num, HK1'.out, HK2'.out, rfl, by omega, by omega, ?_, rfl, hc21, hc22, ?_, ?_, ?_, ?_, DA2.out, DH2.out⟩
            · rw [← HLA1.out]; exact OW1.out
            · rw [← HLB1.out]; exact OW2.out
            · rw [← HLA1.out, ← HLB1.out]; exact HX9.out
            · rw [← HLA1.out]; exact RA2.out
            · rw [← HLB1.out]; exact RB2.out
          case measure => simp [intOf]; omega
        · have HEQ2 : Hid (lb1 = lb0) := Lib.hid (by rw [HLB1.out, HLB0.out]; exact cuts_stop m n (by omega))
          have i2 : ¬ (n : Int) < (m.length : Int) := by omega
          have HK2' : Hid (k2 = min (n + 1) m.length) := Lib.hid (by have := HK2.out; omega)
          go_wp2_with fail
          go_roundw
          case rel =>
            refine ⟨n + 1, d, _, _, _, R1, k2, a3, c3, R2, by omega, by go_num, HK1'.out, HK2'.out, rfl, by omega, by omega, ?_, rfl, hkc2, hcc2, ?_, ?_, ?_, ?_, by have := DA.out; omega, DH.out⟩
            · rw [← HLA1.out]; exact OW1.out
            · rw [← HLB1.out, HEQ2.out]; exact HOW2.out
            · rw [← HLA1.out, ← HLB1.out, HEQ2.out]; exact HX8.out
            · rw [← HLA1.out]; exact RA.out
            · rw [← HLB1.out, HEQ2.out]; exact RB.out
          case measure => simp [intOf]; omega
    · obtain rfl : n = 8 := by omega
      obtain ⟨la, hla⟩ : ∃ x, x = cuts (l.take 8) := ⟨_, rfl⟩
      obtain ⟨lb, hlb⟩ : ∃ x, x = cuts (m.take 8) := ⟨_, rfl⟩
      rw [← hla] at HX HOW1 HR HCL1 HFR1
      rw [← hlb] at HX HOW2 HR1 HCL2 HFR2
      clear hla hlb
      obtain ⟨d2, e2, r2, p2, o2⟩ := HR.out.sync (by rw [HDH.out]; omega)
      simp only at e2 r2
      have r21 := Runs.beside HR1.out r2 p2.len (o2 1 (by omega))
      obtain ⟨s5, o5⟩ := lost_all r2 []
      have s6 := lost_none r21
      have hah : (d2.crash []).up.ahead = 0 := by unfold D.crash; rw [if_neg (by simp [r2.down])]; rfl
      obtain ⟨b1, b2, b3⟩ := opens_beside (Int.le_refl 0) o5 hah
      have hok1 : Ok (d2.crash []).up := (r2.ok.crash []).up
      have hrun := opened_runs hok1 o5
      have hlen : (d2.crash []).up.logs.length = d2.logs.length := by unfold D.crash; rw [if_neg (by simp [r2.down])]; simp [D.up, D.lose]
      have o6 : (opens (opens (d2.crash []).up 0).1 1).2 = 0 := opens_ok hrun.ok (by rw [b2, hlen]; exact r21.fits.is) hrun.down (by rw [b1]; omega)
      rw [← b3 1 (by omega)] at s6
      have S5 := Lib.hid s5
      have O5 := Lib.hid o5
      have S6 := Lib.hid s6
      have O6 := Lib.hid o6
      have A5 : Hid ((d2.crash []).up.acts ≤ 17) := Lib.hid (by rw [crash_acts, p2.acts]; have := HDA.out; omega)
      have A6 : Hid ((opens (d2.crash []).up 0).1.acts ≤ 18) := Lib.hid (by have := opens_acts (d2.crash []).up 0; have := A5.out; omega)
      have HSY := Lib.hid (HX.out.wsync (w64 0 (by omega)) (by have := HDA.out; omega))
      rw [e2] at HSY
      clear e2 r2 p2 o2 r21 s5 o5 s6 hah b1 b2 b3 hok1 hrun hlen o6 HX HR HR1 HDA HDH
      have i8 : ¬ ((8 : Nat) : Int) < 8 := by omega
      go_wp2_with fail
      refine HSY.out.mono ?_
      rintro e w5 ⟨rfl, hx⟩
      have H := Lib.hid hx.lw
      clear hx HSY
      go_wp2_with fail
      refine (wsure_any q g ((⟨lb, 0⟩ : Wk).wv 1) w5 (H.out.st.knows (wrow q g ((⟨lb, 0⟩ : Wk).wv 1)) (by simp))).mono ?_
      rintro e x ⟨rfl, ex⟩
      subst x
      go_wp2_with fail
      refine (H.out.crash (inI_nil _ _ _ 0)).mono ?_
      rintro e w6 ⟨rfl, hl⟩
      replace H := Lib.hid hl
      clear hl
      go_wp2_with fail
      refine H.out.up.mono ?_
      rintro e w7 ⟨rfl, hl⟩
      replace H := Lib.hid hl
      clear hl
      generalize (d2.crash []).up = dU at *
      have HOP := Lib.hid (H.out.wopen (w64 0 (by omega)) (by have := A5.out; omega) O5.out)
      rw [S5.out, HCL1.out] at HOP
      generalize (opens dU 0).1 = dV at *
      go_wp2_with fail
      refine HOP.out.mono ?_
      rintro e w8 ⟨p2, h2, RT, rfl, hl, -, -, -, ht⟩
      have HT1 := Lib.hid ht
      replace H := Lib.hid (hl.few (L' := RT ++ (wrow q g ((⟨lb, 0⟩ : Wk).wv 1) :: R1)) (fun r hr => by
        rcases List.mem_append.1 hr with hr | hr
        · simp [hr]
        · rcases List.mem_cons.1 hr with rfl | hr
          · simp
          · simp [hr]))
      clear hl ht HOP
      have HOP := Lib.hid (H.out.wopen (w64 1 (by omega)) (by have := A6.out; omega) O6.out)
      rw [S6.out] at HOP
      simp only [List.length_nil] at HOP
      go_wp2_with fail
      refine HOP.out.mono ?_
      rintro e w9 ⟨p3, h3, RT2, rfl, hl, -, -, -, -⟩
      obtain ⟨dW, hdW⟩ : ∃ dW, dW = (opens dV 1).1 := ⟨_, rfl⟩
      rw [← hdW] at hl
      replace H := Lib.hid (hl.few (L' := RT ++ (wrow q g ((⟨lb, 0⟩ : Wk).wv 1) :: R1)) (fun r hr => List.mem_cons_of_mem _ (List.mem_append.2 (.inr hr))))
      clear hl HOP hdW
      have HSAME := Lib.hid (same_any w9.heap.size w9.heap.size (some ⟨h2, 0, none⟩) a0 la.length c0 la la w9 (by rw [HCL1.out]; omega) (HT1.out.shows w9 (fun r hr => H.out.st.knows r (by simp [hr]))) (HOW1.out.sees HCL1.out.symm (fun r hr => H.out.st.knows r (by simp [hr]))) (Nat.le_refl _) (Nat.le_refl _))
      rw [decide_eq_true rfl, HCL1.out] at HSAME
      go_wp2_with fail
      refine HSAME.out.mono ?_
      rintro e w10 ⟨rfl, hb⟩
      replace H := Lib.hid (H.out.call hb)
      clear hb HSAME
      go_wp2_with fail
      have HLEN := len_any q g ((⟨lb, 0⟩ : Wk).wv 1) w10 (H.out.st.knows (wrow q g ((⟨lb, 0⟩ : Wk).wv 1)) (by simp))
      rw [show ((⟨lb, 0⟩ : Wk).wv 1).all = k2 from HCL2.out] at HLEN
      refine HLEN.mono ?_
      rintro e x ⟨rfl, ex⟩
      subst x
      go_wp2_with fail
      go_ret
      exact ⟨rfl, H.out.st.below⟩

set_option maxRecDepth 100000 in
theorem lifted (os : Os) (started : os.Started) (H : Type) (enc : TypeId × Value → H) :
    ReturnsInHanded {} Try.checked os 8 .any (Rows.walApartSpec.pre6 enc Try.prog Try.f8 Rows.walApartRow.domain false) (Rows.walApartSpec.post enc Try.prog Try.f8 false true false false) := by
  refine returnsInHanded_of_change (C := Try.checked) own started (by kernel_rfl) Try.func8
    (ChangeSpec.witness6 (enc := enc) (C := Try.checked) false ⟨#[], #[.slice none 0 0, .slice none 0 0], []⟩ 8 (by kernel_rfl) (by kernel_rfl) (by kernel_rfl) (by kernel_rfl)) ?_
  intro W base args ds gs before hval0 hW hcnd _
  have hval : ∀ (j : Nat) t v, Try.f8.params[j]? = some t → args[j]? = some v → Value.okWide Try.prog W .any base t v := hval0
  have hW' := hW
  obtain ⟨p, q, hA0, hV, rfl, hfz, hnd⟩ := hW
  have hA : DataW.TrodAll enc Try.prog W 0 (fun _ => true) true Try.f8.params.toList args.toList ds p := hA0
  rw [Try.params8] at hA hval
  obtain ⟨v0, vs0, d0, ds0, p0, q0, hargs, rfl, rfl, h0, r0⟩ := trodAll_cons hA
  obtain ⟨v1, vs1, d1, ds1, p1, q1, rfl, rfl, rfl, h1, r1⟩ := trodAll_cons r0
  obtain ⟨rfl, rfl, rfl⟩ := trodAll_nil r1
  obtain rfl : args = #[v0, v1] := by cases args; simp_all
  obtain ⟨rfl, rfl⟩ := trodVars_none hV
  obtain ⟨A0, len0, cap0, rfl⟩ := okWide_slice Try.underlying35 (hval 0 35 v0 rfl rfl)
  obtain ⟨l0, w0⟩ := open_texts h0
  have lt0 : ∀ x ∈ p0, x.block < W.heap.size := by obtain ⟨m, hm⟩ := h0; exact DataW.trod_lt m _ _ _ hm
  obtain ⟨A1, len1, cap1, rfl⟩ := okWide_slice Try.underlying35 (hval 1 35 v1 rfl rfl)
  obtain ⟨l1, w1⟩ := open_texts h1
  have lt1 : ∀ x ∈ p1, x.block < W.heap.size := by obtain ⟨m, hm⟩ := h1; exact DataW.trod_lt m _ _ _ hm
  clear hA0 hval0
  simp only [List.append_nil] at hW'
  refine (walk A0 len0 cap0 l0 A1 len1 cap1 l1 W w0 w1).mono fun e W' ⟨he, bel⟩ => ?_
  subst he
  exact ⟨_, rfl, _, _, _, [], _, [], hW', trodAll_mk1 (shut_bool Try.underlying4 _), (trodAll_cons_mk (Below.trod laidOut (by kernel_rfl) (of_decide_eq_true (by kernel_rfl)) h0 bel lt0) (trodAll_cons_mk (Below.trod laidOut (by kernel_rfl) (of_decide_eq_true (by kernel_rfl)) h1 bel lt1) trodAll_mk0)), rfl, bel.frame _, fun h => by cases h⟩

theorem proved : Rows.WalApartSaid :=
  OpenClaim.holds_of_wide 8 Try.f8 rfl rfl rfl rfl rfl rfl rfl ⟨rfl, rfl, rfl, rfl, rfl⟩ rfl rfl rfl rfl rfl (by kernel_rfl) Try.func8 (by kernel_rfl)
    (of_decide_eq_true (by kernel_rfl)) (by unfold Func.isWrapper; first | (rw [if_pos (by decide +kernel)]; kernel_rfl) | (rw [if_neg (by decide +kernel)]; exact ⟨rfl, rfl⟩))
    (fun os started H enc _ => lifted os started H enc)
#print axioms proved
end Go.Proofs.Ytpfpaebbkolpkaa.walApart
