/- Wherever the power goes, all loads that were sure are there, and behind them a beginning of the others, each whole: moietylaw08.WalWhole answers true. For every two lists of texts and every loss; no conditions. -/
import Derived.Test.YtpfpaebbkolpkaaWalL
namespace Go.Proofs.Ytpfpaebbkolpkaa.walWhole
open Go.ChangeShapes Go.WideShapes Go.ChangeAt Go.RowKit Go.Dk Go.Fm Go.Wl
set_option linter.unusedVariables false
set_option linter.unusedSimpArgs false

set_option maxRecDepth 100000 in
set_option maxHeartbeats 16000000 in
theorem walk (A : Option Addr) (len cap : Nat) (l : List (List UInt8)) (A2 : Option Addr) (len2 cap2 : Nat) (m : List (List UInt8)) (kp at_ : Int) (hx : W64 kp ∧ 0 ≤ at_ ∧ at_ ≤ 255) (w : World)
    (hL : IsR w A len cap 1 encS (fun s => s.length ≤ 9223372036854775807) l) (hM : IsR w A2 len2 cap2 1 encS (fun s => s.length ≤ 9223372036854775807) m) :
    Calls Try.prog 5 #[.slice A len cap, .slice A2 len2 cap2, .agg #[.int .i64 kp, .int .u8 at_]] w fun r w' => r = .returned (.bool true) ∧ Below w.heap.size w w' := by
  obtain ⟨hlen, hs, hc1, hc2, hn, hg⟩ := hL
  subst hlen
  obtain ⟨hlen, hs2, hc3, hc4, hn2, hg2⟩ := hM
  subst hlen
  rw [flat_texts] at hs hs2
  have HS := Lib.hid hs
  have HG := Lib.hid hg
  have HS2 := Lib.hid hs2
  have HG2 := Lib.hid hg2
  obtain ⟨hkp, hat1, hat2⟩ := hx
  have HKP := Lib.hid hkp
  obtain ⟨r0, eo, es⟩ := new_runs 1 (by omega) (by omega) 0 (by omega)
  have A0 : Hid ((D.new 1).acts = 0) := Lib.hid rfl
  have AH : Hid ((D.new 1).ahead = 0) := Lib.hid rfl
  have R0 := Lib.hid r0
  have E0 := Lib.hid eo
  have S0 := Lib.hid es
  have HNEW := Lib.hid (new_lw ((St.start w).alloc w.heap.size rfl 64 #[.int .i64 kp, .int .u8 at_]) 1 (by omega) (by omega))
  have hwat : wrap64 at_ = at_ := by unfold wrap64; omega
  clear r0 eo es hs hs2 hg hg2 hn hn2 hkp
  generalize D.new 1 = d0 at *
  go_enter Try.func5, Try.ntmps5
  go_wp2_with fail
  refine HNEW.out.mono ?_
  rintro e w1 ⟨g, rfl, hl⟩
  obtain ⟨lr, hlr⟩ : ∃ lr : Row, lr = (w.heap.size, 64, #[.int .i64 kp, .int .u8 at_]) := ⟨_, rfl⟩
  have HLR : Hid (∀ wr : World, Knows wr [lr] → wr.cell? ⟨w.heap.size, 0, none⟩ = some (.int .i64 kp) ∧ wr.cell? ⟨w.heap.size, 1, none⟩ = some (.int .u8 at_)) := Lib.hid fun wr hk => by
    have := hk lr (List.mem_singleton.2 rfl)
    rw [hlr] at this
    exact ⟨this.cell 0, this.cell 1⟩
  have HLN : Hid (w.heap.size ≤ lr.1) := Lib.hid (by rw [hlr]; exact Nat.le_refl _)
  rw [← hlr] at hl
  have H : Hid (Lw w w1 [lr] g d0) := Lib.hid hl
  clear hl HNEW hlr
  go_wp2_with fail
  refine (H.out.wopen (w64 0 (by omega)) (by rw [A0.out]; omega) (by rw [E0.out])).mono ?_
  rintro e w2 ⟨p, h, R, rfl, hl, hp, hd, -, -⟩
  rw [S0.out, E0.out] at hl
  rw [S0.out]
  simp only [List.length_nil] at hl ⊢
  have HX : Hid (Lx w w2 [wrow p g ((⟨[], 0⟩ : Wk).wv 0), lr] g d0) := Lib.hid ⟨hl.few (fun r hr => by
      rcases List.mem_cons.1 hr with rfl | hr
      · exact List.mem_cons_self ..
      · rw [List.mem_singleton.1 hr]; simp), List.pairwise_cons.2 ⟨fun r hr => Ne.symm (hd r (by rw [List.mem_singleton.1 hr]; simp)), List.pairwise_singleton _ _⟩, fun r hr => by
      rcases List.mem_cons.1 hr with rfl | hr
      · exact Nat.le_trans H.out.st.below.size hp
      · rw [List.mem_singleton.1 hr]; exact HLN.out⟩
  clear hl hp hd H
  go_wp2_with fail
  refine (awake_any _).mono ?_
  rintro e w3 ⟨rfl, hb⟩
  replace HX := Lib.hid (HX.out.call hb)
  clear hb
  obtain ⟨R1, ow1, hx1⟩ := HX.out.owned ((Below.refl _ _).alloc (Nat.le_refl _) (.cells #[] 9)) (own_empty w3 9 1)
  have HX2 := Lib.hid (hx1.perm List.perm_middle)
  have HZ : Hid (w.heap.size ≤ w3.heap.size) := Lib.hid HX.out.lw.st.below.size
  have HOW1 : Hid (OwnT R1 w.heap.size (.slice (some ⟨w3.heap.size, 0, none⟩) 0 0) []) := Lib.hid (OwnT.less (B := w3.heap.size) ow1 HZ.out)
  clear HX hx1 ow1
  go_wp2_with fail
  go_loopw [12, 13] (fun u i wr => ∃ (n : Nat) (d : D) (a0 : Option Addr) (c0 : Nat) (R1 : List Row), n ≤ l.length ∧ n ≤ 8 ∧ i = .int .i64 (n : Int) ∧ u = .slice a0 n c0 ∧ n ≤ c0 ∧ c0 ≤ 9223372036854775807 ∧ OwnT R1 w.heap.size (.slice a0 n c0) (cuts (l.take n)) ∧
    Lx w wr (wrow p g ((⟨cuts (l.take n), 0⟩ : Wk).wv 0) :: (R1 ++ [lr])) g d ∧ Runs d 0 ⟨cuts (l.take n), 0⟩ ∧ d.acts = n ∧ d.ahead = 0) (fun _ i _ => l.length - (intOf i).toNat)
  case atStart => exact ⟨0, d0, _, _, R1, by omega, by omega, rfl, rfl, by omega, by omega, HOW1.out, HX2.out, R0.out, A0.out, AH.out⟩
  case round =>
    clear HOW1 HX2 R0 A0 AH E0 S0 R1
    obtain ⟨n, d, a0, c0, R1, hn1, hn2, rfl, rfl, hnc, hcc, how1, hx, hr, hda, hdh⟩ := hrel
    have HX := Lib.hid hx
    have HOW1 := Lib.hid how1
    have HR := Lib.hid hr
    have HDA := Lib.hid hda
    have HDH := Lib.hid hdh
    have hcl : (cuts (l.take n)).length = n := by rw [cuts_length, List.length_take]; omega
    have HCL := Lib.hid hcl
    clear how1 hx hr hda hdh hcl
    by_cases hlt : n < l.length ∧ n < 8
    · obtain ⟨h1, h2⟩ := hlt
      obtain ⟨x, hx1⟩ : ∃ x, l[n]? = some x := ⟨_, List.getElem?_eq_getElem h1⟩
      obtain ⟨b, off, rfl, hbB, hat⟩ := (HS.out.below HX.out.lw.st.below).2 (by omega)
      have g0 := hat n _ (strs_at l n x hx1)
      have HFEW := Lib.hid (few_text x (HG.out x (List.mem_of_getElem? hx1)))
      have HSN := Lib.hid (cuts_snoc l n x hx1)
      have i1 : (n : Int) < (l.length : Int) := by omega
      have i2 : (n : Int) < 8 := by omega
      obtain ⟨s, hs⟩ : ∃ s, s = x.take 1000 := ⟨_, rfl⟩
      have hsl : s.length ≤ 1000 := by rw [hs, List.length_take]; omega
      rw [← hs] at HFEW HSN
      have hfr : (frames (cuts (l.take n))).length ≤ 8 * 1008 := by
        have := frames_short _ (cuts_short (l.take n))
        rw [HCL.out] at this
        omega
      clear hat hx1 hs
      obtain ⟨d', e', r', p', -⟩ := HR.out.append (b := s) (by omega) (by simp only; omega) (by rw [HDH.out]; omega)
      simp only at e' r'
      have E' := Lib.hid e'
      have R' := Lib.hid r'
      have P' := Lib.hid p'
      clear e' r' p' hfr
      obtain ⟨ls1, hls1⟩ : ∃ x, x = cuts (l.take (n + 1)) := ⟨_, rfl⟩
      obtain ⟨ls0, hls0⟩ : ∃ x, x = cuts (l.take n) := ⟨_, rfl⟩
      rw [← hls1, ← hls0] at HSN
      rw [← hls0] at HX HOW1 HR HCL E' R'
      have HL1 := Lib.hid hls1
      clear hls1 hls0
      go_wp2_with fail
      refine (HFEW.out _).mono ?_
      rintro e w5 ⟨rfl, hb⟩
      replace HX := Lib.hid (HX.out.call hb)
      clear hb HFEW g0
      obtain ⟨c, w7, hcv, hin, hb⟩ := text_bytes s (by omega) w5
      have hll : Hid (ls0.length = n) := Lib.hid HCL.out
      have HC := Lib.hid ((HX.out.call hb).wappend (w64 0 (by omega)) (by rw [HDA.out]; omega) (by show ls0.length + 1 ≤ _; rw [hll.out]; omega) hin)
      rw [E'.out] at HC
      clear hin hb
      go_wp2_with fail
      refine HC.out.mono ?_
      rintro e w8 ⟨rfl, hx⟩
      replace HX := Lib.hid hx
      clear hx HC hcv
      have hll2 : ls0.length = n := hll.out
      go_wp2_with (at_builtin; refine wpList_appX (W := w) (w := w8) (P := [wrow p g ((⟨ls0 ++ [s], 0⟩ : Wk).wv 0)]) (R := R1) (L := [lr]) rfl (.tmp 71) (.tmp 73) rfl w.heap.size (.slice a0 n c0) ls0 (by rfl) HX.out HOW1.out (Nat.le_refl _) HX.out.lw.st.below.size s _ rfl rfl (by omega) ?_)
      intro a1 c1 w6 R1' how1 hc11 hc12 hx hz6
      have HX6 := Lib.hid hx
      rw [← HSN.out] at how1
      have HOW6 := Lib.hid how1
      clear how1 hx hll2
      go_wp2_with fail
      go_roundw
      case rel =>
        refine ⟨n + 1, d', _, c1, R1', by omega, by omega, by go_num, rfl, hc11, hc12, ?_, ?_, ?_, ?_, ?_⟩
        · rw [← HL1.out]; exact HOW6.out
        · rw [← HL1.out, HSN.out]; exact HX6.out
        · rw [← HL1.out, HSN.out]; exact R'.out
        · have := P'.out.acts
          rw [HDA.out] at this; exact this
        · have := P'.out.ahead
          rw [HDH.out] at this; exact this
      case measure => simp [intOf]; omega
    · have hln : (cuts (l.take n)).length ≤ 8 := by rw [HCL.out]; exact hn2
      have hsh : ∀ x ∈ cuts (l.take n), x.length ≤ 1000 := cuts_short _
      obtain ⟨old, hold⟩ : ∃ x, x = cuts (l.take n) := ⟨_, rfl⟩
      rw [← hold] at hln hsh HX HOW1 HR HCL
      obtain ⟨d2, e2, r2, p2, -⟩ := HR.out.sync (by rw [HDH.out]; omega)
      have E2 := Lib.hid e2
      have R2' := Lib.hid r2
      have P2 := Lib.hid p2
      have HSY := Lib.hid (HX.out.wsync (w64 0 (by omega)) (by rw [HDA.out]; omega))
      rw [E2.out] at HSY
      have HSH := Lib.hid hsh
      clear hold e2 r2 p2 hsh HX HR
      have hend : ((n : Int) < l.length ∧ ¬ (n : Int) < 8) ∨ ¬ (n : Int) < l.length := by omega
      clear hlt
      rcases hend with ⟨q1, q2⟩ | q1
      all_goals
        go_wp2_with fail
        refine HSY.out.mono ?_
        rintro e w5 ⟨rfl, hx⟩
        have HX := Lib.hid hx
        clear hx HSY
        have A2 : Hid (d2.acts ≤ 9) := Lib.hid (by rw [P2.out.acts, HDA.out]; omega)
        try clear q1 q2
        try clear q1
        clear E2 P2 HDA HDH
        obtain ⟨l0, l1⟩ := HLR.out w5 fun r hr => HX.out.lw.st.knows r (by rw [List.mem_singleton.1 hr]; simp)
        obtain ⟨r3, a3', -, -⟩ := R2'.out.arm (n := at_) (w64 at_ (by omega)) (keep := [kp]) (fun x hx => by rw [List.mem_singleton.1 hx]; exact HKP.out)
        have hk := HX.out.lw.alloc w5.heap.size rfl 3 #[.int .i64 kp]
        have HARM := Lib.hid (hk.arm (w64 at_ (by omega)) (inI_known (fr := ()) hk (l := [kp]) (List.mem_cons_self ..) (by simp) (fun n hn => by rw [List.mem_singleton.1 hn]; exact HKP.out)))
        have R3 := Lib.hid r3
        have A3 : Hid ((d2.arm at_ [kp]).acts ≤ 9) := Lib.hid (by rw [a3']; exact A2.out)
        clear r3 a3' hk R2' A2
        generalize d2.arm at_ [kp] = d3 at *
        go_wp2_with fail
        refine HARM.out.mono ?_
        rintro e w6 ⟨rfl, hl⟩
        replace HX : Hid (Lx w w6 _ g d3) := Lib.hid ⟨hl.few (fun r hr => List.mem_cons_of_mem _ hr), HX.out.far, HX.out.new⟩
        clear hl HARM l0 l1
        go_wp2_with fail
        go_loopw [12, 16] (fun u i wr => ∃ (k : Nat) (d : D) (a3 : Option Addr) (c3 : Nat) (R3 : List Row), k ≤ m.length ∧ k ≤ 8 ∧ i = .int .i64 (k : Int) ∧ u = .slice a3 (n + k) c3 ∧ n + k ≤ c3 ∧ c3 ≤ 9223372036854775807 ∧ OwnT R3 w.heap.size (.slice a3 (n + k) c3) (old ++ cuts (m.take k)) ∧
          Lx w wr (wrow p g ((⟨old ++ cuts (m.take k), old.length⟩ : Wk).wv 0) :: (R3 ++ [lr])) g d ∧ Runs d 0 ⟨old ++ cuts (m.take k), old.length⟩ ∧ d.acts ≤ 9 + k) (fun _ i _ => m.length - (intOf i).toNat)
        case atStart => exact ⟨0, d3, a0, c0, R1, by omega, by omega, rfl, rfl, by omega, by omega, by simpa [cuts] using HOW1.out, by simpa [cuts] using HX.out, by simpa [cuts] using R3.out, A3.out⟩
        case round =>
          clear HX A3
          obtain ⟨k, d, a3, c3, R4, hk1, hk2, rfl, rfl, hkc, hcc3, how2, hx, hr, hda⟩ := hrel
          have HX := Lib.hid hx
          have HOWT := Lib.hid how2
          have HR := Lib.hid hr
          have HDA := Lib.hid hda
          have hcl2 : (cuts (m.take k)).length = k := by rw [cuts_length, List.length_take]; omega
          have HCT : Hid ((old ++ cuts (m.take k)).length = n + k) := Lib.hid (by rw [List.length_append, HCL.out, hcl2])
          have hln2 : n + k ≤ 16 := by omega
          clear how2 hx hr hda hcl2
          by_cases hlt : k < m.length ∧ k < 8
          · obtain ⟨h1, h2⟩ := hlt
            obtain ⟨x, hx1⟩ : ∃ x, m[k]? = some x := ⟨_, List.getElem?_eq_getElem h1⟩
            obtain ⟨b, off, rfl, hbB, hat⟩ := (HS2.out.below HX.out.lw.st.below).2 (by omega)
            have g0 := hat k _ (strs_at m k x hx1)
            have HFEW := Lib.hid (few_text x (HG2.out x (List.mem_of_getElem? hx1)))
            have HSN : Hid (old ++ cuts (m.take (k + 1)) = (old ++ cuts (m.take k)) ++ [x.take 1000]) := Lib.hid (by rw [cuts_snoc m k x hx1, List.append_assoc])
            have i1 : (k : Int) < (m.length : Int) := by omega
            have i2 : (k : Int) < 8 := by omega
            obtain ⟨s, hs⟩ : ∃ s, s = x.take 1000 := ⟨_, rfl⟩
            have hsl : s.length ≤ 1000 := by rw [hs, List.length_take]; omega
            rw [← hs] at HFEW HSN
            have hfr : (frames (old ++ cuts (m.take k))).length ≤ 16 * 1008 := by
              have := frames_short (old ++ cuts (m.take k)) (fun x hx => by
                rcases List.mem_append.1 hx with hx | hx
                · exact HSH.out x hx
                · exact cuts_short _ x hx)
              rw [HCT.out] at this
              omega
            have HFRM := Lib.hid hfr
            clear hat hx1 hs hfr
            obtain ⟨ls1, hls1⟩ : ∃ x, x = old ++ cuts (m.take (k + 1)) := ⟨_, rfl⟩
            obtain ⟨ls0, hls0⟩ : ∃ x, x = old ++ cuts (m.take k) := ⟨_, rfl⟩
            rw [← hls1, ← hls0] at HSN
            rw [← hls0] at HX HOWT HR HCT HFRM
            have HL1 := Lib.hid hls1
            clear hls1 hls0
            go_wp2_with fail
            refine (HFEW.out _).mono ?_
            rintro e w15 ⟨rfl, hb⟩
            replace HX := Lib.hid (HX.out.call hb)
            clear hb HFEW g0
            obtain ⟨c, w17, hcv, hin, hb⟩ := text_bytes s (by omega) w15
            have HC := Lib.hid ((HX.out.call hb).wappend (w64 0 (by omega)) (by have := HDA.out; omega) (by show ls0.length + 1 ≤ _; rw [HCT.out]; omega) hin)
            clear hin hb
            by_cases hah : d.ahead = 1
            · have e' := HR.out.append_lost (b := s) (by omega) (by have := HFRM.out; simp only; omega) hah
              rw [e'] at HC
              have HT : Hid (∃ dz kk, Runs dz 0 ⟨ls0, old.length⟩ ∧ ((d.lose d.keep).crash [kp]).up = (dz.crash kk).up) := Lib.hid ⟨d, d.keep, HR.out, lost_crash HR.out.down _ _⟩
              have HAT : Hid ((d.lose d.keep).acts ≤ 20) := Lib.hid (by have := HDA.out; show d.acts ≤ 20; omega)
              clear e' hah
              generalize d.lose d.keep = d5 at *
              go_wp2_with fail
              refine HC.out.mono ?_
              rintro e w18 ⟨rfl, hx⟩
              have H := Lib.hid hx.lw
              clear hx HC hcv HX
              obtain ⟨dz, kk, hrz, hez⟩ := HT.out
              obtain ⟨j, j1, j2, -, -, j5, j6, j7⟩ := lost_at hrz kk
              rw [← hez] at j5 j6 j7
              obtain ⟨o1, o2⟩ := opens_again j7.fits (by show j = (ls0.take j).length; rw [List.length_take]; have : j ≤ ls0.length := j1; omega) j7.down
              have hjl : (ls0.take j).length = j := by rw [List.length_take]; exact Nat.min_eq_left j1
              have J5 := Lib.hid j5
              have J6 := Lib.hid j6
              have O1 := Lib.hid o1
              have O2 := Lib.hid o2
              have HJL := Lib.hid hjl
              have hjq : j ≤ (n + k) := by rw [← HCT.out]; exact j1
              have hnj : n ≤ j := by rw [← HCL.out]; exact j2
              have A6 : Hid ((d5.crash [kp]).up.acts ≤ 20) := Lib.hid (by rw [crash_acts]; exact HAT.out)
              have A7 : Hid ((opens (d5.crash [kp]).up 0).1.acts ≤ 21) := Lib.hid (by have h1 := opens_acts (d5.crash [kp]).up 0; have := A6.out; omega)
              clear hrz hez j1 j2 j5 j6 j7 o1 o2 hjl HT HAT
              obtain ⟨l0, l1⟩ := HLR.out w18 fun r hr => H.out.st.knows r (by rw [List.mem_singleton.1 hr]; simp)
              go_wp2_with fail
              try clear q1 q2
              try clear q1
              have hk := H.out.alloc w18.heap.size rfl 3 #[.int .i64 kp]
              refine (hk.crash (inI_known (fr := ()) hk (l := [kp]) (List.mem_cons_self ..) (by simp) (fun n hn => by rw [List.mem_singleton.1 hn]; exact HKP.out))).mono ?_
              rintro e w11 ⟨rfl, hl⟩
              replace H := Lib.hid (hl.few (L' := R4) (fun r hr => by simp [hr]))
              clear hl hk l0 l1
              go_wp2_with fail
              refine H.out.up.mono ?_
              rintro e w12 ⟨rfl, hl⟩
              replace H := Lib.hid hl
              clear hl
              generalize (d5.crash [kp]).up = dU at *
              have HOP := Lib.hid (H.out.wopen (w64 0 (by omega)) (by have := A6.out; omega) J6.out)
              rw [J5.out, HJL.out] at HOP
              generalize (opens dU 0).1 = dV at *
              go_wp2_with fail
              refine HOP.out.mono ?_
              rintro e w13 ⟨p2, h2, RT, rfl, hl, -, -, -, ht⟩
              have HT1 := Lib.hid ht
              replace H : Hid (Lw w w13 (RT ++ R4) g dV) := Lib.hid (hl.few (fun r hr => List.mem_cons_of_mem _ hr))
              clear hl ht HOP
              have HOP := Lib.hid (H.out.wopen (w64 0 (by omega)) (by have := A7.out; omega) (by rw [O1.out]))
              rw [O2.out] at HOP
              simp only [HJL.out] at HOP
              go_wp2_with fail
              refine HOP.out.mono ?_
              rintro e w14 ⟨p3, h3, RT2, rfl, hl, -, -, -, ht⟩
              have HT2 := Lib.hid ht
              replace H := Lib.hid hl
              clear hl ht HOP
              obtain ⟨dW, hdW⟩ : ∃ dW, dW = (opens dV 0).1 := ⟨_, rfl⟩
              rw [← hdW] at H
              clear hdW
              have KN : Hid (∀ x, Below w14.heap.size w14 x → Knows x RT ∧ Knows x RT2 ∧ Knows x R4) := Lib.hid fun x hb => by
                have hk := (H.out.call hb).st.knows
                exact ⟨fun r hr => hk r (by simp [hr]), fun r hr => hk r (by simp [hr]), fun r hr => hk r (by simp [hr])⟩
              have HSM1 := Lib.hid (by
                obtain ⟨k1, k2, k3⟩ := KN.out w14 (Below.refl _ _)
                exact same_any w14.heap.size w14.heap.size (some ⟨h2, 0, none⟩) a3 (ls0.take j).length c3 (ls0.take j) (ls0.take j) w14 (by rw [HJL.out]; omega) (HT1.out.shows w14 k1) (HOWT.out.first HCT.out.symm k3 j (by rw [HCT.out]; exact hjq)) (Nat.le_refl _) (Nat.le_refl _))
              rw [decide_eq_true rfl, HJL.out] at HSM1
              have HSM2 : Hid (∀ x, Below w14.heap.size w14 x → Calls Try.prog 27 #[.slice (some ⟨h3, 0, none⟩) j j, .slice a3 j c3] x fun e w' => e = .returned (.bool true) ∧ Below x.heap.size x w') := Lib.hid fun x hb => by
                obtain ⟨k1, k2, k3⟩ := KN.out x hb
                have := same_any x.heap.size x.heap.size (some ⟨h3, 0, none⟩) a3 (ls0.take j).length c3 (ls0.take j) (ls0.take j) x (by rw [HJL.out]; omega) (HT2.out.shows x k2) (HOWT.out.first HCT.out.symm k3 j (by rw [HCT.out]; exact hjq)) (Nat.le_refl _) (Nat.le_refl _)
                rw [decide_eq_true rfl, HJL.out] at this
                exact this
              have m1 : ¬ ((j : Int) < (n : Int)) := by omega
              have m2 : ¬ ((((n + k) : Nat) : Int) < (j : Int)) := by omega
              go_wp2_with fail
              refine HSM1.out.mono ?_
              rintro e w15 ⟨rfl, hb⟩
              replace HSM2 := Lib.hid (HSM2.out w15 hb)
              have HB5 := Lib.hid (H.out.call hb)
              clear hb HSM1
              go_wp2_with fail
              refine HSM2.out.mono ?_
              rintro e w16 ⟨rfl, hb⟩
              have HB := Lib.hid (HB5.out.call hb).st.below
              clear hb HSM2
              go_wp2_with fail
              go_ret
              exact ⟨rfl, HB.out⟩
            · obtain ⟨d', e', r', p', -⟩ := HR.out.append (b := s) (by omega) (by have := HFRM.out; simp only; omega) hah
              simp only at e' r'
              rw [e'] at HC
              have R' := Lib.hid r'
              have P' := Lib.hid p'
              clear e' r' p' hah
              go_wp2_with fail
              refine HC.out.mono ?_
              rintro e w18 ⟨rfl, hx⟩
              replace HX := Lib.hid hx
              clear hx HC hcv
              have hll2 : ls0.length = n + k := HCT.out
              go_wp2_with (at_builtin; refine wpList_appX (W := w) (w := w18) (P := [wrow p g ((⟨ls0 ++ [s], old.length⟩ : Wk).wv 0)]) (R := R4) (L := [lr]) rfl (.tmp 110) (.tmp 112) rfl w.heap.size (.slice a3 (n + k) c3) ls0 (by rfl) HX.out HOWT.out (Nat.le_refl _) HX.out.lw.st.below.size s _ rfl rfl (by omega) ?_)
              intro a1 c1 w19 R5 how1 hc11 hc12 hx hz6
              have HX6 := Lib.hid hx
              rw [← HSN.out] at how1
              have HOW6 := Lib.hid how1
              clear how1 hx hll2
              go_wp2_with fail
              go_roundw
              case rel =>
                refine ⟨k + 1, d', _, c1, R5, by omega, by omega, by go_num, rfl, by omega, hc12, ?_, ?_, ?_, ?_⟩
                · rw [← HL1.out]; exact HOW6.out
                · rw [← HL1.out, HSN.out]; exact HX6.out
                · rw [← HL1.out, HSN.out]; exact R'.out
                · have := P'.out.acts
                  have := HDA.out
                  omega
              case measure => simp [intOf]; omega
          · obtain ⟨lf, hlf⟩ : ∃ x, x = old ++ cuts (m.take k) := ⟨_, rfl⟩
            rw [← hlf] at HX HOWT HR HCT
            clear hlf
            have HT : Hid (∃ dz kk, Runs dz 0 ⟨lf, old.length⟩ ∧ (d.crash [kp]).up = (dz.crash kk).up) := Lib.hid ⟨d, _, HR.out, rfl⟩
            have HAT : Hid (d.acts ≤ 20) := Lib.hid (by have := HDA.out; omega)
            have H := Lib.hid HX.out.lw
            have hend : ((k : Int) < m.length ∧ ¬ (k : Int) < 8) ∨ ¬ (k : Int) < m.length := by omega
            clear hlt HX HR
            rcases hend with ⟨q1, q2⟩ | q1
            all_goals
              obtain ⟨dz, kk, hrz, hez⟩ := HT.out
              obtain ⟨j, j1, j2, -, -, j5, j6, j7⟩ := lost_at hrz kk
              rw [← hez] at j5 j6 j7
              obtain ⟨o1, o2⟩ := opens_again j7.fits (by show j = (lf.take j).length; rw [List.length_take]; have : j ≤ lf.length := j1; omega) j7.down
              have hjl : (lf.take j).length = j := by rw [List.length_take]; exact Nat.min_eq_left j1
              have J5 := Lib.hid j5
              have J6 := Lib.hid j6
              have O1 := Lib.hid o1
              have O2 := Lib.hid o2
              have HJL := Lib.hid hjl
              have hjq : j ≤ (n + k) := by rw [← HCT.out]; exact j1
              have hnj : n ≤ j := by rw [← HCL.out]; exact j2
              have A6 : Hid ((d.crash [kp]).up.acts ≤ 20) := Lib.hid (by rw [crash_acts]; exact HAT.out)
              have A7 : Hid ((opens (d.crash [kp]).up 0).1.acts ≤ 21) := Lib.hid (by have h1 := opens_acts (d.crash [kp]).up 0; have := A6.out; omega)
              clear hrz hez j1 j2 j5 j6 j7 o1 o2 hjl HT HAT
              obtain ⟨l0, l1⟩ := HLR.out wr fun r hr => H.out.st.knows r (by rw [List.mem_singleton.1 hr]; simp)
              go_wp2_with fail
              try clear q1 q2
              try clear q1
              have hk := H.out.alloc wr.heap.size rfl 3 #[.int .i64 kp]
              refine (hk.crash (inI_known (fr := ()) hk (l := [kp]) (List.mem_cons_self ..) (by simp) (fun n hn => by rw [List.mem_singleton.1 hn]; exact HKP.out))).mono ?_
              rintro e w11 ⟨rfl, hl⟩
              replace H := Lib.hid (hl.few (L' := R4) (fun r hr => by simp [hr]))
              clear hl hk l0 l1
              go_wp2_with fail
              refine H.out.up.mono ?_
              rintro e w12 ⟨rfl, hl⟩
              replace H := Lib.hid hl
              clear hl
              generalize (d.crash [kp]).up = dU at *
              have HOP := Lib.hid (H.out.wopen (w64 0 (by omega)) (by have := A6.out; omega) J6.out)
              rw [J5.out, HJL.out] at HOP
              generalize (opens dU 0).1 = dV at *
              go_wp2_with fail
              refine HOP.out.mono ?_
              rintro e w13 ⟨p2, h2, RT, rfl, hl, -, -, -, ht⟩
              have HT1 := Lib.hid ht
              replace H : Hid (Lw w w13 (RT ++ R4) g dV) := Lib.hid (hl.few (fun r hr => List.mem_cons_of_mem _ hr))
              clear hl ht HOP
              have HOP := Lib.hid (H.out.wopen (w64 0 (by omega)) (by have := A7.out; omega) (by rw [O1.out]))
              rw [O2.out] at HOP
              simp only [HJL.out] at HOP
              go_wp2_with fail
              refine HOP.out.mono ?_
              rintro e w14 ⟨p3, h3, RT2, rfl, hl, -, -, -, ht⟩
              have HT2 := Lib.hid ht
              replace H := Lib.hid hl
              clear hl ht HOP
              obtain ⟨dW, hdW⟩ : ∃ dW, dW = (opens dV 0).1 := ⟨_, rfl⟩
              rw [← hdW] at H
              clear hdW
              have KN : Hid (∀ x, Below w14.heap.size w14 x → Knows x RT ∧ Knows x RT2 ∧ Knows x R4) := Lib.hid fun x hb => by
                have hk := (H.out.call hb).st.knows
                exact ⟨fun r hr => hk r (by simp [hr]), fun r hr => hk r (by simp [hr]), fun r hr => hk r (by simp [hr])⟩
              have HSM1 := Lib.hid (by
                obtain ⟨k1, k2, k3⟩ := KN.out w14 (Below.refl _ _)
                exact same_any w14.heap.size w14.heap.size (some ⟨h2, 0, none⟩) a3 (lf.take j).length c3 (lf.take j) (lf.take j) w14 (by rw [HJL.out]; omega) (HT1.out.shows w14 k1) (HOWT.out.first HCT.out.symm k3 j (by rw [HCT.out]; exact hjq)) (Nat.le_refl _) (Nat.le_refl _))
              rw [decide_eq_true rfl, HJL.out] at HSM1
              have HSM2 : Hid (∀ x, Below w14.heap.size w14 x → Calls Try.prog 27 #[.slice (some ⟨h3, 0, none⟩) j j, .slice a3 j c3] x fun e w' => e = .returned (.bool true) ∧ Below x.heap.size x w') := Lib.hid fun x hb => by
                obtain ⟨k1, k2, k3⟩ := KN.out x hb
                have := same_any x.heap.size x.heap.size (some ⟨h3, 0, none⟩) a3 (lf.take j).length c3 (lf.take j) (lf.take j) x (by rw [HJL.out]; omega) (HT2.out.shows x k2) (HOWT.out.first HCT.out.symm k3 j (by rw [HCT.out]; exact hjq)) (Nat.le_refl _) (Nat.le_refl _)
                rw [decide_eq_true rfl, HJL.out] at this
                exact this
              have m1 : ¬ ((j : Int) < (n : Int)) := by omega
              have m2 : ¬ ((((n + k) : Nat) : Int) < (j : Int)) := by omega
              go_wp2_with fail
              refine HSM1.out.mono ?_
              rintro e w15 ⟨rfl, hb⟩
              replace HSM2 := Lib.hid (HSM2.out w15 hb)
              have HB5 := Lib.hid (H.out.call hb)
              clear hb HSM1
              go_wp2_with fail
              refine HSM2.out.mono ?_
              rintro e w16 ⟨rfl, hb⟩
              have HB := Lib.hid (HB5.out.call hb).st.below
              clear hb HSM2
              go_wp2_with fail
              go_ret
              exact ⟨rfl, HB.out⟩

set_option maxRecDepth 100000 in
theorem lifted (os : Os) (started : os.Started) (H : Type) (enc : TypeId × Value → H) :
    ReturnsInHanded {} Try.checked os 5 .any (Rows.walWholeSpec.pre6 enc Try.prog Try.f5 Rows.walWholeRow.domain false) (Rows.walWholeSpec.post enc Try.prog Try.f5 false true false false) := by
  refine returnsInHanded_of_change (C := Try.checked) own started (by kernel_rfl) Try.func5
    (ChangeSpec.witness6 (enc := enc) (C := Try.checked) false ⟨#[], #[.slice none 0 0, .slice none 0 0, .agg #[.int .i64 0, .int .u8 0]], []⟩ 8 (by kernel_rfl) (by kernel_rfl) (by kernel_rfl) (by kernel_rfl)) ?_
  intro W base args ds gs before hval0 hW hcnd _
  have hval : ∀ (j : Nat) t v, Try.f5.params[j]? = some t → args[j]? = some v → Value.okWide Try.prog W .any base t v := hval0
  have hW' := hW
  obtain ⟨p, q, hA0, hV, rfl, hfz, hnd⟩ := hW
  have hA : DataW.TrodAll enc Try.prog W 0 (fun _ => true) true Try.f5.params.toList args.toList ds p := hA0
  rw [Try.params5] at hA hval
  obtain ⟨v0, vs0, d0, ds0, p0, q0, hargs, rfl, rfl, h0, r0⟩ := trodAll_cons hA
  obtain ⟨v1, vs1, d1, ds1, p1, q1, rfl, rfl, rfl, h1, r1⟩ := trodAll_cons r0
  obtain ⟨v2, vs2, d2, ds2, p2, q2, rfl, rfl, rfl, h2, r2⟩ := trodAll_cons r1
  obtain ⟨rfl, rfl, rfl⟩ := trodAll_nil r2
  obtain rfl : args = #[v0, v1, v2] := by cases args; simp_all
  obtain ⟨rfl, rfl⟩ := trodVars_none hV
  obtain ⟨A0, len0, cap0, rfl⟩ := okWide_slice Try.underlying35 (hval 0 35 v0 rfl rfl)
  obtain ⟨l0, w0⟩ := open_texts h0
  have lt0 : ∀ x ∈ p0, x.block < W.heap.size := by obtain ⟨m, hm⟩ := h0; exact DataW.trod_lt m _ _ _ hm
  obtain ⟨A1, len1, cap1, rfl⟩ := okWide_slice Try.underlying35 (hval 1 35 v1 rfl rfl)
  obtain ⟨l1, w1⟩ := open_texts h1
  have lt1 : ∀ x ∈ p1, x.block < W.heap.size := by obtain ⟨m, hm⟩ := h1; exact DataW.trod_lt m _ _ _ hm
  obtain ⟨k2, a2, rfl, w2⟩ := open_loss (hval 2 64 v2 rfl rfl) h2
  have lt2 : ∀ x ∈ p2, x.block < W.heap.size := by obtain ⟨m, hm⟩ := h2; exact DataW.trod_lt m _ _ _ hm
  clear hA0 hval0
  simp only [List.append_nil] at hW'
  refine (walk A0 len0 cap0 l0 A1 len1 cap1 l1 k2 a2 w2 W w0 w1).mono fun e W' ⟨he, bel⟩ => ?_
  subst he
  exact ⟨_, rfl, _, _, _, [], _, [], hW', trodAll_mk1 (shut_bool Try.underlying4 _), (trodAll_cons_mk (Below.trod laidOut (by kernel_rfl) (of_decide_eq_true (by kernel_rfl)) h0 bel lt0) (trodAll_cons_mk (Below.trod laidOut (by kernel_rfl) (of_decide_eq_true (by kernel_rfl)) h1 bel lt1) (trodAll_cons_mk (Below.trod laidOut (by kernel_rfl) (of_decide_eq_true (by kernel_rfl)) h2 bel lt2) trodAll_mk0))), rfl, bel.frame _, fun h => by cases h⟩

theorem proved : Rows.WalWholeSaid :=
  OpenClaim.holds_of_wide 5 Try.f5 rfl rfl rfl rfl rfl rfl rfl ⟨rfl, rfl, rfl, rfl, rfl⟩ rfl rfl rfl rfl rfl (by kernel_rfl) Try.func5 (by kernel_rfl)
    (of_decide_eq_true (by kernel_rfl)) (by unfold Func.isWrapper; first | (rw [if_pos (by decide +kernel)]; kernel_rfl) | (rw [if_neg (by decide +kernel)]; exact ⟨rfl, rfl⟩))
    (fun os started H enc _ => lifted os started H enc)
#print axioms proved
end Go.Proofs.Ytpfpaebbkolpkaa.walWhole
