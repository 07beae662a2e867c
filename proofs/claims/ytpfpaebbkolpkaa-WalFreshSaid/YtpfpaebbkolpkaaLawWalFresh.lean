/- A wal that is given other loads has the old ones or the new ones, whole: moietylaw08.WalFresh answers true. For every two lists of texts and number of eight bits; no conditions. -/
import Derived.Test.YtpfpaebbkolpkaaWalB
namespace Go.Proofs.Ytpfpaebbkolpkaa.walFresh
open Go.ChangeShapes Go.WideShapes Go.ChangeAt Go.RowKit Go.Dk Go.Fm Go.Wl
set_option linter.unusedVariables false
set_option linter.unusedSimpArgs false

theorem bit_u8 (a : Int) (h : 0 ≤ a ∧ a ≤ 255) : bits .and .u8 a 1 = 0 ∨ bits .and .u8 a 1 = 1 := by
  have key : ∀ n : Fin 256, bits .and .u8 ((n.val : Nat) : Int) 1 = 0 ∨ bits .and .u8 ((n.val : Nat) : Int) 1 = 1 := by decide +kernel
  have := key ⟨a.toNat, by omega⟩
  rwa [show ((a.toNat : Nat) : Int) = a by omega] at this
set_option maxRecDepth 100000 in
set_option maxHeartbeats 8000000 in
theorem walk (A : Option Addr) (len cap : Nat) (l : List (List UInt8)) (A2 : Option Addr) (len2 cap2 : Nat) (m : List (List UInt8)) (a2 : Int) (ha : 0 ≤ a2 ∧ a2 ≤ 255) (w : World)
    (hL : IsR w A len cap 1 encS (fun s => s.length ≤ 9223372036854775807) l) (hM : IsR w A2 len2 cap2 1 encS (fun s => s.length ≤ 9223372036854775807) m) :
    Calls Try.prog 6 #[.slice A len cap, .slice A2 len2 cap2, .int .u8 a2] w fun r w' => r = .returned (.bool true) ∧ Below w.heap.size w w' := by
  obtain ⟨hlen, hs, hc1, hc2, hn, hg⟩ := hL
  subst hlen
  obtain ⟨hlen, hs2, hc3, hc4, hn2, hg2⟩ := hM
  subst hlen
  rw [flat_texts] at hs hs2
  have HS := Lib.hid hs
  have HG := Lib.hid hg
  have HS2 := Lib.hid hs2
  have HG2 := Lib.hid hg2
  obtain ⟨r0, eo, es⟩ := new_runs 1 (by omega) (by omega) 0 (by omega)
  have A0 : Hid ((D.new 1).acts = 0) := Lib.hid rfl
  have AH : Hid ((D.new 1).ahead = 0) := Lib.hid rfl
  have R0 := Lib.hid r0
  have E0 := Lib.hid eo
  have S0 := Lib.hid es
  have HNEW := Lib.hid (fun (w : World) => new_lw (St.start w) 1 (by omega) (by omega))
  have HA := Lib.hid ha
  clear r0 eo es hs hs2 hg hg2 hn hn2 ha
  generalize D.new 1 = d0 at *
  go_enter Try.func6, Try.ntmps6
  go_wp2_with fail
  refine (HNEW.out _).mono ?_
  rintro e w1 ⟨g, rfl, hl⟩
  have H : Hid (Lw w w1 [] g d0) := Lib.hid hl
  clear hl HNEW
  go_wp2_with fail
  refine (H.out.wopen (w64 0 (by omega)) (by rw [A0.out]; omega) (by rw [E0.out])).mono ?_
  rintro e w2 ⟨p, h, R, rfl, hl, hp, hd, -, -⟩
  rw [S0.out, E0.out] at hl
  rw [S0.out]
  simp only [List.length_nil] at hl ⊢
  have HX : Hid (Lx w w2 [wrow p g ((⟨[], 0⟩ : Wk).wv 0)] g d0) := Lib.hid ⟨hl.few (fun r hr => by rw [List.mem_singleton.1 hr]; exact List.mem_cons_self ..), List.pairwise_singleton _ _, fun r hr => by rw [List.mem_singleton.1 hr]; exact Nat.le_trans H.out.st.below.size hp⟩
  clear hl hp hd H
  go_wp2_with fail
  refine (awake_any _).mono ?_
  rintro e w3 ⟨rfl, hb⟩
  replace HX := Lib.hid (HX.out.call hb)
  clear hb
  obtain ⟨R1, ow1, hx1⟩ := HX.out.owned ((Below.refl _ _).alloc (Nat.le_refl _) (.cells #[] 9)) (own_empty w3 9 1)
  have hx1' := hx1.perm List.perm_middle
  obtain ⟨R2, ow2, hx2⟩ := hx1'.owned ((Below.refl _ _).alloc (Nat.le_refl _) (.cells #[] 9)) (own_empty (w3.alloc (.cells #[] 9)) 9 1)
  have hz3 : (w3.alloc (.cells #[] 9)).heap.size = w3.heap.size + 1 := by simp
  rw [hz3] at ow2
  have HX2 := Lib.hid (hx2.perm List.perm_middle)
  have HZ : Hid (w.heap.size ≤ w3.heap.size) := Lib.hid HX.out.lw.st.below.size
  have HOW1 : Hid (OwnT R1 w3.heap.size (.slice (some ⟨w3.heap.size, 0, none⟩) 0 0) []) := Lib.hid ow1
  have HOW2 : Hid (OwnT R2 (w3.heap.size + 1) (.slice (some ⟨w3.heap.size + 1, 0, none⟩) 0 0) []) := Lib.hid ow2
  have HWZ : Hid (∀ wr, Knows wr R2 → w3.heap.size + 1 < wr.heap.size) := Lib.hid fun wr hk => by
    obtain ⟨r, hr, e⟩ := OwnR.block ow2 wr rfl
    have e' : r.1 = w3.heap.size + 1 := e
    rw [← e']; exact (hk r hr).lt
  clear HX hx1 hx1' hx2 ow1 ow2 hz3
  go_wp2_with fail
  go_loopw [12, 14] (fun u i wr => ∃ (n : Nat) (d : D) (a0 : Option Addr) (c0 : Nat) (R1 : List Row), n ≤ l.length ∧ n ≤ 8 ∧ i = .int .i64 (n : Int) ∧ u = .slice a0 n c0 ∧ n ≤ c0 ∧ c0 ≤ 9223372036854775807 ∧ OwnT R1 w3.heap.size (.slice a0 n c0) (cuts (l.take n)) ∧
    Lx w wr (wrow p g ((⟨cuts (l.take n), 0⟩ : Wk).wv 0) :: (R2 ++ (R1 ++ []))) g d ∧ Runs d 0 ⟨cuts (l.take n), 0⟩ ∧ d.acts = n ∧ d.ahead = 0) (fun _ i _ => l.length - (intOf i).toNat)
  case atStart => exact ⟨0, d0, _, _, R1, by omega, by omega, rfl, rfl, by omega, by omega, HOW1.out, HX2.out, R0.out, A0.out, AH.out⟩
  case round =>
    clear HOW1 HX2 R0 A0 AH E0 S0 R1
    obtain ⟨n, d, a0, c0, R1, hn1, hn2, rfl, rfl, hnc, hcc, how1, hx, hr, hda, hdh⟩ := hrel
    have hwz : w3.heap.size + 1 < wr.heap.size := HWZ.out wr fun r hr => hx.lw.st.knows r (by simp [hr])
    have HX := Lib.hid hx
    have HOW1 := Lib.hid how1
    have HR := Lib.hid hr
    have HDA := Lib.hid hda
    have HDH := Lib.hid hdh
    have hcl : (cuts (l.take n)).length = n := by rw [cuts_length, List.length_take]; omega
    have HCL := Lib.hid hcl
    clear how1 hx hr hda hdh hcl
    by_cases hlt : n < l.length ∧ n < 8
    · obtain ⟨h1, h2⟩ := hlt
      obtain ⟨x, hx1⟩ : ∃ x, l[n]? = some x := ⟨_, List.getElem?_eq_getElem h1⟩
      obtain ⟨b, off, rfl, hbB, hat⟩ := (HS.out.below HX.out.lw.st.below).2 (by omega)
      have g0 := hat n _ (strs_at l n x hx1)
      have HFEW := Lib.hid (few_text x (HG.out x (List.mem_of_getElem? hx1)))
      have HSN := Lib.hid (cuts_snoc l n x hx1)
      have HAT := Lib.hid (cuts_at l n x hx1)
      have i1 : (n : Int) < (l.length : Int) := by omega
      have i2 : (n : Int) < 8 := by omega
      obtain ⟨s, hs⟩ : ∃ s, s = x.take 1000 := ⟨_, rfl⟩
      have hsl : s.length ≤ 1000 := by rw [hs, List.length_take]; omega
      rw [← hs] at HFEW HSN HAT
      have hfr : (frames (cuts (l.take n))).length ≤ 8 * 1008 := by
        have := frames_short _ (cuts_short (l.take n))
        rw [HCL.out] at this
        omega
      clear hat hx1 hs
      obtain ⟨d', e', r', p', -⟩ := HR.out.append (b := s) (by omega) (by simp only; omega) (by rw [HDH.out]; omega)
      simp only at e' r'
      have E' := Lib.hid e'
      have R' := Lib.hid r'
      have P' := Lib.hid p'
      clear e' r' p' hfr
      obtain ⟨ls1, hls1⟩ : ∃ x, x = cuts (l.take (n + 1)) := ⟨_, rfl⟩
      obtain ⟨ls0, hls0⟩ : ∃ x, x = cuts (l.take n) := ⟨_, rfl⟩
      rw [← hls1, ← hls0] at HSN
      rw [← hls0] at HAT HX HOW1 HR HCL E' R'
      have HL1 := Lib.hid hls1
      clear hls1 hls0
      go_wp2_with fail
      refine (HFEW.out _).mono ?_
      rintro e w5 ⟨rfl, hb⟩
      replace HX := Lib.hid (HX.out.call hb)
      have hz5 := hb.size
      clear hb HFEW g0
      have hll : ls0.length = n := HCL.out
      go_wp2_with (at_builtin; refine wpList_appX (W := w) (w := w5) (P := wrow p g ((⟨ls0, 0⟩ : Wk).wv 0) :: R2) (R := R1) (L := []) rfl (.tmp 56) (.tmp 64) rfl w3.heap.size (.slice a0 n c0) ls0 (by rfl) HX.out HOW1.out HZ.out (by omega) s _ rfl rfl (by omega) ?_)
      intro a1 c1 w6 R1' how1 hc11 hc12 hx hz6
      have HX6 := Lib.hid hx
      rw [← HSN.out] at how1
      have HOW6 := Lib.hid how1
      obtain ⟨b1, rfl, k1⟩ := how1.text (w := w6) (fun r hr => hx.lw.st.knows r (by simp [hr])) n s (by rw [HSN.out]; exact HAT.out)
      obtain ⟨c, w7, hcv, hin, hb⟩ := text_bytes s (by omega) w6
      have HC := Lib.hid ((HX6.out.call hb).wappend (w64 0 (by omega)) (by rw [HDA.out]; omega) (by show ls0.length + 1 ≤ _; omega) hin)
      rw [E'.out] at HC
      have hz7 := hb.size
      clear how1 hx hin hb hll
      go_wp2_with fail
      refine HC.out.mono ?_
      rintro e w8 ⟨rfl, hx⟩
      have HX8 := Lib.hid hx
      clear hx HC hcv k1
      go_wp2_with fail
      go_roundw
      case rel =>
        refine ⟨n + 1, d', _, c1, R1', by omega, by omega, by go_num, rfl, hc11, hc12, ?_, ?_, ?_, ?_, ?_⟩
        · rw [← HL1.out]; exact HOW6.out
        · rw [← HL1.out, HSN.out]; simpa using HX8.out
        · rw [← HL1.out, HSN.out]; exact R'.out
        · have := P'.out.acts
          rw [HDA.out] at this; exact this
        · have := P'.out.ahead
          rw [HDH.out] at this; exact this
      case measure => simp [intOf]; omega
    · have hln : (cuts (l.take n)).length ≤ 8 := by rw [HCL.out]; exact hn2
      have hsh : ∀ x ∈ cuts (l.take n), x.length ≤ 1000 := cuts_short _
      obtain ⟨old, hold⟩ : ∃ x, x = cuts (l.take n) := ⟨_, rfl⟩
      rw [← hold] at hln hsh HX HOW1 HR HCL
      obtain ⟨d2, e2, r2, p2, -⟩ := HR.out.sync (by rw [HDH.out]; omega)
      have E2 := Lib.hid e2
      have R2' := Lib.hid r2
      have P2 := Lib.hid p2
      have HSY := Lib.hid (HX.out.wsync (w64 0 (by omega)) (by rw [HDA.out]; omega))
      rw [E2.out] at HSY
      have HSH := Lib.hid hsh
      clear hold e2 r2 p2 hsh HX HR
      have hend : (n < l.length ∧ n = 8) ∨ n = l.length := by omega
      rcases hend with ⟨h1, rfl⟩ | rfl
      all_goals
        clear hlt
        go_wp2_with fail
        refine HSY.out.mono ?_
        rintro e w5 ⟨rfl, hx⟩
        have HX := Lib.hid hx
        clear hx HSY
        have A2 : Hid (d2.acts ≤ 9) := Lib.hid (by rw [P2.out.acts, HDA.out]; omega)
        have AH2 : Hid (d2.ahead = 0) := Lib.hid (by rw [P2.out.ahead, HDH.out])
        clear E2 P2 HDA HDH
        go_wp2_with fail
        go_loopw [13, 15] (fun u i wr => ∃ (k : Nat) (a3 : Option Addr) (c3 : Nat) (R2 : List Row), k ≤ m.length ∧ k ≤ 8 ∧ i = .int .i64 (k : Int) ∧ u = .slice a3 k c3 ∧ k ≤ c3 ∧ c3 ≤ 9223372036854775807 ∧ OwnT R2 (w3.heap.size + 1) (.slice a3 k c3) (cuts (m.take k)) ∧
          Lx w wr (wrow p g ((⟨old, old.length⟩ : Wk).wv 0) :: (R2 ++ (R1 ++ []))) g d2 ∧ w3.heap.size + 1 ≤ wr.heap.size) (fun _ i _ => m.length - (intOf i).toNat)
        case atStart => exact ⟨0, _, _, R2, by omega, by omega, rfl, rfl, by omega, by omega, HOW2.out, HX.out, Nat.le_of_lt (HWZ.out w5 fun r hr => HX.out.lw.st.knows r (by simp [hr]))⟩
        case round =>
          clear HOW2 HX HWZ
          obtain ⟨k, a3, c3, R3, hk1, hk2, rfl, rfl, hkc, hcc3, how2, hx, hwz⟩ := hrel
          have HX := Lib.hid hx
          have HOW2 := Lib.hid how2
          have hcl2 : (cuts (m.take k)).length = k := by rw [cuts_length, List.length_take]; omega
          have HCL2 := Lib.hid hcl2
          clear how2 hx hcl2
          by_cases hlt : k < m.length ∧ k < 8
          · obtain ⟨h1, h2⟩ := hlt
            obtain ⟨x, hx1⟩ : ∃ x, m[k]? = some x := ⟨_, List.getElem?_eq_getElem h1⟩
            obtain ⟨b, off, rfl, hbB, hat⟩ := (HS2.out.below HX.out.lw.st.below).2 (by omega)
            have g0 := hat k _ (strs_at m k x hx1)
            have HFEW := Lib.hid (few_text x (HG2.out x (List.mem_of_getElem? hx1)))
            have HSN := Lib.hid (cuts_snoc m k x hx1)
            have i1 : (k : Int) < (m.length : Int) := by omega
            have i2 : (k : Int) < 8 := by omega
            obtain ⟨s, hs⟩ : ∃ s, s = x.take 1000 := ⟨_, rfl⟩
            rw [← hs] at HFEW HSN
            clear hat hx1 hs
            obtain ⟨ls1, hls1⟩ : ∃ x, x = cuts (m.take (k + 1)) := ⟨_, rfl⟩
            obtain ⟨ls0, hls0⟩ : ∃ x, x = cuts (m.take k) := ⟨_, rfl⟩
            rw [← hls1, ← hls0] at HSN
            rw [← hls0] at HOW2 HCL2
            have HL1 := Lib.hid hls1
            clear hls1 hls0
            go_wp2_with fail
            refine (HFEW.out _).mono ?_
            rintro e w5 ⟨rfl, hb⟩
            replace HX := Lib.hid (HX.out.call hb)
            have hz5 := hb.size
            clear hb HFEW g0
            have hll : ls0.length = k := HCL2.out
            go_wp2_with (at_builtin; refine wpList_appX (W := w) (w := w5) (P := [wrow p g ((⟨old, old.length⟩ : Wk).wv 0)]) (R := R3) (L := R1 ++ []) rfl (.tmp 87) (.tmp 95) rfl (w3.heap.size + 1) (.slice a3 k c3) ls0 (by rfl) HX.out HOW2.out (by have := HZ.out; omega) (by omega) s _ rfl rfl (by omega) ?_)
            intro a1 c1 w6 R3' how2 hc11 hc12 hx hz6
            have HX6 := Lib.hid hx
            rw [← HSN.out] at how2
            have HOW6 := Lib.hid how2
            clear how2 hx hll
            go_wp2_with fail
            go_roundw
            case rel =>
              refine ⟨k + 1, _, c1, R3', by omega, by omega, by go_num, rfl, hc11, hc12, ?_, ?_, by omega⟩
              · rw [← HL1.out]; exact HOW6.out
              · simpa using HX6.out
            case measure => simp [intOf]; omega
          · have hln2 : (cuts (m.take k)).length ≤ 8 := by rw [HCL2.out]; exact hk2
            have hsh2 : ∀ x ∈ cuts (m.take k), x.length ≤ 1000 := cuts_short _
            obtain ⟨now, hnow⟩ : ∃ x, x = cuts (m.take k) := ⟨_, rfl⟩
            rw [← hnow] at hln2 hsh2 HOW2 HCL2
            have HSH2 := Lib.hid hsh2
            clear hnow hsh2
            have hend : (k < m.length ∧ k = 8) ∨ k = m.length := by omega
            rcases hend with ⟨h1, rfl⟩ | rfl
            all_goals
              clear hlt
              rcases bit_u8 a2 HA.out with hbit | hbit
              · obtain ⟨r3, a3', h3, -⟩ := R2'.out.arm (n := 0) (w64 0 (by omega)) (keep := []) (fun x hx => by cases hx)
                have HARM := Lib.hid (HX.out.lw.arm (w64 0 (by omega)) (inI_nil _ _ _ 0))
                obtain ⟨d4, e4, r4, p4⟩ := r3.fresh (low_short HSH2.out) (by have := frames_short _ HSH2.out; omega) (by rw [h3 (by omega)]; omega)
                obtain ⟨s5, o5⟩ := lost_all r4 []
                have E4 := Lib.hid e4
                have S5 := Lib.hid s5
                have O5 := Lib.hid o5
                have A3 : Hid ((d2.arm 0 []).acts ≤ 9) := Lib.hid (by rw [a3']; exact A2.out)
                have A5 : Hid ((d4.crash []).up.acts ≤ 10) := Lib.hid (by rw [crash_acts, p4.acts]; have := A3.out; omega)
                clear r3 a3' h3 e4 r4 p4 s5 o5
                generalize d2.arm 0 [] = d3 at *
                go_wp2_with fail
                refine HARM.out.mono ?_
                rintro e w6 ⟨rfl, hl⟩
                have HX6 : Hid (Lx w w6 _ g d3) := Lib.hid ⟨hl, HX.out.far, HX.out.new⟩
                have HBY := Lib.hid (bytes8_any _ a3 c3 now w6 (HOW2.out.sees HCL2.out.symm (fun r hr => hl.st.knows r (by simp [hr]))) (Nat.le_refl _) (by omega) (fun x hx => by have := HSH2.out x hx; omega))
                rw [HCL2.out] at HBY
                clear hl HARM
                go_wp2_with fail
                refine HBY.out.mono ?_
                rintro e w7 ⟨a7, c7, rfl, hb, hsh, hnil⟩
                have HFR := Lib.hid ((HX6.out.call hb).lw.wfresh (cap := c7) HX6.out.own HX6.out.away (w64 0 (by omega)) (by have := A3.out; omega) hsh (Nat.le_refl _) (by omega) hnil)
                rw [E4.out, HCL2.out] at HFR
                clear hb hsh hnil HBY HX
                go_wp2_with fail
                refine HFR.out.mono ?_
                rintro e w8 ⟨rfl, hl⟩
                have H := Lib.hid hl
                clear hl HFR HX6
                go_wp2_with fail
                refine (H.out.crash (inI_nil _ _ _ 0)).mono ?_
                rintro e w9 ⟨rfl, hl⟩
                replace H := Lib.hid hl
                clear hl
                go_wp2_with fail
                refine H.out.up.mono ?_
                rintro e w10 ⟨rfl, hl⟩
                replace H := Lib.hid hl
                clear hl
                have HOP := Lib.hid (H.out.wopen (w64 0 (by omega)) (by have := A5.out; omega) O5.out)
                rw [S5.out, HCL2.out] at HOP
                go_wp2_with fail
                refine HOP.out.mono ?_
                rintro e w11 ⟨p2, h2, RT, rfl, hl, -, -, -, ht⟩
                have HSAME := Lib.hid (same_any w11.heap.size w11.heap.size (some ⟨h2, 0, none⟩) a3 now.length c3 now now w11 (by omega) (ht.shows w11 (fun r hr => hl.st.knows r (by simp [hr]))) (HOW2.out.sees HCL2.out.symm (fun r hr => hl.st.knows r (by simp [hr]))) (Nat.le_refl _) (Nat.le_refl _))
                rw [decide_eq_true rfl, HCL2.out] at HSAME
                replace H := Lib.hid hl
                clear hl ht HOP
                go_wp2_with fail
                refine HSAME.out.mono ?_
                rintro e w12 ⟨rfl, hb⟩
                have HB := Lib.hid (H.out.call hb).st.below
                clear hb HSAME
                go_wp2_with fail
                go_ret
                exact ⟨rfl, HB.out⟩
              · obtain ⟨r3, a3', -, h3⟩ := R2'.out.arm (n := 1) (w64 1 (by omega)) (keep := []) (fun x hx => by cases hx)
                have HARM := Lib.hid (HX.out.lw.arm (w64 1 (by omega)) (inI_nil _ _ _ 0))
                have e4 := r3.fresh_lost (low_short HSH2.out) (by have := frames_short _ HSH2.out; omega) (h3 (by omega))
                obtain ⟨s5, o5⟩ := lost_all r3 (d2.arm 1 []).keep
                rw [← lost_crash r3.down _ []] at s5 o5
                have E4 := Lib.hid e4
                have S5 := Lib.hid s5
                have O5 := Lib.hid o5
                have A3 : Hid ((d2.arm 1 []).acts ≤ 9) := Lib.hid (by rw [a3']; exact A2.out)
                have A5 : Hid ((((d2.arm 1 []).lose (d2.arm 1 []).keep).crash []).up.acts ≤ 10) := Lib.hid (by rw [crash_acts]; have := A3.out; show (d2.arm 1 []).acts ≤ 10; omega)
                clear r3 a3' h3 e4 s5 o5
                generalize d2.arm 1 [] = d3 at *
                generalize d3.lose d3.keep = d4 at *
                obtain ⟨vd, hvd⟩ : ∃ vd : Wv, vd = { (⟨old, old.length⟩ : Wk).wv 0 with dead := true } := ⟨_, rfl⟩
                rw [← hvd] at E4
                have HVD : Hid (vd.dead = true ∧ vd.log = 0) := Lib.hid (by rw [hvd]; exact ⟨rfl, rfl⟩)
                have HVA : Hid (vd.all + 1 ≤ 9223372036854775807) := Lib.hid (by rw [hvd]; show old.length + 1 ≤ _; omega)
                clear hvd
                go_wp2_with fail
                refine HARM.out.mono ?_
                rintro e w6 ⟨rfl, hl⟩
                have HX6 : Hid (Lx w w6 _ g d3) := Lib.hid ⟨hl, HX.out.far, HX.out.new⟩
                have HBY := Lib.hid (bytes8_any _ a3 c3 now w6 (HOW2.out.sees HCL2.out.symm (fun r hr => hl.st.knows r (by simp [hr]))) (Nat.le_refl _) (by omega) (fun x hx => by have := HSH2.out x hx; omega))
                rw [HCL2.out] at HBY
                clear hl HARM
                go_wp2_with fail
                refine HBY.out.mono ?_
                rintro e w7 ⟨a7, c7, rfl, hb, hsh, hnil⟩
                have HFR := Lib.hid ((HX6.out.call hb).lw.wfresh (cap := c7) HX6.out.own HX6.out.away (w64 0 (by omega)) (by have := A3.out; omega) hsh (Nat.le_refl _) (by omega) hnil)
                rw [E4.out, HCL2.out] at HFR
                have HP : Hid (w.heap.size ≤ p) := Lib.hid HX6.out.own
                clear hb hsh hnil HBY HX
                go_wp2_with fail
                refine HFR.out.mono ?_
                rintro e w8 ⟨rfl, hl⟩
                have H := Lib.hid hl
                clear hl HFR HX6
                go_wp2_with fail
                refine (H.out.crash (inI_nil _ _ _ 0)).mono ?_
                rintro e w9 ⟨rfl, hl⟩
                replace H := Lib.hid hl
                clear hl
                go_wp2_with fail
                refine H.out.up.mono ?_
                rintro e w10 ⟨rfl, hl⟩
                replace H := Lib.hid hl
                clear hl
                have HOP := Lib.hid (H.out.wopen (w64 0 (by omega)) (by have := A5.out; omega) O5.out)
                rw [S5.out, HCL.out] at HOP
                have HAC6 := Lib.hid (opens_acts (d4.crash []).up 0)
                go_wp2_with fail
                refine HOP.out.mono ?_
                rintro e w11 ⟨p2, h2, RT, rfl, hl, -, -, -, ht⟩
                have HSAME := Lib.hid (same_any w11.heap.size w11.heap.size (some ⟨h2, 0, none⟩) a0 old.length c0 old old w11 (by omega) (ht.shows w11 (fun r hr => hl.st.knows r (by simp [hr]))) (HOW1.out.sees HCL.out.symm (fun r hr => hl.st.knows r (by simp [hr]))) (Nat.le_refl _) (Nat.le_refl _))
                rw [decide_eq_true rfl, HCL.out] at HSAME
                have H11 := hl.few (L' := [wrow p g vd]) (fun r hr => by rw [List.mem_singleton.1 hr]; simp)
                replace H := Lib.hid H11
                clear hl ht HOP H11
                have HAC : Hid ((opens (d4.crash []).up 0).1.acts + 1 ≤ 9223372036854775807) := Lib.hid (by have := HAC6.out; have := A5.out; omega)
                generalize (opens (d4.crash []).up 0).1 = d6 at *
                have HD : Hid (∀ r ∈ ([] : List Row), r.1 ≠ p) := Lib.hid fun r hr => by cases hr
                go_wp2_with fail
                refine HSAME.out.mono ?_
                rintro e w12 ⟨rfl, hb⟩
                replace H := Lib.hid (H.out.call hb)
                clear hb HSAME
                have HL0 : Hid (W64 vd.log) := Lib.hid (by rw [HVD.out.2]; exact w64 0 (by omega))
                have HCA := Lib.hid (H.out.wappend (A := none) (cap := 0) (bs := []) HP.out HD.out HL0.out HAC.out HVA.out ⟨⟨0, Nat.zero_le _, Sees.nothing _ _ _ _⟩, Nat.le_refl _, by omega, fun _ => rfl⟩)
                rw [dead_append _ _ _ HVD.out.1] at HCA
                go_wp2_with fail
                refine HCA.out.mono ?_
                rintro e w13 ⟨rfl, hl⟩
                replace H := Lib.hid hl
                clear hl HCA
                have HCS := Lib.hid (H.out.wsync HP.out HD.out HL0.out HAC.out)
                rw [dead_sync _ _ HVD.out.1] at HCS
                go_wp2_with fail
                refine HCS.out.mono ?_
                rintro e w14 ⟨rfl, hl⟩
                replace H := Lib.hid hl
                clear hl HCS
                have HCF := Lib.hid (H.out.wfresh (B := 0) (A := none) (cap := 0) (ls := []) HP.out HD.out HL0.out HAC.out (fun h => by simp at h) (Nat.zero_le _) (by simp) (fun b off k l a c h => by cases h))
                rw [dead_fresh _ _ _ HVD.out.1] at HCF
                go_wp2_with fail
                refine HCF.out.mono ?_
                rintro e w15 ⟨rfl, hl⟩
                have HB := Lib.hid hl.st.below
                clear hl HCF
                go_wp2_with fail
                go_ret
                exact ⟨rfl, HB.out⟩

set_option maxRecDepth 100000 in
theorem lifted (os : Os) (started : os.Started) (H : Type) (enc : TypeId × Value → H) :
    ReturnsInHanded {} Try.checked os 6 .any (Rows.walFreshSpec.pre6 enc Try.prog Try.f6 Rows.walFreshRow.domain false) (Rows.walFreshSpec.post enc Try.prog Try.f6 false true false false) := by
  refine returnsInHanded_of_change (C := Try.checked) own started (by kernel_rfl) Try.func6
    (ChangeSpec.witness6 (enc := enc) (C := Try.checked) false ⟨#[], #[.slice none 0 0, .slice none 0 0, .int .u8 0], []⟩ 8 (by kernel_rfl) (by kernel_rfl) (by kernel_rfl) (by kernel_rfl)) ?_
  intro W base args ds gs before hval0 hW hcnd _
  have hval : ∀ (j : Nat) t v, Try.f6.params[j]? = some t → args[j]? = some v → Value.okWide Try.prog W .any base t v := hval0
  have hW' := hW
  obtain ⟨p, q, hA0, hV, rfl, hfz, hnd⟩ := hW
  have hA : DataW.TrodAll enc Try.prog W 0 (fun _ => true) true Try.f6.params.toList args.toList ds p := hA0
  rw [Try.params6] at hA hval
  obtain ⟨v0, vs0, d0, ds0, p0, q0, hargs, rfl, rfl, h0, r0⟩ := trodAll_cons hA
  obtain ⟨v1, vs1, d1, ds1, p1, q1, rfl, rfl, rfl, h1, r1⟩ := trodAll_cons r0
  obtain ⟨v2, vs2, d2, ds2, p2, q2, rfl, rfl, rfl, h2, r2⟩ := trodAll_cons r1
  obtain ⟨rfl, rfl, rfl⟩ := trodAll_nil r2
  obtain rfl : args = #[v0, v1, v2] := by cases args; simp_all
  obtain ⟨rfl, rfl⟩ := trodVars_none hV
  obtain ⟨A0, len0, cap0, rfl⟩ := okWide_slice Try.underlying35 (hval 0 35 v0 rfl rfl)
  obtain ⟨l0, w0⟩ := open_texts h0
  have lt0 : ∀ x ∈ p0, x.block < W.heap.size := by obtain ⟨m, hm⟩ := h0; exact DataW.trod_lt m _ _ _ hm
  obtain ⟨A1, len1, cap1, rfl⟩ := okWide_slice Try.underlying35 (hval 1 35 v1 rfl rfl)
  obtain ⟨l1, w1⟩ := open_texts h1
  have lt1 : ∀ x ∈ p1, x.block < W.heap.size := by obtain ⟨m, hm⟩ := h1; exact DataW.trod_lt m _ _ _ hm
  obtain ⟨a2, rfl⟩ := okWide_int Try.underlying5 (hval 2 5 v2 rfl rfl)
  have w2 : 0 ≤ a2 ∧ a2 ≤ 255 := by
    obtain ⟨m, hm⟩ := h2
    obtain ⟨s, hs, _, hl⟩ := DataW.trod_int Try.underlying5 hm
    simp [Value.cells] at hs
    rw [hs]; have := bounds_u8 hl; omega
  have lt2 : ∀ x ∈ p2, x.block < W.heap.size := by obtain ⟨m, hm⟩ := h2; exact DataW.trod_lt m _ _ _ hm
  clear hA0 hval0
  simp only [List.append_nil] at hW'
  refine (walk A0 len0 cap0 l0 A1 len1 cap1 l1 a2 w2 W w0 w1).mono fun e W' ⟨he, bel⟩ => ?_
  subst he
  exact ⟨_, rfl, _, _, _, [], _, [], hW', trodAll_mk1 (shut_bool Try.underlying4 _), (trodAll_cons_mk (Below.trod laidOut (by kernel_rfl) (of_decide_eq_true (by kernel_rfl)) h0 bel lt0) (trodAll_cons_mk (Below.trod laidOut (by kernel_rfl) (of_decide_eq_true (by kernel_rfl)) h1 bel lt1) (trodAll_cons_mk (Below.trod laidOut (by kernel_rfl) (of_decide_eq_true (by kernel_rfl)) h2 bel lt2) trodAll_mk0))), rfl, bel.frame _, fun h => by cases h⟩

theorem proved : Rows.WalFreshSaid :=
  OpenClaim.holds_of_wide 6 Try.f6 rfl rfl rfl rfl rfl rfl rfl ⟨rfl, rfl, rfl, rfl, rfl⟩ rfl rfl rfl rfl rfl (by kernel_rfl) Try.func6 (by kernel_rfl)
    (of_decide_eq_true (by kernel_rfl)) (by unfold Func.isWrapper; first | (rw [if_pos (by decide +kernel)]; kernel_rfl) | (rw [if_neg (by decide +kernel)]; exact ⟨rfl, rfl⟩))
    (fun os started H enc _ => lifted os started H enc)
#print axioms proved
end Go.Proofs.Ytpfpaebbkolpkaa.walFresh
