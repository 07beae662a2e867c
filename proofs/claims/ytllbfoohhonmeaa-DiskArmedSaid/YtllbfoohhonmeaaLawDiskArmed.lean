/- The power goes ahead of just the act for which it was armed: moietylaw07.DiskArmed answers true. For every number of eight bits and list of texts; no conditions. -/
import Derived.Test.YtllbfoohhonmeaaDiskP
namespace Go.Proofs.Ytllbfoohhonmeaa.diskArmed
open Go.ChangeShapes Go.WideShapes Go.ChangeAt Go.RowKit Go.Dk
set_option linter.unusedVariables false
set_option linter.unusedSimpArgs false

def liveD (n i : Nat) (whole : List UInt8) : D := ⟨[⟨whole, 0⟩], i, false, n - i, [0]⟩
def deadD (n : Nat) : D := ⟨[⟨[], 0⟩], n - 1, true, 0, [0]⟩
theorem armed (n : Nat) : (D.new 1).arm n [0] = liveD n 0 [] := by
  unfold D.arm liveD
  by_cases h : (n : Int) < 1
  · obtain rfl : n = 0 := by omega
    rw [if_pos h]
    rfl
  · rw [if_neg h]
    show D.mk [⟨[], 0⟩] 0 false (n : Int).toNat [0] = _
    rw [Int.toNat_natCast, Nat.sub_zero]
theorem live_of (n i : Nat) (whole : List UInt8) : (liveD n i whole).of 0 = ⟨whole, 0⟩ := rfl
theorem live_ok (n i : Nat) (whole s : List UInt8) (hw : whole.length + s.length ≤ 4194304) (h : n - i ≠ 1) : (liveD n i whole).append 0 s = (liveD n (i + 1) (whole ++ s), 0) := by
  unfold D.append D.act
  rw [if_neg (show ¬ (liveD n i whole).check 0 ≠ 0 by rw [show (liveD n i whole).check 0 = 0 from rfl]; simp), live_of, if_neg (by simp; omega), if_neg (by exact h)]
  show (D.mk [⟨whole ++ s, 0⟩] (i + 1) false (n - i - 1) [0], (0 : Int)) = _
  rw [Nat.sub_sub]
  rfl
theorem live_dies (n i : Nat) (whole s : List UInt8) (hw : whole.length + s.length ≤ 4194304) (h : n - i = 1) : (liveD n i whole).append 0 s = (deadD n, 71) := by
  unfold D.append D.act
  rw [if_neg (show ¬ (liveD n i whole).check 0 ≠ 0 by rw [show (liveD n i whole).check 0 = 0 from rfl]; simp), live_of, if_neg (by simp; omega), if_pos (by exact h)]
  have e : ((liveD n i whole).lose (liveD n i whole).keep) = D.mk [Lg.cut ⟨whole, 0⟩ 0] i true 0 [0] := rfl
  have e2 : Lg.cut ⟨whole, 0⟩ 0 = ⟨[], 0⟩ := by
    unfold Lg.cut Lg.kept
    simp
  rw [e, e2]
  unfold deadD
  rw [show i = n - 1 by omega]
theorem dead_says (n : Nat) (s : List UInt8) : (deadD n).append 0 s = (deadD n, 71) := rfl

@[go_sem] theorem field_text (a b c : Int) (S : ByteArray) (A : Option Addr) (n cp : Nat) (w : World) : (Instr.field 36 (.agg #[.int .i64 a, .int .i64 b, .int .i64 c, .string S, .slice A n cp]) 3).run Try.prog w = .ok (.string S) w := by rfl

set_option maxRecDepth 100000 in
set_option maxHeartbeats 8000000 in
theorem walk (a0 : Int) (ha : 0 ≤ a0 ∧ a0 ≤ 255) (A : Option Addr) (len cap : Nat) (l : List (List UInt8)) (w : World) (hL : IsR w A len cap 1 encS (fun s => s.length ≤ 9223372036854775807) l) :
    Calls Try.prog 8 #[.int .u8 a0, .slice A len cap] w fun r w' => r = .returned (.bool true) ∧ Below w.heap.size w w' := by
  obtain ⟨n, rfl⟩ : ∃ n : Nat, a0 = n := ⟨a0.toNat, by omega⟩
  obtain ⟨hlen, hs, hc1, hc2, hn, hg⟩ := hL
  subst hlen
  have HS := Lib.hid hs
  have HG := Lib.hid hg
  have hn255 : n ≤ 255 := by omega
  clear hs hg hn ha
  go_enter Try.func8, Try.ntmps8
  go_wp2_with fail
  refine (new_lw (St.start w) 1 (by omega) (by omega)).mono ?_
  rintro e w1 ⟨g, rfl, hl⟩
  have H := Lib.hid hl
  clear hl
  go_wp2_with fail
  refine (awake_any _).mono ?_
  rintro e w2 ⟨rfl, hb⟩
  replace H := Lib.hid (H.out.call hb)
  clear hb
  go_wp2_with fail
  have hk := H.out.alloc w2.heap.size rfl 3 #[.int .i64 0]
  have HARM := Lib.hid (hk.arm (w64 (n : Int) (by omega)) (inI_known (fr := ()) hk (l := [0]) (List.mem_singleton.2 rfl) (by decide) (fun n hn => by rw [List.mem_singleton.1 hn]; exact w64 0 (by omega))))
  rw [armed] at HARM
  clear hk
  refine HARM.out.mono ?_
  rintro e w3 ⟨rfl, hl⟩
  replace H := Lib.hid (hl.few (L' := []) (fun r hr => by cases hr))
  clear hl HARM
  go_wp2_with fail
  go_loopw [7, 8] (fun a i wr => ∃ (k : Nat) (whole : List UInt8), k ≤ l.length ∧ k ≤ 40 ∧ whole.length ≤ 2000 * k ∧ a = .string (txt whole) ∧ i = .int .i64 (k : Int) ∧ ((¬ (0 < n ∧ n ≤ k) ∧ Lw w wr [] g (liveD n k whole)) ∨ ((0 < n ∧ n ≤ k) ∧ Lw w wr [] g (deadD n)))) (fun _ i _ => l.length - (intOf i).toNat)
  case atStart => exact ⟨0, [], by omega, by omega, by simp, rfl, rfl, .inl ⟨by omega, H.out⟩⟩
  case round =>
    obtain ⟨k, whole, hk1, hk2, hwl, rfl, rfl, hst⟩ := hrel
    by_cases hlt : k < l.length ∧ k < 40
    · obtain ⟨h1, h2⟩ := hlt
      obtain ⟨s, hv⟩ : ∃ s, l[k]? = some s := ⟨_, List.getElem?_eq_getElem h1⟩
      have hslen := HG.out s (List.mem_of_getElem? hv)
      have HFEW := Lib.hid (few_any ⟨0, 0, 0, s, none, 0, []⟩ (by simp) (by simp) hslen)
      have hea : (encA ⟨0, 0, 0, s, none, 0, []⟩).toArray = #[.int .i64 0, .int .i64 0, .int .i64 0, .string (txt s), .slice none 0 0] := rfl
      have heb : (encA (Ac.few ⟨0, 0, 0, s, none, 0, []⟩)).toArray = #[.int .i64 0, .int .i64 0, .int .i64 0, .string (txt (s.take 2000)), .slice none 0 0] := rfl
      rw [hea, heb] at HFEW
      clear hea heb
      have hb0 : Below w.heap.size w wr := by rcases hst with ⟨-, h⟩ | ⟨-, h⟩ <;> exact h.st.below
      obtain ⟨b0, off, rfl, hb, hcc⟩ := (HS.out.below hb0).item encS_len (by omega) k s hv
      have q0 := hcc 0 _ rfl
      rw [Nat.add_zero, Nat.mul_one] at q0
      clear hcc hv hslen hb0
      have i1 : (k : Int) < (l.length : Int) := by omega
      have i2 : (k : Int) < 40 := by omega
      have hul : (s.take 2000).length ≤ 2000 := by rw [List.length_take]; omega
      generalize s.take 2000 = u at *
      have HADD : Hid (txt whole ++ txt u = txt (whole ++ u)) := Lib.hid (by unfold txt; rw [ByteArray.mk_append_mk])
      have hs1 : (txt whole).size = whole.length := txt_size _
      have hs2 : (txt u).size = u.length := txt_size _
      have HLA : Hid ((whole ++ u).length = whole.length + u.length) := Lib.hid List.length_append
      rcases hst with ⟨hnd, hl⟩ | ⟨hd, hl⟩
      · have H1 := Lib.hid hl
        clear hl H
        by_cases hdie : n - k = 1
        · have HA := Lib.hid (live_dies n k whole u (by omega) hdie)
          have j1 : (0 : Int) < n := by omega
          have j2 : (n : Int) ≤ k + 1 := by omega
          go_wp2_with fail
          refine (HFEW.out _).mono ?_
          rintro e w4 ⟨rfl, hb⟩
          replace H1 := Lib.hid (H1.out.call hb)
          clear hb
          obtain ⟨tc, w5, htr, hin, htb⟩ := text_run u (by omega) w4
          have HIN := Lib.hid hin
          have HTB := Lib.hid htb
          clear hin htb
          have HAP := Lib.hid ((H1.out.call HTB.out).append (w64 0 (by omega)) (by omega) (by show k + 1 ≤ _; omega) HIN.out)
          rw [HA.out] at HAP
          go_wp2_with fail
          refine HAP.out.mono ?_
          rintro e w6 ⟨rfl, hl⟩
          replace H1 := Lib.hid hl
          clear hl
          go_wp2_with fail
          refine H1.out.down.mono ?_
          rintro e x ⟨rfl, ex⟩
          subst x
          rw [show (deadD n).down = true from rfl]
          go_wp2_with fail
          go_roundw
          case rel => exact ⟨k + 1, whole, by omega, by omega, by omega, rfl, by go_num, .inr ⟨by omega, H1.out⟩⟩
          case measure => simp [intOf]; omega
        · have HA := Lib.hid (live_ok n k whole u (by omega) hdie)
          have j1 : ¬ ((0 : Int) < n) ∨ ((0 : Int) < n ∧ ¬ ((n : Int) ≤ k + 1)) := by omega
          rcases j1 with j1 | ⟨j1, j2⟩
          case' inr => have j3 : decide ((n : Int) ≤ (k : Int) + 1) = false := by rw [decide_eq_false_iff_not]; omega
          all_goals
            go_wp2_with fail
            refine (HFEW.out _).mono ?_
            rintro e w4 ⟨rfl, hb⟩
            replace H1 := Lib.hid (H1.out.call hb)
            clear hb
            obtain ⟨tc, w5, htr, hin, htb⟩ := text_run u (by omega) w4
            have HIN := Lib.hid hin
            have HTB := Lib.hid htb
            clear hin htb
            have HAP := Lib.hid ((H1.out.call HTB.out).append (w64 0 (by omega)) (by omega) (by show k + 1 ≤ _; omega) HIN.out)
            rw [HA.out] at HAP
            go_wp2_with fail
            refine HAP.out.mono ?_
            rintro e w6 ⟨rfl, hl⟩
            replace H1 := Lib.hid hl
            clear hl
            go_wp2_with fail
            refine H1.out.down.mono ?_
            rintro e x ⟨rfl, ex⟩
            subst x
            rw [show (liveD n (k + 1) (whole ++ u)).down = false from rfl]
            go_wp2_with fail
            try rw [HADD.out]
            go_roundw
            case rel => exact ⟨k + 1, whole ++ u, by omega, by omega, by rw [HLA.out]; omega, by first | rfl | rw [HADD.out], by go_num, .inl ⟨by omega, H1.out⟩⟩
            case measure => simp [intOf]; omega
      · have H1 := Lib.hid hl
        clear hl H
        have HA := Lib.hid (dead_says n u)
        have j1 : (0 : Int) < n := by omega
        have j2 : (n : Int) ≤ k + 1 := by omega
        go_wp2_with fail
        refine (HFEW.out _).mono ?_
        rintro e w4 ⟨rfl, hb⟩
        replace H1 := Lib.hid (H1.out.call hb)
        clear hb
        obtain ⟨tc, w5, htr, hin, htb⟩ := text_run u (by omega) w4
        have HIN := Lib.hid hin
        have HTB := Lib.hid htb
        clear hin htb
        have HAP := Lib.hid ((H1.out.call HTB.out).append (w64 0 (by omega)) (by omega) (by show n - 1 + 1 ≤ _; omega) HIN.out)
        rw [HA.out] at HAP
        go_wp2_with fail
        refine HAP.out.mono ?_
        rintro e w6 ⟨rfl, hl⟩
        replace H1 := Lib.hid hl
        clear hl
        go_wp2_with fail
        refine H1.out.down.mono ?_
        rintro e x ⟨rfl, ex⟩
        subst x
        rw [show (deadD n).down = true from rfl]
        go_wp2_with fail
        go_roundw
        case rel => exact ⟨k + 1, whole, by omega, by omega, by omega, rfl, by go_num, .inr ⟨by omega, H1.out⟩⟩
        case measure => simp [intOf]; omega
    · have hend : ((k : Int) < l.length ∧ k = 40) ∨ k = l.length := by omega
      rcases hst with ⟨hnd, hl⟩ | ⟨hd, hl⟩
      · have H1 := Lib.hid hl
        clear hl H
        have HU : Hid ((liveD n k whole).up = liveD n k whole) := Lib.hid rfl
        have HC : Hid ((liveD n k whole).check 0 = 0) := Lib.hid rfl
        have HR : Hid ((liveD n k whole).read 0 = whole) := Lib.hid rfl
        rcases hend with ⟨h1, rfl⟩ | rfl
        all_goals
          go_wp2_with fail
          refine H1.out.down.mono ?_
          rintro e x ⟨rfl, ex⟩
          subst x
          rw [show (liveD n _ whole).down = false from rfl]
          go_wp2_with fail
          refine H1.out.up.mono ?_
          rintro e w4 ⟨rfl, hl⟩
          rw [HU.out] at hl
          replace H1 := Lib.hid hl
          clear hl
          go_wp2_with fail
          refine (H1.out.read (w64 0 (by omega))).mono ?_
          rintro e w5 ⟨v, rfl, ho, hb⟩
          rw [HC.out]
          rw [HR.out] at ho
          obtain ⟨A5, cap5, rfl, -⟩ := OwnB.slice ho
          have hcv := conv_bytes whole A5 cap5 _ w5 (ho.sees rfl)
          rw [show (ByteArray.mk whole.toArray) = txt whole from rfl] at hcv
          replace H1 := Lib.hid (H1.out.call hb)
          clear ho hb
          go_wp2_with fail
          go_ret
          exact ⟨rfl, H1.out.st.below⟩
      · have H1 := Lib.hid hl
        clear hl H
        have HC : Hid ((deadD n).up.check 0 = 0) := Lib.hid rfl
        have HR : Hid ((deadD n).up.read 0 = []) := Lib.hid rfl
        rcases hend with ⟨h1, rfl⟩ | rfl
        all_goals
          go_wp2_with fail
          refine H1.out.down.mono ?_
          rintro e x ⟨rfl, ex⟩
          subst x
          rw [show (deadD n).down = true from rfl]
          go_wp2_with fail
          refine H1.out.up.mono ?_
          rintro e w4 ⟨rfl, hl⟩
          replace H1 := Lib.hid hl
          clear hl
          go_wp2_with fail
          refine (H1.out.read (w64 0 (by omega))).mono ?_
          rintro e w5 ⟨v, rfl, ho, hb⟩
          rw [HC.out]
          rw [HR.out] at ho
          obtain ⟨A5, cap5, rfl, -⟩ := OwnB.slice ho
          replace H1 := Lib.hid (H1.out.call hb)
          clear ho hb
          go_wp2_with fail
          go_ret
          exact ⟨rfl, H1.out.st.below⟩

set_option maxRecDepth 100000 in
theorem lifted (os : Os) (started : os.Started) (H : Type) (enc : TypeId × Value → H) :
    ReturnsInHanded {} Try.checked os 8 .any (Rows.diskArmedSpec.pre6 enc Try.prog Try.f8 Rows.diskArmedRow.domain false) (Rows.diskArmedSpec.post enc Try.prog Try.f8 false true false false) := by
  refine returnsInHanded_of_change (C := Try.checked) own started (by kernel_rfl) Try.func8
    (ChangeSpec.witness6 (enc := enc) (C := Try.checked) false ⟨#[], #[.int .u8 0, .slice none 0 0], []⟩ 8 (by kernel_rfl) (by kernel_rfl) (by kernel_rfl) (by kernel_rfl)) ?_
  intro W base args ds gs before hval0 hW hcnd _
  have hval : ∀ (j : Nat) t v, Try.f8.params[j]? = some t → args[j]? = some v → Value.okWide Try.prog W .any base t v := hval0
  have hW' := hW
  obtain ⟨p, q, hA0, hV, rfl, hfz, hnd⟩ := hW
  have hA : DataW.TrodAll enc Try.prog W 0 (fun _ => true) true Try.f8.params.toList args.toList ds p := hA0
  rw [Try.params8] at hA hval
  obtain ⟨v0, vs0, d0, ds0, p0, q0, hargs, rfl, rfl, h0, r0⟩ := trodAll_cons hA
  obtain ⟨v1, vs1, d1, ds1, p1, q1, rfl, rfl, rfl, h1, r1⟩ := trodAll_cons r0
  obtain ⟨rfl, rfl, rfl⟩ := trodAll_nil r1
  obtain rfl : args = #[v0, v1] := by cases args; simp_all
  obtain ⟨rfl, rfl⟩ := trodVars_none hV
  obtain ⟨a0, rfl⟩ := okWide_int Try.underlying5 (hval 0 5 v0 rfl rfl)
  have w0 : 0 ≤ a0 ∧ a0 ≤ 255 := by
    obtain ⟨m, hm⟩ := h0
    obtain ⟨s, hs, _, hl⟩ := DataW.trod_int Try.underlying5 hm
    simp [Value.cells] at hs
    rw [hs]; have := bounds_u8 hl; omega
  have lt0 : ∀ x ∈ p0, x.block < W.heap.size := by obtain ⟨m, hm⟩ := h0; exact DataW.trod_lt m _ _ _ hm
  obtain ⟨A1, len1, cap1, rfl⟩ := okWide_slice Try.underlying55 (hval 1 55 v1 rfl rfl)
  obtain ⟨l1, w1⟩ := open_texts h1
  have lt1 : ∀ x ∈ p1, x.block < W.heap.size := by obtain ⟨m, hm⟩ := h1; exact DataW.trod_lt m _ _ _ hm
  clear hA0 hval0
  simp only [List.append_nil] at hW'
  refine (walk a0 w0 A1 len1 cap1 l1 W w1).mono fun e W' ⟨he, bel⟩ => ?_
  subst he
  exact ⟨_, rfl, _, _, _, [], _, [], hW', trodAll_mk1 (shut_bool Try.underlying4 _), (trodAll_cons_mk (Below.trod laidOut (by kernel_rfl) (of_decide_eq_true (by kernel_rfl)) h0 bel lt0) (trodAll_cons_mk (Below.trod laidOut (by kernel_rfl) (of_decide_eq_true (by kernel_rfl)) h1 bel lt1) trodAll_mk0)), rfl, bel.frame _, fun h => by cases h⟩

theorem proved : Rows.DiskArmedSaid :=
  OpenClaim.holds_of_wide 8 Try.f8 rfl rfl rfl rfl rfl rfl rfl ⟨rfl, rfl, rfl, rfl, rfl⟩ rfl rfl rfl rfl rfl (by kernel_rfl) Try.func8 (by kernel_rfl)
    (of_decide_eq_true (by kernel_rfl)) (by unfold Func.isWrapper; first | (rw [if_pos (by decide +kernel)]; kernel_rfl) | (rw [if_neg (by decide +kernel)]; exact ⟨rfl, rfl⟩))
    (fun os started H enc _ => lifted os started H enc)
#print axioms proved
end Go.Proofs.Ytllbfoohhonmeaa.diskArmed
