/- All that hold a key go together, and none of them is dead; for every input, without conditions (of more calls the first 40 are made). -/
import Derived.Test.YtjdnncnflccmdaaLokF
namespace Go.Proofs.Ytjdnncnflccmdaa.locksApart
open Go.ChangeShapes Go.WideShapes Go.ChangeAt Go.RowKit Go.Lk
set_option linter.unusedVariables false
set_option linter.unusedSimpArgs false

set_option maxHeartbeats 16000000 in
set_option maxRecDepth 100000 in
theorem walk (A : Option Addr) (len cap : Nat) (l : List Op13) (w : World) (hL : IsR w A len cap 4 encO GO l) :
    Calls Try.prog 4 #[.slice A len cap] w fun r w' => r = .returned (.bool true) ∧ Below w.heap.size w w' := by
  obtain ⟨hlen, hs, hc1, hc2, hnil, hg⟩ := hL
  subst hlen
  have HS := Lib.hid hs
  have HGO := Lib.hid hg
  clear hs hg hnil
  go_enter Try.func4, Try.ntmps4
  go_wp2_with fail
  refine (knew _).mono ?_
  rintro e w1 ⟨rfl, -, k1⟩
  have H := Lib.hid k1
  clear k1
  generalize w.heap.size + 1 + 1 = g at *
  go_wp2_with fail
  refine (awake_any _).mono ?_
  rintro r w2 ⟨rfl, hb1⟩
  replace H := Lib.hid (H.out.call hb1)
  clear hb1
  go_wp2_with fail
  go_loopw [4] (fun i wr => ∃ (n : Nat) (s : Tb), n ≤ l.length ∧ n ≤ 40 ∧ i = .int .i64 (n : Int) ∧ Pk w wr [] g s (fun _ => False) n) (fun i _ => l.length - (intOf i).toNat)
  case atStart => exact ⟨0, newT, by omega, by omega, rfl, H.out⟩
  case round =>
    obtain ⟨n, s, hn1, hn2, rfl, hp⟩ := hrel
    have HP := Lib.hid hp
    clear hp H
    by_cases hlt : n < l.length ∧ n < 40
    · obtain ⟨h1, h2⟩ := hlt
      obtain ⟨o, ho⟩ : ∃ o, l[n]? = some o := ⟨_, List.getElem?_eq_getElem h1⟩
      obtain ⟨b0, off, rfl, hb, hcc⟩ := (HS.out.below HP.out.st.below).item encO_len (by omega) n o ho
      have q0 := hcc 0 _ rfl
      have q1 := hcc 1 _ rfl
      have q2 := hcc 2 _ rfl
      have q3 := hcc 3 _ rfl
      rw [Nat.add_zero] at q0
      have i1 : (n : Int) < (l.length : Int) := by omega
      have i2 : (n : Int) < 40 := by omega
      have HDO := Lib.hid (does_any o (HGO.out o (List.mem_of_getElem? ho)) HP.out (by omega))
      clear hcc ho HP
      generalize runA s o = R at *
      generalize runE s o = E at *
      generalize run1 s o = s' at *
      obtain ⟨r1, r2, r3⟩ := R
      dsimp only at *
      go_wp2_with fail
      refine HDO.out.mono ?_
      rintro e w4 ⟨A4, c4, B4, e4, rfl, hp, -, -, -⟩
      have HP4 := Lib.hid hp
      clear hp HDO
      go_wp2_with fail
      go_loopw [5] (fun kk wr => ∃ q : Nat, q ≤ n + 1 ∧ kk = .int .i64 (q : Int) ∧ Pk w wr [] g s' (fun _ => False) (n + 1)) (fun kk _ => n + 1 - (intOf kk).toNat)
      case atStart => exact ⟨0, by omega, rfl, HP4.out⟩
      case round =>
        obtain ⟨q, hq, rfl, hp⟩ := hrel
        have HP5 := Lib.hid hp
        clear hp HP4
        by_cases hlt : q ≤ n
        · obtain ⟨o2, ho2⟩ : ∃ o2, l[q]? = some o2 := ⟨_, List.getElem?_eq_getElem (by omega)⟩
          obtain ⟨b1, off1, hA1, hb1, hcc⟩ := (HS.out.below HP5.out.st.below).item encO_len (by omega) q o2 ho2
          injection hA1 with hA1
          injection hA1 with hA1 hA2
          subst hA1 hA2
          have u2 := hcc 2 _ rfl
          have i3 : (q : Int) ≤ (n : Int) := by omega
          have hkey := (HGO.out o2 (List.mem_of_getElem? ho2)).key
          have HH := Lib.hid (kholds o2.key hkey HP5.out (by omega))
          obtain ⟨k2, x2, key2, bb2⟩ := o2
          dsimp only at *
          clear hcc ho2 hkey
          have q4 : (q : Int) < (l.length : Int) := by omega
          go_wp2_with fail
          refine HH.out.mono ?_
          rintro e w6 ⟨A6, c6, rfl, hb6, ho6⟩
          have HP6 := Lib.hid (HP5.out.call hb6)
          have HV := Lib.hid (Sees.own ho6)
          have hroom : (supp (s'.h key2)).length ≤ 9223372036854775807 := by
            obtain ⟨_, _, e, h1, h2, _⟩ := own_slice0 ho6
            injection e with _ _ e
            omega
          clear hb6 ho6 HH HP5 u2
          have HR := Lib.hid (supp_rises (HP6.out.fine.finh key2))
          have HAL : Hid (∀ x, x ∈ supp (s'.h key2) → s'.dead x = false ∧ W64 x) := Lib.hid fun x hx => ⟨hold_alive HP6.out.fine hx, hold64 HP6.out.fine hx⟩
          have HRD : Hid (∀ x y, x ∈ supp (s'.h key2) → y ∈ supp (s'.h key2) → x ≠ y → fl (s'.h key2) x = false ∧ fl (s'.h key2) y = false) := Lib.hid fun x y hx hy hne => hold_read HP6.out.fine hx hy hne
          generalize supp (s'.h key2) = S at *
          generalize fl (s'.h key2) = f at *
          go_wp2_with fail
          go_loopw [7] (fun aa wr => ∃ a : Nat, a ≤ S.length ∧ aa = .int .i64 (a : Int) ∧ Below w6.heap.size w6 wr) (fun aa _ => S.length - (intOf aa).toNat)
          case atStart => exact ⟨0, by omega, rfl, .refl _ _⟩
          case round =>
            obtain ⟨a, ha, rfl, hb⟩ := hrel
            have HP7 := Lib.hid (HP6.out.call hb)
            have HB7 := Lib.hid hb
            clear hb
            by_cases hlt2 : a < S.length
            · obtain ⟨x, hx⟩ : ∃ x, S[a]? = some x := ⟨_, List.getElem?_eq_getElem hlt2⟩
              have hxm := List.mem_of_getElem? hx
              obtain ⟨b4, f4, rfl, HROW⟩ := row_at HV.out rfl HB7.out hx
              have hdd := (HAL.out x hxm).1
              have HD0 : Hid (∀ y, Below wr.heap.size wr y → Calls Try.prog 18 #[ptr g, .int .i64 x] y fun e w' => e = .returned (.bool false) ∧ w' = y) := Lib.hid fun y hy => by
                have := kdead x (HAL.out x hxm).2 (HP7.out.call hy)
                rw [hdd] at this
                exact this
              have i4 : (a : Int) < (S.length : Int) := by omega
              clear hdd
              obtain ⟨C, hC, HCc, HCf⟩ := below_class wr
              rcases Nat.eq_zero_or_pos a with h0 | h0
              · subst h0
                go_wp2_with fail
                refine region_in C hC (by kernel_rfl) (by kernel_rfl) ?_
                iterate 40
                  (refine WQ.step (fun K hK => ?_)
                   go_simp
                   first
                     | (refine hK _ ?_; clear hK K)
                     | (apply Exists.intro
                        refine ⟨fun x1 hx1 => ?_, hK _ ?_⟩
                        · first
                            | rfl
                            | (obtain ⟨p5, p6⟩ := HROW.out _ (HCf.out _ hx1) _ _ hx; simp only [Nat.zero_mul, Nat.add_zero] at p5 p6; go_simp; rfl)
                            | (go_at_call 18; refine (HD0.out _ (HCf.out _ hx1)).mono ?_; rintro e x2 ⟨rfl, rfl⟩; exact ⟨rfl, hx1⟩)
                        clear hK K))
                refine WQ.nil ?_
                intro wn hw
                have HBN := Lib.hid (HB7.out.trans ((HCf.out _ hw).mono HB7.out.size))
                clear hw hC HCc HCf C HB7 HROW HP7 HD0
                go_wp2_with fail
                go_roundw
                case rel => exact ⟨1, by omega, rfl, HBN.out⟩
                case measure => simp [intOf]; omega
              · obtain ⟨a', ha'⟩ : ∃ a', a = a' + 1 := ⟨a - 1, by omega⟩
                obtain ⟨x', hx'⟩ : ∃ x', S[a']? = some x' := ⟨_, List.getElem?_eq_getElem (by omega)⟩
                have i5 : (0 : Int) < (a : Int) := by omega
                have hw0 : IntKind.i64.wrap ((a : Int) - 1) = (a' : Int) := by rw [IntKind.wrap_i64]; omega
                have hlt3 : x' < x := by
                  obtain ⟨z1, e1⟩ := List.getElem?_eq_some_iff.1 hx'
                  obtain ⟨z2, e2⟩ := List.getElem?_eq_some_iff.1 hx
                  rw [← e1, ← e2]
                  exact List.pairwise_iff_getElem.1 HR.out a' a z1 z2 (by omega)
                have i6 : ¬ x ≤ x' := by omega
                have i7 : (a' : Int) < (S.length : Int) := by omega
                have HF := Lib.hid (HRD.out x' x (List.mem_of_getElem? hx') hxm (by omega))
                have HX := Lib.hid hx
                have HX2 := Lib.hid hx'
                have HA' := Lib.hid ha'
                clear hx hx' ha' hlt3 hxm
                go_wp2_with fail
                refine region_in C hC (by kernel_rfl) (by kernel_rfl) ?_
                iterate 40
                  (refine WQ.step (fun K hK => ?_)
                   go_simp
                   first
                     | (refine hK _ ?_; clear hK K)
                     | (apply Exists.intro
                        refine ⟨fun x1 hx1 => ?_, hK _ ?_⟩
                        · first
                            | rfl
                            | (obtain ⟨p5, p6⟩ := HROW.out _ (HCf.out _ hx1) _ _ HX.out; obtain ⟨p7, p8⟩ := HROW.out _ (HCf.out _ hx1) _ _ HX2.out; rw [HF.out.1] at p8; rw [HF.out.2] at p6; go_simp; rfl)
                            | (go_at_call 18; refine (HD0.out _ (HCf.out _ hx1)).mono ?_; rintro e x2 ⟨rfl, rfl⟩; exact ⟨rfl, hx1⟩)
                        clear hK K))
                refine WQ.nil ?_
                intro wn hw
                have HBN := Lib.hid (HB7.out.trans ((HCf.out _ hw).mono HB7.out.size))
                clear hw hC HCc HCf C HB7 HROW HP7 HD0
                go_wp2_with fail
                go_roundw
                case rel => exact ⟨a + 1, by omega, by go_num, HBN.out⟩
                case measure => simp [intOf]; omega
            · obtain rfl : a = S.length := by omega
              have i4 : ¬ (S.length : Int) < (S.length : Int) := by omega
              go_wp2_with fail
              go_roundw
              case rel => exact ⟨q + 1, by omega, by go_num, HP7.out⟩
              case measure => simp [intOf]; omega
        · obtain rfl : q = n + 1 := by omega
          have i3 : ¬ ((n + 1 : Nat) : Int) ≤ (n : Int) := by omega
          go_wp2_with fail
          go_roundw
          case rel => exact ⟨n + 1, s', by omega, by omega, by go_num, HP5.out⟩
          case measure => simp [intOf]; omega
    · have hend : ((n : Int) < (l.length : Int) ∧ n = 40) ∨ (¬ (n : Int) < (l.length : Int)) := by omega
      rcases hend with ⟨i1, rfl⟩ | i1
      all_goals
        go_wp2_with fail
        go_ret
        exact ⟨rfl, HP.out.st.below⟩

set_option maxRecDepth 100000 in
theorem lifted (os : Os) (started : os.Started) (H : Type) (enc : TypeId × Value → H) :
    ReturnsInHanded {} Try.checked os 4 .any (Rows.locksApartSpec.pre6 enc Try.prog Try.f4 Rows.locksApartRow.domain false) (Rows.locksApartSpec.post enc Try.prog Try.f4 false true false false) := by
  refine returnsInHanded_of_change (C := Try.checked) own started (by kernel_rfl) Try.func4
    (ChangeSpec.witness6 (enc := enc) (C := Try.checked) false ⟨#[], #[.slice none 0 0], []⟩ 8 (by kernel_rfl) (by kernel_rfl) (by kernel_rfl) (by kernel_rfl)) ?_
  intro W base args ds gs before hval0 hW hcnd _
  have hval : ∀ (j : Nat) t v, Try.f4.params[j]? = some t → args[j]? = some v → Value.okWide Try.prog W .any base t v := hval0
  have hW' := hW
  obtain ⟨p, q, hA0, hV, rfl, hfz, hnd⟩ := hW
  have hA : DataW.TrodAll enc Try.prog W 0 (fun _ => true) true Try.f4.params.toList args.toList ds p := hA0
  rw [Try.params4] at hA hval
  obtain ⟨v0, vs0, d0, ds0, p0, q0, hargs, rfl, rfl, h0, r0⟩ := trodAll_cons hA
  obtain ⟨rfl, rfl, rfl⟩ := trodAll_nil r0
  obtain rfl : args = #[v0] := by cases args; simp_all
  obtain ⟨rfl, rfl⟩ := trodVars_none hV
  obtain ⟨A0, len0, cap0, rfl⟩ := okWide_slice Try.underlying22 (hval 0 22 v0 rfl rfl)
  obtain ⟨l0, w0⟩ := open_ops h0
  have lt0 : ∀ x ∈ p0, x.block < W.heap.size := by obtain ⟨m, hm⟩ := h0; exact DataW.trod_lt m _ _ _ hm
  clear hA0 hval0
  simp only [List.append_nil] at hW'
  refine (walk A0 len0 cap0 l0 W w0).mono fun e W' ⟨he, bel⟩ => ?_
  subst he
  exact ⟨_, rfl, _, _, _, [], _, [], hW', trodAll_mk1 (shut_bool Try.underlying4 _), (trodAll_cons_mk (Below.trod laidOut (by kernel_rfl) (of_decide_eq_true (by kernel_rfl)) h0 bel lt0) trodAll_mk0), rfl, bel.frame _, fun h => by cases h⟩

theorem proved : Rows.LocksApartSaid :=
  OpenClaim.holds_of_wide 4 Try.f4 rfl rfl rfl rfl rfl rfl rfl ⟨rfl, rfl, rfl, rfl, rfl⟩ rfl rfl rfl rfl rfl (by kernel_rfl) Try.func4 (by kernel_rfl)
    (of_decide_eq_true (by kernel_rfl)) (by unfold Func.isWrapper; first | (rw [if_pos (by decide +kernel)]; kernel_rfl) | (rw [if_neg (by decide +kernel)]; exact ⟨rfl, rfl⟩))
    (fun os started H enc _ => lifted os started H enc)
#print axioms proved
end Go.Proofs.Ytjdnncnflccmdaa.locksApart
