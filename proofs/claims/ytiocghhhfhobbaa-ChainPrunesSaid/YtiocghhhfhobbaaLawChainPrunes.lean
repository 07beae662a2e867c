/- Pruned, a chain tells of all times from the mark on what it told ahead, and keeps no version that counts at none of them; for every input, without conditions (of more calls the first 60 are made). -/
import Derived.Test.YtiocghhhfhobbaaChnT
namespace Go.Proofs.Ytiocghhhfhobbaa.chainPrunes
open Go.ChangeShapes Go.WideShapes Go.ChangeAt Go.RowKit Go.Cn
set_option linter.unusedVariables false
set_option linter.unusedSimpArgs false

set_option maxHeartbeats 16000000 in
set_option maxRecDepth 100000 in
theorem walk (A : Option Addr) (len cap : Nat) (l : List Op11) (mark : Int) (hm : -9223372036854775808 ≤ mark ∧ mark ≤ 9223372036854775807) (at_ : Int) (ha : 0 ≤ at_ ∧ at_ ≤ 65535) (w : World) (hL : IsR w A len cap 3 encO GO l) :
    Calls Try.prog 8 #[.slice A len cap, .int .i64 mark, .int .u16 at_] w fun r w' => r = .returned (.bool true) ∧ Below w.heap.size w w' := by
  have HMA := Lib.hid (made_any A len cap l w hL w.heap.size rfl)
  have HMB := Lib.hid (fun w0 (hb : Below w.heap.size w w0) => made_any A len cap l w0 (isr_call hL hb) w0.heap.size rfl)
  clear hL
  go_enter Try.func8, Try.ntmps8
  go_wp2_with fail
  refine HMA.out.mono ?_
  rintro r w1 ⟨rfl, hp⟩
  have H1 := Lib.hid hp
  clear hp HMA
  go_wp2_with fail
  refine (HMB.out _ H1.out.st.below).mono ?_
  rintro r w2 ⟨rfl, hp⟩
  have H := Lib.hid (Tw.start H1.out hp)
  have hg := H1.out.lt
  clear hp HMB H1
  generalize mk l (min l.length 60) = c at *
  generalize w1.heap.size = k at *
  go_wp2_with fail
  refine (cawake_any _).mono ?_
  rintro r w3 ⟨rfl, hb1⟩
  replace H := Lib.hid (H.out.call hb1)
  clear hb1
  go_wp2_with fail
  refine (tprune mark H.out).mono ?_
  rintro r w4 ⟨rfl, hp⟩
  cases hT : isT mark with
  | false =>
    obtain ⟨e1, e2⟩ : pruneE mark = 110 ∧ prune c mark = c := by
      rcases prune_cases c mark with ⟨_, e1, e2⟩ | ⟨e, _⟩ | ⟨e, _⟩
      · exact ⟨e1, e2⟩
      · rw [hT] at e; cases e
      · rw [hT] at e; cases e
    rw [e2] at hp
    rw [e1]
    replace H := Lib.hid hp
    have hfew := hp.ok.few
    clear hp e1 e2 hT
    go_wp2_with fail
    refine (tlist H.out).mono ?_
    rintro r w5 ⟨A5, c5, rfl, hb1, ho⟩
    replace H := Lib.hid (H.out.call hb1)
    have HR5 := Lib.hid (Rv.own ho rfl)
    clear hb1 ho
    go_wp2_with fail
    refine (tlist2 H.out).mono ?_
    rintro r w6 ⟨A6, c6, rfl, hb1, ho⟩
    replace H := Lib.hid (H.out.call hb1)
    have HS := Lib.hid (rsame_any A5 c5 A6 c6 c.l w6 (HR5.out.call hb1) (Rv.own ho rfl) (by omega))
    clear hb1 ho
    go_wp2_with fail
    refine HS.out.mono ?_
    rintro r w7 ⟨rfl, hb1⟩
    replace H := Lib.hid (H.out.call hb1)
    clear hb1
    go_wp2_with fail
    refine (tmark H.out).mono ?_
    rintro r w8 ⟨rfl, e8⟩
    subst w8
    go_wp2_with fail
    refine (tmark2 H.out).mono ?_
    rintro r w8 ⟨rfl, e8⟩
    subst w8
    go_wp2_with fail
    go_ret
    exact ⟨rfl, H.out.st.below⟩
  | true =>
    have e1 : pruneE mark = 0 := by unfold pruneE; rw [hT]; rfl
    rw [e1]
    replace H := Lib.hid hp
    have hmk := prune_mark c mark hT
    have hok := hp.ok
    have hmm := hok.mark
    have HG := Lib.hid (fun s (hs : mark ≤ s) => get_prune (c := c) mark s hs)
    have hpl := prune_len c mark
    have HOK := Lib.hid hok
    have hfew := hok.few
    clear hp e1 hT hok
    generalize prune c mark = e at *
    go_wp2_with fail
    refine (tmark H.out).mono ?_
    rintro r w5 ⟨rfl, e5⟩
    subst w5
    go_wp2_with fail
    refine (tget _ H.out).mono ?_
    rintro r w5 ⟨rfl, hb1⟩
    replace H := Lib.hid (H.out.call hb1)
    obtain ⟨e1, e2⟩ := HG.out (e.mark + at_) (by omega)
    rw [e1, e2]
    clear hb1 e1 e2 HG
    generalize hE : getE c (e.mark + at_) = E at *
    generalize hV : getV c (e.mark + at_) = V at *
    go_wp2_with fail
    replace H := Lib.hid (H.out.alloc w5.heap.size rfl 34 #[.int .i64 V.1, .int .i64 V.2])
    refine (tget2 _ H.out).mono ?_
    rintro r w6 ⟨rfl, hb1⟩
    rw [hE, hV]
    replace H := Lib.hid (H.out.call hb1)
    obtain ⟨c0, c1, d0, d1, z0⟩ := H.out.st.knows.two 0 w5.heap.size rfl
    clear hb1 hE hV
    go_wp2_with fail
    replace H := Lib.hid (H.out.alloc w6.heap.size rfl 34 #[.int .i64 V.1, .int .i64 V.2])
    refine (tlist H.out).mono ?_
    rintro r w7 ⟨A7, c7, rfl, hb1, ho⟩
    replace H := Lib.hid ((H.out.call hb1).few (L' := []) (fun r hr => by cases hr))
    have HR := Lib.hid (Rv.own ho rfl)
    have hroom := HR.out.room
    have htop := HR.out.top
    clear hb1 ho c0 c1 d0 d1 z0
    go_wp2_with fail
    go_loopw [15] (fun i wr => ∃ n : Nat, n ≤ e.l.length ∧ i = .int .i64 (n : Int) ∧ Below w7.heap.size w7 wr) (fun i _ => e.l.length - (intOf i).toNat)
    case atStart => exact ⟨0, by omega, rfl, Below.refl _ _⟩
    case round =>
      obtain ⟨n, hn, rfl, hb⟩ := hrel
      have HP := Lib.hid (H.out.call hb)
      have HR2 := Lib.hid (HR.out.call hb)
      have HB := Lib.hid hb
      clear hb
      by_cases hlt : n < e.l.length
      · obtain ⟨v, hv⟩ : ∃ v, e.l[n]? = some v := ⟨_, List.getElem?_eq_getElem hlt⟩
        obtain ⟨b0, off, rfl, hb0, g0, g1⟩ := HR2.out.cell n v hv
        have i1 : (n : Int) < (e.l.length : Int) := by omega
        obtain ⟨q, hq⟩ : ∃ q, (v.1 < e.mark ∧ q = e.mark) ∨ (e.mark ≤ v.1 ∧ q = v.1) := by
          by_cases h : v.1 < e.mark
          · exact ⟨_, .inl ⟨h, rfl⟩⟩
          · exact ⟨_, .inr ⟨by omega, rfl⟩⟩
        obtain ⟨e1, e2⟩ := get_own HOK.out n v hv q hq
        have HGT := Lib.hid (fun w0 (h : Tw w w0 [] w.heap.size e k c) => tget q h)
        rw [e1, e2] at HGT
        have HV := Lib.hid hv
        clear hv hb0 g0 g1 e1 e2
        rcases hq with ⟨hq, rfl⟩ | ⟨hq, rfl⟩
        · obtain ⟨C, hC, HCc, HCf⟩ := HP.out.class
          go_wp2_with fail
          refine region_in C hC (by kernel_rfl) (by kernel_rfl) ?_
          iterate 9
            (refine WQ.step (fun K hK => ?_)
             go_simp
             try simp only [if_true, if_true, if_false, decide_true, decide_false, Bool.or_false, Bool.and_false, Bool.true_and, Bool.not_true, Bool.not_false, Bool.true_or, Bool.false_or, Bool.or_true]
             first
               | (refine hK _ ?_; clear hK K)
               | (apply Exists.intro
                  refine ⟨fun x hx => ?_, hK _ ?_⟩
                  · first
                      | rfl
                      | (go_at_call 15; refine (tmark (HCf.out _ hx).1).mono ?_; rintro e x1 ⟨rfl, rfl⟩; exact ⟨rfl, hx⟩)
                      | (obtain ⟨-, k0, k1⟩ := ((HR2.out.call (HCf.out _ hx).2)).cellAt n v HV.out; go_simp; rfl)
                  clear hK K))
          refine WQ.nil ?_
          intro w9 hw9
          replace HR2 := Lib.hid (HR2.out.call (HCf.out _ hw9).2)
          replace HB := Lib.hid (HB.out.trans ((HCf.out _ hw9).2.mono HB.out.size))
          replace HP := Lib.hid (HCf.out _ hw9).1
          clear hw9 hC HCc HCf C
          go_wp2_with fail
          refine (HGT.out _ HP.out).mono ?_
          rintro r wz ⟨rfl, hb1⟩
          replace HP := Lib.hid ((HP.out.call hb1).alloc wz.heap.size rfl 34 #[.int .i64 v.1, .int .i64 v.2])
          have hb2 : Below w9.heap.size w9 (wz.alloc (.cells #[.int .i64 v.1, .int .i64 v.2] 34)) := hb1.alloc hb1.size _
          replace HR2 := Lib.hid (HR2.out.call hb2)
          replace HB := Lib.hid (HB.out.trans (hb2.mono HB.out.size))
          clear hb1 hb2
          obtain ⟨C, hC, HCc, HCf⟩ := HP.out.class
          go_wp2_with fail
          refine region_in C hC (by kernel_rfl) (by kernel_rfl) ?_
          iterate 10
            (refine WQ.step (fun K hK => ?_)
             go_simp
             try simp only [bne_self_eq_false, if_true, if_false, decide_true, decide_false, Bool.or_false, Bool.and_false, Bool.true_and, Bool.not_true, Bool.not_false, Bool.true_or, Bool.false_or, Bool.or_true]
             first
               | (refine hK _ ?_; clear hK K)
               | (apply Exists.intro
                  refine ⟨fun x hx => ?_, hK _ ?_⟩
                  · first
                      | rfl
                      | (obtain ⟨c0, c1, d0, d1, z0⟩ := (HCf.out _ hx).1.st.knows.two 0 wz.heap.size rfl; go_simp; rfl)
                      | (obtain ⟨-, k0, k1⟩ := ((HR2.out.call (HCf.out _ hx).2)).cellAt n v HV.out; go_simp; rfl)
                  clear hK K))
          refine WQ.nil ?_
          intro wa hwa
          replace HB := Lib.hid (HB.out.trans ((HCf.out _ hwa).2.mono HB.out.size))
          clear hwa hC HCc HCf C
          go_wp2_with fail
          go_roundw
          case rel => exact ⟨n + 1, by omega, by go_num, HB.out⟩
          case measure => simp [intOf]; omega
        · obtain ⟨C, hC, HCc, HCf⟩ := HP.out.class
          go_wp2_with fail
          refine region_in C hC (by kernel_rfl) (by kernel_rfl) ?_
          iterate 9
            (refine WQ.step (fun K hK => ?_)
             go_simp
             try simp only [if_true, if_true, if_false, decide_true, decide_false, Bool.or_false, Bool.and_false, Bool.true_and, Bool.not_true, Bool.not_false, Bool.true_or, Bool.false_or, Bool.or_true]
             first
               | (refine hK _ ?_; clear hK K)
               | (apply Exists.intro
                  refine ⟨fun x hx => ?_, hK _ ?_⟩
                  · first
                      | rfl
                      | (go_at_call 15; refine (tmark (HCf.out _ hx).1).mono ?_; rintro e x1 ⟨rfl, rfl⟩; exact ⟨rfl, hx⟩)
                      | (obtain ⟨-, k0, k1⟩ := ((HR2.out.call (HCf.out _ hx).2)).cellAt n v HV.out; go_simp; rfl)
                  clear hK K))
          refine WQ.nil ?_
          intro w9 hw9
          replace HR2 := Lib.hid (HR2.out.call (HCf.out _ hw9).2)
          replace HB := Lib.hid (HB.out.trans ((HCf.out _ hw9).2.mono HB.out.size))
          replace HP := Lib.hid (HCf.out _ hw9).1
          clear hw9 hC HCc HCf C
          go_wp2_with fail
          refine (HGT.out _ HP.out).mono ?_
          rintro r wz ⟨rfl, hb1⟩
          replace HP := Lib.hid ((HP.out.call hb1).alloc wz.heap.size rfl 34 #[.int .i64 v.1, .int .i64 v.2])
          have hb2 : Below w9.heap.size w9 (wz.alloc (.cells #[.int .i64 v.1, .int .i64 v.2] 34)) := hb1.alloc hb1.size _
          replace HR2 := Lib.hid (HR2.out.call hb2)
          replace HB := Lib.hid (HB.out.trans (hb2.mono HB.out.size))
          clear hb1 hb2
          obtain ⟨C, hC, HCc, HCf⟩ := HP.out.class
          go_wp2_with fail
          refine region_in C hC (by kernel_rfl) (by kernel_rfl) ?_
          iterate 10
            (refine WQ.step (fun K hK => ?_)
             go_simp
             try simp only [bne_self_eq_false, if_true, if_false, decide_true, decide_false, Bool.or_false, Bool.and_false, Bool.true_and, Bool.not_true, Bool.not_false, Bool.true_or, Bool.false_or, Bool.or_true]
             first
               | (refine hK _ ?_; clear hK K)
               | (apply Exists.intro
                  refine ⟨fun x hx => ?_, hK _ ?_⟩
                  · first
                      | rfl
                      | (obtain ⟨c0, c1, d0, d1, z0⟩ := (HCf.out _ hx).1.st.knows.two 0 wz.heap.size rfl; go_simp; rfl)
                      | (obtain ⟨-, k0, k1⟩ := ((HR2.out.call (HCf.out _ hx).2)).cellAt n v HV.out; go_simp; rfl)
                  clear hK K))
          refine WQ.nil ?_
          intro wa hwa
          replace HB := Lib.hid (HB.out.trans ((HCf.out _ hwa).2.mono HB.out.size))
          clear hwa hC HCc HCf C
          go_wp2_with fail
          go_roundw
          case rel => exact ⟨n + 1, by omega, by go_num, HB.out⟩
          case measure => simp [intOf]; omega
      · obtain rfl : n = e.l.length := by omega
        go_wp2_with fail
        refine (tlist2 HP.out).mono ?_
        rintro r w8 ⟨A8, c8, rfl, hb1, -⟩
        replace HP := Lib.hid (HP.out.call hb1)
        clear hb1
        have i9 : (e.l.length : Int) ≤ (c.l.length : Int) := by omega
        go_wp2_with fail
        go_ret
        exact ⟨by first | rfl | (simp; done) | (simp; omega), HP.out.st.below⟩

set_option maxRecDepth 100000 in
theorem lifted (os : Os) (started : os.Started) (H : Type) (enc : TypeId × Value → H) :
    ReturnsInHanded {} Try.checked os 8 .any (Rows.chainPrunesSpec.pre6 enc Try.prog Try.f8 Rows.chainPrunesRow.domain false) (Rows.chainPrunesSpec.post enc Try.prog Try.f8 false true false false) := by
  refine returnsInHanded_of_change (C := Try.checked) own started (by kernel_rfl) Try.func8
    (ChangeSpec.witness6 (enc := enc) (C := Try.checked) false ⟨#[], #[.slice none 0 0, .int .i64 0, .int .u16 0], []⟩ 8 (by kernel_rfl) (by kernel_rfl) (by kernel_rfl) (by kernel_rfl)) ?_
  intro W base args ds gs before hval0 hW hcnd _
  have hval : ∀ (j : Nat) t v, Try.f8.params[j]? = some t → args[j]? = some v → Value.okWide Try.prog W .any base t v := hval0
  have hW' := hW
  obtain ⟨p, q, hA0, hV, rfl, hfz, hnd⟩ := hW
  have hA : DataW.TrodAll enc Try.prog W 0 (fun _ => true) true Try.f8.params.toList args.toList ds p := hA0
  rw [Try.params8] at hA hval
  obtain ⟨v0, vs0, d0, ds0, p0, q0, hargs, rfl, rfl, h0, r0⟩ := trodAll_cons hA
  obtain ⟨v1, vs1, d1, ds1, p1, q1, rfl, rfl, rfl, h1, r1⟩ := trodAll_cons r0
  obtain ⟨v2, vs2, d2, ds2, p2, q2, rfl, rfl, rfl, h2, r2⟩ := trodAll_cons r1
  obtain ⟨rfl, rfl, rfl⟩ := trodAll_nil r2
  obtain rfl : args = #[v0, v1, v2] := by cases args; simp_all
  obtain ⟨rfl, rfl⟩ := trodVars_none hV
  obtain ⟨A0, len0, cap0, rfl⟩ := okWide_slice Try.underlying22 (hval 0 22 v0 rfl rfl)
  obtain ⟨l0, w0⟩ := open_ops h0
  have lt0 : ∀ x ∈ p0, x.block < W.heap.size := by obtain ⟨m, hm⟩ := h0; exact DataW.trod_lt m _ _ _ hm
  obtain ⟨a1, rfl⟩ := okWide_int Try.underlying2 (hval 1 2 v1 rfl rfl)
  have w1 : -9223372036854775808 ≤ a1 ∧ a1 ≤ 9223372036854775807 := by
    obtain ⟨m, hm⟩ := h1
    obtain ⟨s, hs, _, hl⟩ := DataW.trod_int Try.underlying2 hm
    simp [Value.cells] at hs
    rw [hs]; have := bounds_i64 hl; omega
  have lt1 : ∀ x ∈ p1, x.block < W.heap.size := by obtain ⟨m, hm⟩ := h1; exact DataW.trod_lt m _ _ _ hm
  obtain ⟨a2, rfl⟩ := okWide_int Try.underlying50 (hval 2 50 v2 rfl rfl)
  have w2 : 0 ≤ a2 ∧ a2 ≤ 65535 := by
    obtain ⟨m, hm⟩ := h2
    obtain ⟨s, hs, _, hl⟩ := DataW.trod_int Try.underlying50 hm
    simp [Value.cells] at hs
    rw [hs]; have := bounds_u16 hl; omega
  have lt2 : ∀ x ∈ p2, x.block < W.heap.size := by obtain ⟨m, hm⟩ := h2; exact DataW.trod_lt m _ _ _ hm
  clear hA0 hval0
  simp only [List.append_nil] at hW'
  refine (walk A0 len0 cap0 l0 a1 w1 a2 w2 W w0).mono fun e W' ⟨he, bel⟩ => ?_
  subst he
  exact ⟨_, rfl, _, _, _, [], _, [], hW', trodAll_mk1 (shut_bool Try.underlying4 _), (trodAll_cons_mk (Below.trod laidOut (by kernel_rfl) (of_decide_eq_true (by kernel_rfl)) h0 bel lt0) (trodAll_cons_mk (Below.trod laidOut (by kernel_rfl) (of_decide_eq_true (by kernel_rfl)) h1 bel lt1) (trodAll_cons_mk (Below.trod laidOut (by kernel_rfl) (of_decide_eq_true (by kernel_rfl)) h2 bel lt2) trodAll_mk0))), rfl, bel.frame _, fun h => by cases h⟩

theorem proved : Rows.ChainPrunesSaid :=
  OpenClaim.holds_of_wide 8 Try.f8 rfl rfl rfl rfl rfl rfl rfl ⟨rfl, rfl, rfl, rfl, rfl⟩ rfl rfl rfl rfl rfl (by kernel_rfl) Try.func8 (by kernel_rfl)
    (of_decide_eq_true (by kernel_rfl)) (by unfold Func.isWrapper; first | (rw [if_pos (by decide +kernel)]; kernel_rfl) | (rw [if_neg (by decide +kernel)]; exact ⟨rfl, rfl⟩))
    (fun os started H enc _ => lifted os started H enc)
#print axioms proved
end Go.Proofs.Ytiocghhhfhobbaa.chainPrunes
