/- Contracts at layer 12, of the document's Close, Prune. (Written by gstox.py.) -/
import Derived.Test.YtcpcepbjdohdmaaStoDr
namespace Go.Proofs.Ytcpcepbjdohdmaa
open Go.ChangeShapes Go.WideShapes Go.ChangeAt Go.RowKit Go.Cn Go.So
set_option linter.unusedVariables false
set_option linter.unusedSimpArgs false
set_option maxRecDepth 100000
theorem any_step {f : Dr → Bool} {l : List Dr} {k q : Nat} (h : k + 1 ≤ q) {z : Dr} (hz : l[q]? = some z) : ((l.drop (k + 1)).take (q + 1 - (k + 1))).any f = (((l.drop (k + 1)).take (q - (k + 1))).any f || f z) := by
  have e1 : q + 1 - (k + 1) = (q - (k + 1)) + 1 := by omega
  have e2 : (l.drop (k + 1))[q - (k + 1)]? = some z := by rw [List.getElem?_drop, ← hz]; congr 1; omega
  rw [e1, List.take_add_one, e2, List.any_append]
  simp
set_option maxHeartbeats 4000000 in
theorem rclose_any (A : Option Addr) (cap : Nat) (d : Ds) (t : Int) (w : World) (h : Dv w A cap d.l) :
    Calls Try.prog 30 #[aggM A d.l.length cap d.closed d.mark, .int .i64 t] w fun e w' => e = .returned (.tuple #[aggM A d.l.length cap (closeD d t).closed d.mark, .int .i64 (closeSE t)]) ∧ Below w.heap.size w w' := by
  have HS := Lib.hid (((St.start w).alloc w.heap.size rfl 27 #[.slice A d.l.length cap, .int .i64 d.closed, .int .i64 d.mark]).alloc (w.heap.size + 1) (by simp) 27 #[.slice none 0 0, .int .i64 0, .int .i64 0])
  obtain ⟨c0, c1, c2, cz, d0, d1, d2, f0, f1, f2, z0⟩ := put_facts HS.out
  have hk1 := HS.out.knows.at 1 rfl
  have e0 := hk1.free 0
  have e1 := hk1.free 1
  have e2 := hk1.free 2
  clear hk1
  unfold closeD closeSE
  cases ht : isT t with
  | false =>
    have h3 := (isT_no t).1 ht
    simp only [Bool.false_eq_true, ↓reduceIte]
    clear ht
    by_cases h0 : t < 0
    · clear h3
      go_enter Try.func30, Try.ntmps30
      go_wp2_with fail
      refine bodyPost_ret (by simp [results, Try.results30, go_sem, c0, c1, c2, cz, d0, d1, d2, f0, f1, f2, z0]; try rfl) rfl ?_
      refine ⟨rfl, ?_⟩
      have hb := HS.out.below
      go_grown
    · have h4 : 1125899906842624 < t := by omega
      go_enter Try.func30, Try.ntmps30
      go_wp2_with fail
      refine bodyPost_ret (by simp [results, Try.results30, go_sem, c0, c1, c2, cz, d0, d1, d2, f0, f1, f2, z0]; try rfl) rfl ?_
      refine ⟨rfl, ?_⟩
      have hb := HS.out.below
      go_grown
  | true =>
    obtain ⟨k1, k2⟩ := (isT_iff t).1 ht
    have k3 : ¬ t < 0 := by omega
    have k4 : ¬ 1125899906842624 < t := by omega
    simp only [↓reduceIte]
    clear ht
    by_cases h5 : d.closed < t
    · have hmax : max d.closed t = t := by omega
      rw [hmax]
      clear hmax
      go_enter Try.func30, Try.ntmps30
      go_wp2_with fail
      refine bodyPost_ret (by simp [results, Try.results30, go_sem, c0, c1, c2, cz, d0, d1, d2, f0, f1, f2, z0, e0, e1, e2]; try rfl) rfl ?_
      refine ⟨rfl, ?_⟩
      have hb := HS.out.below
      go_grown
    · have hmax : max d.closed t = d.closed := by omega
      rw [hmax]
      clear hmax
      go_enter Try.func30, Try.ntmps30
      go_wp2_with fail
      refine bodyPost_ret (by simp [results, Try.results30, go_sem, c0, c1, c2, cz, d0, d1, d2, f0, f1, f2, z0]; try rfl) rfl ?_
      refine ⟨rfl, ?_⟩
      have hb := HS.out.below
      go_grown
set_option maxHeartbeats 16000000 in
/-- From where the mark is set. -/
theorem rprune_any (A : Option Addr) (cap : Nat) (d : Ds) (s : Sto) (hr : Rel d s) (t : Int) (w : World) (h : Dv w A cap d.l) (hl : d.l.length ≤ 900000000) :
    Calls Try.prog 29 #[aggM A d.l.length cap d.closed d.mark, .int .i64 t] w fun e w' => ∃ A' cap', e = .returned (.tuple #[aggM A' (pruneD d s t).l.length cap' d.closed (pruneD d s t).mark, .int .i64 (pruneSE s t)]) ∧ Below w.heap.size w w' ∧ Dv w' A' cap' (pruneD d s t).l ∧ At w w' A A' := by
  have HS := Lib.hid (((St.start w).alloc w.heap.size rfl 27 #[.slice A d.l.length cap, .int .i64 d.closed, .int .i64 d.mark]).alloc (w.heap.size + 1) (by simp) 27 #[.slice none 0 0, .int .i64 0, .int .i64 0])
  obtain ⟨c0, c1, c2, cz, d0, d1, d2, f0, f1, f2, z0⟩ := put_facts HS.out
  have hk1 := HS.out.knows.at 1 rfl
  have e0 := hk1.free 0
  have e1 := hk1.free 1
  have e2 := hk1.free 2
  have HD := Lib.hid h
  have hcl := hr.closed
  have hmk := hr.mark
  have hroom := h.room
  have htop := h.top
  clear hk1 hr h
  unfold pruneD
  rcases pruneS_cases s t with ⟨h1, h2, _⟩ | ⟨h1, h3, h2, _⟩ | h4
  · rw [h2, if_neg (by decide)]
    have h3 := (isT_no t).1 h1
    clear h1 h2 hcl hmk
    by_cases h0 : t < 0
    · clear h3
      go_enter Try.func29, Try.ntmps29
      go_wp2_with fail
      refine bodyPost_ret (by simp [results, Try.results29, go_sem, c0, c1, c2, cz, d0, d1, d2, f0, f1, f2, z0]; try rfl) rfl ?_
      refine ⟨A, cap, rfl, and_dv HD.out ?_⟩
      have hb := HS.out.below
      go_grown
    · have h4 : 1125899906842624 < t := by omega
      go_enter Try.func29, Try.ntmps29
      go_wp2_with fail
      refine bodyPost_ret (by simp [results, Try.results29, go_sem, c0, c1, c2, cz, d0, d1, d2, f0, f1, f2, z0]; try rfl) rfl ?_
      refine ⟨A, cap, rfl, and_dv HD.out ?_⟩
      have hb := HS.out.below
      go_grown
  · rw [h2, if_neg (by decide)]
    obtain ⟨k1, k2⟩ := (isT_iff t).1 h1
    have k3 : ¬ t < 0 := by omega
    have k4 : ¬ 1125899906842624 < t := by omega
    have k5 : d.closed < t := by omega
    clear h1 h2 hcl hmk h3
    go_enter Try.func29, Try.ntmps29
    go_wp2_with fail
    refine bodyPost_ret (by simp [results, Try.results29, go_sem, c0, c1, c2, cz, d0, d1, d2, f0, f1, f2, z0]; try rfl) rfl ?_
    refine ⟨A, cap, rfl, and_dv HD.out ?_⟩
    have hb := HS.out.below
    go_grown
  · obtain ⟨h1, h3, h2⟩ : isT t = true ∧ t ≤ s.closed ∧ pruneSE s t = 0 := by
      rcases h4 with ⟨h1, h3, _, h2, _⟩ | ⟨h1, h3, _, h2, _⟩ <;> exact ⟨h1, h3, h2⟩
    rw [h2, if_pos rfl]
    obtain ⟨k1, k2⟩ := (isT_iff t).1 h1
    have k3 : ¬ t < 0 := by omega
    have k4 : ¬ 1125899906842624 < t := by omega
    have k5 : ¬ d.closed < t := by omega
    clear h1 h2 hcl hmk h3 h4
    obtain ⟨m, hm⟩ : ∃ m, max d.mark t = m := ⟨_, rfl⟩
    rw [hm]
    dsimp only
    have HKA := Lib.hid (keepL_all m d.l)
    have HKL := Lib.hid (fun i => keepL_len m d.l i)
    by_cases h9 : d.mark < t
    · obtain rfl : t = m := by omega
      have HS2 : Hid (St w (((w.alloc (.cells #[.slice A d.l.length cap, .int .i64 d.closed, .int .i64 t] 27)).alloc (.cells #[.slice none 0 0, .int .i64 0, .int .i64 0] 27))) [(w.heap.size + 1, 27, #[.slice none 0 0, .int .i64 0, .int .i64 0]), (w.heap.size, 27, #[.slice A d.l.length cap, .int .i64 d.closed, .int .i64 t])]) := Lib.hid (((St.start w).alloc w.heap.size rfl 27 _).alloc (w.heap.size + 1) (by simp) 27 #[.slice none 0 0, .int .i64 0, .int .i64 0])
      go_enter Try.func29, Try.ntmps29
      go_upto_region 7 with fail
      have HZZ : Hid (w.heap.size + 1 + 1 = (((w.alloc (.cells #[.slice A d.l.length cap, .int .i64 d.closed, .int .i64 t] 27)).alloc (.cells #[.slice none 0 0, .int .i64 0, .int .i64 0] 27))).heap.size) := Lib.hid (by simp)
      generalize ((w.alloc (.cells #[.slice A d.l.length cap, .int .i64 d.closed, .int .i64 t] 27)).alloc (.cells #[.slice none 0 0, .int .i64 0, .int .i64 0] 27)) = y0 at *
      clear HS c0 c1 c2 cz d0 d1 d2 f0 f1 f2 z0 e0 e1 e2
      have HO0 : Hid ((y0.alloc (.cells #[] 79)).ownsRow (w.heap.size + 1 + 1) 79 3 (.slice (some ⟨y0.heap.size, 0, none⟩) 0 0) 0 []) := Lib.hid (ow_less (ow_new y0 79 3 y0.heap.size rfl) (Nat.le_of_eq HZZ.out))
      have HS0 := Lib.hid (HS2.out.other (.cells #[] 79))
      clear HS2
      go_wp2_with fail
      go_loopw [6, 7] (fun v i wr => ∃ k : Nat, k ≤ d.l.length ∧ i = .int .i64 (k : Int) ∧ wr.ownsRow (w.heap.size + 1 + 1) 79 3 v (keepL t d.l k).length (flat encD (keepL t d.l k)) ∧ St w wr [(w.heap.size + 1, 27, #[.slice none 0 0, .int .i64 0, .int .i64 0]), (w.heap.size, 27, #[.slice A d.l.length cap, .int .i64 d.closed, .int .i64 t])] ∧ w.heap.size + 1 + 1 ≤ wr.heap.size) (fun _ i _ => d.l.length - (intOf i).toNat)
      case atStart => exact ⟨0, by omega, rfl, HO0.out, HS0.out, by have := HZZ.out; simp; omega⟩
      case round =>
        obtain ⟨k, hk, rfl, ho, hst, hzr⟩ := hrel
        have HO := Lib.hid ho
        have HS := Lib.hid hst
        clear ho hst HO0 HS0
        obtain ⟨c0, c1, c2, cz, d0, d1, d2, f0, f1, f2, z0⟩ := put_facts HS.out
        obtain ⟨w9, hw9⟩ : ∃ w9, w9 = wr := ⟨_, rfl⟩
        subst hw9
        by_cases hlt : k < d.l.length
        · obtain ⟨x, hx⟩ : ∃ x, d.l[k]? = some x := ⟨_, List.getElem?_eq_getElem hlt⟩
          have HX := Lib.hid hx
          obtain ⟨b0, off, rfl, hb0, g0, g1, g2⟩ := (HD.out.call HS.out.below).cell k x hx
          have i2 : (k : Int) < (d.l.length : Int) := by omega
          have i3 : (k : Int) < (cap : Int) := by omega
          have HKS : Hid (keepL t d.l (k + 1) = keepL t d.l k ++ if ((d.l.drop (k + 1)).any (same t x)) = true then [] else [x]) := Lib.hid (by rw [keepL, hx])
          have hkl := HKL.out k
          clear hx
          generalize keepL t d.l k = kl at *
          go_wp2_with fail
          go_loopw [8, 9] (fun g j wx => ∃ q : Nat, k + 1 ≤ q ∧ q ≤ d.l.length ∧ j = .int .i64 (q : Int) ∧ g = .bool (((d.l.drop (k + 1)).take (q - (k + 1))).any (same t x)) ∧ Below w9.heap.size w9 wx) (fun _ j _ => d.l.length - (intOf j).toNat)
          case atStart => exact ⟨k + 1, by omega, by omega, by go_num, by simp, Below.refl _ _⟩
          case round =>
            obtain ⟨q, hq1, hq2, rfl, rfl, hbx⟩ := hrel
            have HSX := Lib.hid (HS.out.call hbx)
            have HBX := Lib.hid hbx
            clear hbx c0 c1 c2 cz d0 d1 d2 f0 f1 f2 z0 g0 g1 g2
            obtain ⟨c0, c1, c2, cz, d0, d1, d2, f0, f1, f2, z0⟩ := put_facts HSX.out
            by_cases hql : q < d.l.length
            · obtain ⟨z, hz⟩ : ∃ z, d.l[q]? = some z := ⟨_, List.getElem?_eq_getElem hql⟩
              have HZ := Lib.hid hz
              have HAS := Lib.hid (any_step (f := same t x) hq1 hz)
              have i4 : (q : Int) < (d.l.length : Int) := by omega
              have i5 : (q : Int) < (cap : Int) := by omega
              clear hz
              generalize ((d.l.drop (k + 1)).take (q - (k + 1))).any (same t x) = gone at *
              cases gone with
              | true =>
                obtain ⟨C, hC, HCc, HCf⟩ := below_class wr
                go_wp2_with fail
                refine region_in C hC (by kernel_rfl) (by kernel_rfl) ?_
                iterate 30
                  (refine WQ.step (fun K hK => ?_)
                   go_simp
                   first
                     | (refine hK _ ?_; clear hK K)
                     | (apply Exists.intro
                        refine ⟨fun x hx => ?_, hK _ ?_⟩
                        · first
                            | rfl
                            | (have hs := HSX.out.call (HCf.out _ hx); have hk := hs.knows.at 1 rfl; have c0 := hk.cell 0; have c2 := hk.cell 2; have cz := hk.lt; obtain ⟨-, g0, g1, g2⟩ := (HD.out.call hs.below).cellAt q _ HZ.out; obtain ⟨-, u0, u1, u2⟩ := (HD.out.call hs.below).cellAt k _ HX.out; go_simp; rfl)
                        clear hK K))
                refine WQ.nil ?_
                intro w5 hw
                have HBW := Lib.hid (HCf.out _ hw)
                clear hw hC HCc HCf C
                have HB5 := Lib.hid (HBX.out.trans (HBW.out.mono HBX.out.size))
                go_wp2_with fail
                go_roundw
                case rel => exact ⟨q + 1, by omega, by omega, by go_num, by rw [HAS.out]; simp <;> omega, HB5.out⟩
                case measure => simp [intOf]; omega
              | false =>
                by_cases hxk : z.2.1 = x.2.1
                · have j1 : (z.2.1 == x.2.1) = true := by simpa using hxk
                  by_cases hxm : z.1 ≤ t
                  · have HSM : Hid (same t x z = true) := Lib.hid (by unfold same; simp [hxk, hxm])
                    rw [HSM.out] at HAS
                    clear hxk
                    obtain ⟨C, hC, HCc, HCf⟩ := below_class wr
                    go_wp2_with fail
                    refine region_in C hC (by kernel_rfl) (by kernel_rfl) ?_
                    iterate 30
                      (refine WQ.step (fun K hK => ?_)
                       go_simp
                       first
                         | (refine hK _ ?_; clear hK K)
                         | (apply Exists.intro
                            refine ⟨fun x hx => ?_, hK _ ?_⟩
                            · first
                                | rfl
                                | (have hs := HSX.out.call (HCf.out _ hx); have hk := hs.knows.at 1 rfl; have c0 := hk.cell 0; have c2 := hk.cell 2; have cz := hk.lt; obtain ⟨-, g0, g1, g2⟩ := (HD.out.call hs.below).cellAt q _ HZ.out; obtain ⟨-, u0, u1, u2⟩ := (HD.out.call hs.below).cellAt k _ HX.out; go_simp; rfl)
                            clear hK K))
                    refine WQ.nil ?_
                    intro w5 hw
                    have HBW := Lib.hid (HCf.out _ hw)
                    clear hw hC HCc HCf C
                    have HB5 := Lib.hid (HBX.out.trans (HBW.out.mono HBX.out.size))
                    go_wp2_with fail
                    go_roundw
                    case rel => exact ⟨q + 1, by omega, by omega, by go_num, by rw [HAS.out]; simp <;> omega, HB5.out⟩
                    case measure => simp [intOf]; omega
                  · have HSM : Hid (same t x z = false) := Lib.hid (by unfold same; simp [hxk]; omega)
                    rw [HSM.out] at HAS
                    clear hxk
                    obtain ⟨C, hC, HCc, HCf⟩ := below_class wr
                    go_wp2_with fail
                    refine region_in C hC (by kernel_rfl) (by kernel_rfl) ?_
                    iterate 30
                      (refine WQ.step (fun K hK => ?_)
                       go_simp
                       first
                         | (refine hK _ ?_; clear hK K)
                         | (apply Exists.intro
                            refine ⟨fun x hx => ?_, hK _ ?_⟩
                            · first
                                | rfl
                                | (have hs := HSX.out.call (HCf.out _ hx); have hk := hs.knows.at 1 rfl; have c0 := hk.cell 0; have c2 := hk.cell 2; have cz := hk.lt; obtain ⟨-, g0, g1, g2⟩ := (HD.out.call hs.below).cellAt q _ HZ.out; obtain ⟨-, u0, u1, u2⟩ := (HD.out.call hs.below).cellAt k _ HX.out; go_simp; rfl)
                            clear hK K))
                    refine WQ.nil ?_
                    intro w5 hw
                    have HBW := Lib.hid (HCf.out _ hw)
                    clear hw hC HCc HCf C
                    have HB5 := Lib.hid (HBX.out.trans (HBW.out.mono HBX.out.size))
                    go_wp2_with fail
                    go_roundw
                    case rel => exact ⟨q + 1, by omega, by omega, by go_num, by rw [HAS.out]; simp <;> omega, HB5.out⟩
                    case measure => simp [intOf]; omega
                · have j1 : (z.2.1 == x.2.1) = false := by simpa using hxk
                  have HSM : Hid (same t x z = false) := Lib.hid (by unfold same; simp [hxk])
                  rw [HSM.out] at HAS
                  clear hxk
                  obtain ⟨C, hC, HCc, HCf⟩ := below_class wr
                  go_wp2_with fail
                  refine region_in C hC (by kernel_rfl) (by kernel_rfl) ?_
                  iterate 30
                    (refine WQ.step (fun K hK => ?_)
                     go_simp
                     first
                       | (refine hK _ ?_; clear hK K)
                       | (apply Exists.intro
                          refine ⟨fun x hx => ?_, hK _ ?_⟩
                          · first
                              | rfl
                              | (have hs := HSX.out.call (HCf.out _ hx); have hk := hs.knows.at 1 rfl; have c0 := hk.cell 0; have c2 := hk.cell 2; have cz := hk.lt; obtain ⟨-, g0, g1, g2⟩ := (HD.out.call hs.below).cellAt q _ HZ.out; obtain ⟨-, u0, u1, u2⟩ := (HD.out.call hs.below).cellAt k _ HX.out; go_simp; rfl)
                          clear hK K))
                  refine WQ.nil ?_
                  intro w5 hw
                  have HBW := Lib.hid (HCf.out _ hw)
                  clear hw hC HCc HCf C
                  have HB5 := Lib.hid (HBX.out.trans (HBW.out.mono HBX.out.size))
                  go_wp2_with fail
                  go_roundw
                  case rel => exact ⟨q + 1, by omega, by omega, by go_num, by rw [HAS.out]; simp <;> omega, HB5.out⟩
                  case measure => simp [intOf]; omega
            · obtain rfl : q = d.l.length := by omega
              have HFIN : Hid (((d.l.drop (k + 1)).take (d.l.length - (k + 1))).any (same t x) = (d.l.drop (k + 1)).any (same t x)) := Lib.hid (by rw [List.take_of_length_le (by simp)])
              rw [HFIN.out]
              have HOX := Lib.hid (own_keep HO.out HBX.out (Nat.le_refl _))
              have hzx : w.heap.size + 1 + 1 ≤ wr.heap.size := Nat.le_trans hzr HBX.out.size
              generalize (d.l.drop (k + 1)).any (same t x) = gone at *
              cases gone with
              | true =>
                go_wp2_with fail
                go_roundw
                case rel => exact ⟨k + 1, by omega, by go_num, by rw [HKS.out]; simpa using HOX.out, HSX.out, hzx⟩
                case measure => simp [intOf]; omega
              | false =>
                obtain ⟨-, u0, u1, u2⟩ := (HD.out.call HSX.out.below).cellAt k x HX.out
                have HSN := Lib.hid (sees_row wr wr.heap.size rfl x.1 x.2.1 x.2.2)
                have HO2 := Lib.hid (HOX.out.alloc (.cells #[.int .i64 x.1, .int .i64 x.2.1, .int .i64 x.2.2] 79))
                have HS2 := Lib.hid (HSX.out.other (.cells #[.int .i64 x.1, .int .i64 x.2.1, .int .i64 x.2.2] 79))
                go_wp2_with (at_builtin; refine wpList_appG rfl (.tmp 76) (.tmp 82) _ 79 _ 3 24 rfl info_row Try.underlying25 rfl (by decide) (w.heap.size + 1 + 1) _ kl.length _ rfl HO2.out _ _ 1 1 (flat encD [(x.1, (x.2.1, x.2.2))]) rfl HSN.out (fun h => by cases h) (encD_one _) (by omega) (by omega) (by simp; omega) ?_)
                intro v1 y1 ho1 hg1
                rw [← flat_append] at ho1
                have HO3 := Lib.hid ho1
                have HB3 : Hid (Below (w.heap.size + 1 + 1) _ y1) := Lib.hid ((Below.refl _ _).grown hg1 (by simp; omega) fun k hk => (HO2.out.lt k hk).1)
                have HS3 := Lib.hid (HS2.out.callB HB3.out (by omega) (by simp; omega))
                have hz4 : w.heap.size + 1 + 1 ≤ y1.heap.size := by have := HB3.out.size; simp at this; omega
                clear ho1 hg1 HB3
                go_wp2_with fail
                go_roundw
                case rel => exact ⟨k + 1, by omega, by go_num, by rw [HKS.out, if_neg (by decide), List.length_append]; exact HO3.out, HS3.out, hz4⟩
                case measure => simp [intOf]; omega
        · obtain rfl : k = d.l.length := by omega
          rw [HKA.out] at HO
          obtain ⟨A3, cap3, rfl, h31, h32, h33⟩ := own_slice0 HO.out
          have k0 := (HS.out.knows.at 1 rfl).free 0
          go_wp2_with fail
          refine bodyPost_ret (by simp [results, Try.results29, go_sem, c0, c1, c2, cz, d0, d1, d2, f0, f1, f2, z0]; try rfl) rfl ?_
          refine ⟨A3, cap3, rfl, ?_, ?_, at_own HO.out (by omega) (by simp)⟩
          · have hb := HS.out.below
            go_grown
          · refine Dv.own (B := w.heap.size + 1 + 1) (ow_at HO.out fun b hb => ?_) rfl
            have hbb := (HO.out.lt b hb).1
            repeat (first | rfl | (refine (Below.heap_setCell _ _ _ _ (by simp; omega)).trans ?_))
    · obtain rfl : m = d.mark := by omega
      have HS2 := Lib.hid HS.out
      go_enter Try.func29, Try.ntmps29
      go_upto_region 7 with fail
      have HZZ : Hid (w.heap.size + 1 + 1 = (((w.alloc (.cells #[.slice A d.l.length cap, .int .i64 d.closed, .int .i64 d.mark] 27)).alloc (.cells #[.slice none 0 0, .int .i64 0, .int .i64 0] 27))).heap.size) := Lib.hid (by simp)
      generalize ((w.alloc (.cells #[.slice A d.l.length cap, .int .i64 d.closed, .int .i64 d.mark] 27)).alloc (.cells #[.slice none 0 0, .int .i64 0, .int .i64 0] 27)) = y0 at *
      clear HS c0 c1 c2 cz d0 d1 d2 f0 f1 f2 z0 e0 e1 e2
      have HO0 : Hid ((y0.alloc (.cells #[] 79)).ownsRow (w.heap.size + 1 + 1) 79 3 (.slice (some ⟨y0.heap.size, 0, none⟩) 0 0) 0 []) := Lib.hid (ow_less (ow_new y0 79 3 y0.heap.size rfl) (Nat.le_of_eq HZZ.out))
      have HS0 := Lib.hid (HS2.out.other (.cells #[] 79))
      clear HS2
      go_wp2_with fail
      go_loopw [6, 7] (fun v i wr => ∃ k : Nat, k ≤ d.l.length ∧ i = .int .i64 (k : Int) ∧ wr.ownsRow (w.heap.size + 1 + 1) 79 3 v (keepL d.mark d.l k).length (flat encD (keepL d.mark d.l k)) ∧ St w wr [(w.heap.size + 1, 27, #[.slice none 0 0, .int .i64 0, .int .i64 0]), (w.heap.size, 27, #[.slice A d.l.length cap, .int .i64 d.closed, .int .i64 d.mark])] ∧ w.heap.size + 1 + 1 ≤ wr.heap.size) (fun _ i _ => d.l.length - (intOf i).toNat)
      case atStart => exact ⟨0, by omega, rfl, HO0.out, HS0.out, by have := HZZ.out; simp; omega⟩
      case round =>
        obtain ⟨k, hk, rfl, ho, hst, hzr⟩ := hrel
        have HO := Lib.hid ho
        have HS := Lib.hid hst
        clear ho hst HO0 HS0
        obtain ⟨c0, c1, c2, cz, d0, d1, d2, f0, f1, f2, z0⟩ := put_facts HS.out
        obtain ⟨w9, hw9⟩ : ∃ w9, w9 = wr := ⟨_, rfl⟩
        subst hw9
        by_cases hlt : k < d.l.length
        · obtain ⟨x, hx⟩ : ∃ x, d.l[k]? = some x := ⟨_, List.getElem?_eq_getElem hlt⟩
          have HX := Lib.hid hx
          obtain ⟨b0, off, rfl, hb0, g0, g1, g2⟩ := (HD.out.call HS.out.below).cell k x hx
          have i2 : (k : Int) < (d.l.length : Int) := by omega
          have i3 : (k : Int) < (cap : Int) := by omega
          have HKS : Hid (keepL d.mark d.l (k + 1) = keepL d.mark d.l k ++ if ((d.l.drop (k + 1)).any (same d.mark x)) = true then [] else [x]) := Lib.hid (by rw [keepL, hx])
          have hkl := HKL.out k
          clear hx
          generalize keepL d.mark d.l k = kl at *
          go_wp2_with fail
          go_loopw [8, 9] (fun g j wx => ∃ q : Nat, k + 1 ≤ q ∧ q ≤ d.l.length ∧ j = .int .i64 (q : Int) ∧ g = .bool (((d.l.drop (k + 1)).take (q - (k + 1))).any (same d.mark x)) ∧ Below w9.heap.size w9 wx) (fun _ j _ => d.l.length - (intOf j).toNat)
          case atStart => exact ⟨k + 1, by omega, by omega, by go_num, by simp, Below.refl _ _⟩
          case round =>
            obtain ⟨q, hq1, hq2, rfl, rfl, hbx⟩ := hrel
            have HSX := Lib.hid (HS.out.call hbx)
            have HBX := Lib.hid hbx
            clear hbx c0 c1 c2 cz d0 d1 d2 f0 f1 f2 z0 g0 g1 g2
            obtain ⟨c0, c1, c2, cz, d0, d1, d2, f0, f1, f2, z0⟩ := put_facts HSX.out
            by_cases hql : q < d.l.length
            · obtain ⟨z, hz⟩ : ∃ z, d.l[q]? = some z := ⟨_, List.getElem?_eq_getElem hql⟩
              have HZ := Lib.hid hz
              have HAS := Lib.hid (any_step (f := same d.mark x) hq1 hz)
              have i4 : (q : Int) < (d.l.length : Int) := by omega
              have i5 : (q : Int) < (cap : Int) := by omega
              clear hz
              generalize ((d.l.drop (k + 1)).take (q - (k + 1))).any (same d.mark x) = gone at *
              cases gone with
              | true =>
                obtain ⟨C, hC, HCc, HCf⟩ := below_class wr
                go_wp2_with fail
                refine region_in C hC (by kernel_rfl) (by kernel_rfl) ?_
                iterate 30
                  (refine WQ.step (fun K hK => ?_)
                   go_simp
                   first
                     | (refine hK _ ?_; clear hK K)
                     | (apply Exists.intro
                        refine ⟨fun x hx => ?_, hK _ ?_⟩
                        · first
                            | rfl
                            | (have hs := HSX.out.call (HCf.out _ hx); have hk := hs.knows.at 1 rfl; have c0 := hk.cell 0; have c2 := hk.cell 2; have cz := hk.lt; obtain ⟨-, g0, g1, g2⟩ := (HD.out.call hs.below).cellAt q _ HZ.out; obtain ⟨-, u0, u1, u2⟩ := (HD.out.call hs.below).cellAt k _ HX.out; go_simp; rfl)
                        clear hK K))
                refine WQ.nil ?_
                intro w5 hw
                have HBW := Lib.hid (HCf.out _ hw)
                clear hw hC HCc HCf C
                have HB5 := Lib.hid (HBX.out.trans (HBW.out.mono HBX.out.size))
                go_wp2_with fail
                go_roundw
                case rel => exact ⟨q + 1, by omega, by omega, by go_num, by rw [HAS.out]; simp <;> omega, HB5.out⟩
                case measure => simp [intOf]; omega
              | false =>
                by_cases hxk : z.2.1 = x.2.1
                · have j1 : (z.2.1 == x.2.1) = true := by simpa using hxk
                  by_cases hxm : z.1 ≤ d.mark
                  · have HSM : Hid (same d.mark x z = true) := Lib.hid (by unfold same; simp [hxk, hxm])
                    rw [HSM.out] at HAS
                    clear hxk
                    obtain ⟨C, hC, HCc, HCf⟩ := below_class wr
                    go_wp2_with fail
                    refine region_in C hC (by kernel_rfl) (by kernel_rfl) ?_
                    iterate 30
                      (refine WQ.step (fun K hK => ?_)
                       go_simp
                       first
                         | (refine hK _ ?_; clear hK K)
                         | (apply Exists.intro
                            refine ⟨fun x hx => ?_, hK _ ?_⟩
                            · first
                                | rfl
                                | (have hs := HSX.out.call (HCf.out _ hx); have hk := hs.knows.at 1 rfl; have c0 := hk.cell 0; have c2 := hk.cell 2; have cz := hk.lt; obtain ⟨-, g0, g1, g2⟩ := (HD.out.call hs.below).cellAt q _ HZ.out; obtain ⟨-, u0, u1, u2⟩ := (HD.out.call hs.below).cellAt k _ HX.out; go_simp; rfl)
                            clear hK K))
                    refine WQ.nil ?_
                    intro w5 hw
                    have HBW := Lib.hid (HCf.out _ hw)
                    clear hw hC HCc HCf C
                    have HB5 := Lib.hid (HBX.out.trans (HBW.out.mono HBX.out.size))
                    go_wp2_with fail
                    go_roundw
                    case rel => exact ⟨q + 1, by omega, by omega, by go_num, by rw [HAS.out]; simp <;> omega, HB5.out⟩
                    case measure => simp [intOf]; omega
                  · have HSM : Hid (same d.mark x z = false) := Lib.hid (by unfold same; simp [hxk]; omega)
                    rw [HSM.out] at HAS
                    clear hxk
                    obtain ⟨C, hC, HCc, HCf⟩ := below_class wr
                    go_wp2_with fail
                    refine region_in C hC (by kernel_rfl) (by kernel_rfl) ?_
                    iterate 30
                      (refine WQ.step (fun K hK => ?_)
                       go_simp
                       first
                         | (refine hK _ ?_; clear hK K)
                         | (apply Exists.intro
                            refine ⟨fun x hx => ?_, hK _ ?_⟩
                            · first
                                | rfl
                                | (have hs := HSX.out.call (HCf.out _ hx); have hk := hs.knows.at 1 rfl; have c0 := hk.cell 0; have c2 := hk.cell 2; have cz := hk.lt; obtain ⟨-, g0, g1, g2⟩ := (HD.out.call hs.below).cellAt q _ HZ.out; obtain ⟨-, u0, u1, u2⟩ := (HD.out.call hs.below).cellAt k _ HX.out; go_simp; rfl)
                            clear hK K))
                    refine WQ.nil ?_
                    intro w5 hw
                    have HBW := Lib.hid (HCf.out _ hw)
                    clear hw hC HCc HCf C
                    have HB5 := Lib.hid (HBX.out.trans (HBW.out.mono HBX.out.size))
                    go_wp2_with fail
                    go_roundw
                    case rel => exact ⟨q + 1, by omega, by omega, by go_num, by rw [HAS.out]; simp <;> omega, HB5.out⟩
                    case measure => simp [intOf]; omega
                · have j1 : (z.2.1 == x.2.1) = false := by simpa using hxk
                  have HSM : Hid (same d.mark x z = false) := Lib.hid (by unfold same; simp [hxk])
                  rw [HSM.out] at HAS
                  clear hxk
                  obtain ⟨C, hC, HCc, HCf⟩ := below_class wr
                  go_wp2_with fail
                  refine region_in C hC (by kernel_rfl) (by kernel_rfl) ?_
                  iterate 30
                    (refine WQ.step (fun K hK => ?_)
                     go_simp
                     first
                       | (refine hK _ ?_; clear hK K)
                       | (apply Exists.intro
                          refine ⟨fun x hx => ?_, hK _ ?_⟩
                          · first
                              | rfl
                              | (have hs := HSX.out.call (HCf.out _ hx); have hk := hs.knows.at 1 rfl; have c0 := hk.cell 0; have c2 := hk.cell 2; have cz := hk.lt; obtain ⟨-, g0, g1, g2⟩ := (HD.out.call hs.below).cellAt q _ HZ.out; obtain ⟨-, u0, u1, u2⟩ := (HD.out.call hs.below).cellAt k _ HX.out; go_simp; rfl)
                          clear hK K))
                  refine WQ.nil ?_
                  intro w5 hw
                  have HBW := Lib.hid (HCf.out _ hw)
                  clear hw hC HCc HCf C
                  have HB5 := Lib.hid (HBX.out.trans (HBW.out.mono HBX.out.size))
                  go_wp2_with fail
                  go_roundw
                  case rel => exact ⟨q + 1, by omega, by omega, by go_num, by rw [HAS.out]; simp <;> omega, HB5.out⟩
                  case measure => simp [intOf]; omega
            · obtain rfl : q = d.l.length := by omega
              have HFIN : Hid (((d.l.drop (k + 1)).take (d.l.length - (k + 1))).any (same d.mark x) = (d.l.drop (k + 1)).any (same d.mark x)) := Lib.hid (by rw [List.take_of_length_le (by simp)])
              rw [HFIN.out]
              have HOX := Lib.hid (own_keep HO.out HBX.out (Nat.le_refl _))
              have hzx : w.heap.size + 1 + 1 ≤ wr.heap.size := Nat.le_trans hzr HBX.out.size
              generalize (d.l.drop (k + 1)).any (same d.mark x) = gone at *
              cases gone with
              | true =>
                go_wp2_with fail
                go_roundw
                case rel => exact ⟨k + 1, by omega, by go_num, by rw [HKS.out]; simpa using HOX.out, HSX.out, hzx⟩
                case measure => simp [intOf]; omega
              | false =>
                obtain ⟨-, u0, u1, u2⟩ := (HD.out.call HSX.out.below).cellAt k x HX.out
                have HSN := Lib.hid (sees_row wr wr.heap.size rfl x.1 x.2.1 x.2.2)
                have HO2 := Lib.hid (HOX.out.alloc (.cells #[.int .i64 x.1, .int .i64 x.2.1, .int .i64 x.2.2] 79))
                have HS2 := Lib.hid (HSX.out.other (.cells #[.int .i64 x.1, .int .i64 x.2.1, .int .i64 x.2.2] 79))
                go_wp2_with (at_builtin; refine wpList_appG rfl (.tmp 76) (.tmp 82) _ 79 _ 3 24 rfl info_row Try.underlying25 rfl (by decide) (w.heap.size + 1 + 1) _ kl.length _ rfl HO2.out _ _ 1 1 (flat encD [(x.1, (x.2.1, x.2.2))]) rfl HSN.out (fun h => by cases h) (encD_one _) (by omega) (by omega) (by simp; omega) ?_)
                intro v1 y1 ho1 hg1
                rw [← flat_append] at ho1
                have HO3 := Lib.hid ho1
                have HB3 : Hid (Below (w.heap.size + 1 + 1) _ y1) := Lib.hid ((Below.refl _ _).grown hg1 (by simp; omega) fun k hk => (HO2.out.lt k hk).1)
                have HS3 := Lib.hid (HS2.out.callB HB3.out (by omega) (by simp; omega))
                have hz4 : w.heap.size + 1 + 1 ≤ y1.heap.size := by have := HB3.out.size; simp at this; omega
                clear ho1 hg1 HB3
                go_wp2_with fail
                go_roundw
                case rel => exact ⟨k + 1, by omega, by go_num, by rw [HKS.out, if_neg (by decide), List.length_append]; exact HO3.out, HS3.out, hz4⟩
                case measure => simp [intOf]; omega
        · obtain rfl : k = d.l.length := by omega
          rw [HKA.out] at HO
          obtain ⟨A3, cap3, rfl, h31, h32, h33⟩ := own_slice0 HO.out
          have k0 := (HS.out.knows.at 1 rfl).free 0
          go_wp2_with fail
          refine bodyPost_ret (by simp [results, Try.results29, go_sem, c0, c1, c2, cz, d0, d1, d2, f0, f1, f2, z0]; try rfl) rfl ?_
          refine ⟨A3, cap3, rfl, ?_, ?_, at_own HO.out (by omega) (by simp)⟩
          · have hb := HS.out.below
            go_grown
          · refine Dv.own (B := w.heap.size + 1 + 1) (ow_at HO.out fun b hb => ?_) rfl
            have hbb := (HO.out.lt b hb).1
            repeat (first | rfl | (refine (Below.heap_setCell _ _ _ _ (by simp; omega)).trans ?_))
end Go.Proofs.Ytcpcepbjdohdmaa
