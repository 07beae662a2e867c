/- A loss of power behind another one changes nothing more: moietylaw07.DiskTwice answers true. For every list of acts and two lists of numbers; no conditions. -/
import Derived.Test.YtllbfoohhonmeaaDiskP
namespace Go.Proofs.Ytllbfoohhonmeaa.diskTwice
open Go.ChangeShapes Go.WideShapes Go.ChangeAt Go.RowKit Go.Dk
set_option linter.unusedVariables false
set_option linter.unusedSimpArgs false

theorem check_one (d : D) (h1 : d.logs.length = 3) (h2 : d.down = false) (log : Int) (h3 : 0 ≤ log) (h4 : log < 3) : d.check log = 0 := by unfold D.check; rw [h1, if_pos ⟨h3, h4⟩, if_neg (by simp [h2])]
theorem crash_twice (d : D) (keep more : List Int) : (d.crash keep).crash more = d.crash keep := by
  have h : (d.crash keep).down = true := by
    unfold D.crash
    split
    · assumption
    · rfl
  show (if (d.crash keep).down = true then d.crash keep else (d.crash keep).lose more) = d.crash keep
  rw [if_pos h]
/-- A log that is all sure loses nothing. -/
theorem cut_sure (c : Lg) (h : c.sure = c.all.length) (m : Int) : c.cut m = c := by
  unfold Lg.cut Lg.kept
  have e : c.sure + min (max m 0).toNat (c.all.length - c.sure) = c.all.length := by omega
  rw [e, List.take_length]
  cases c
  simp only at h
  rw [h]
structure Firm (d : D) : Prop where
  fit : Fit d 30
  logs : ∀ c ∈ d.logs, c.sure = c.all.length
theorem firm_lost {d : D} (o : Ok d) (f : Fit d 30) (keep : List Int) : Firm (d.crash keep).up := by
  refine ⟨f.lost keep, fun c hc => ?_⟩
  unfold D.crash at hc
  rw [if_neg (by simp [f.down])] at hc
  obtain ⟨i, hi, rfl⟩ := List.mem_mapIdx.1 hc
  have := okay_kept (o.logs _ (List.getElem_mem hi)) (keep.getD i 0)
  show (d.logs[i].kept (keep.getD i 0)) = (d.logs[i].all.take (d.logs[i].kept (keep.getD i 0))).length
  rw [List.length_take]
  omega
/-- Lost again, nothing changes in the logs. -/
theorem firm_again {d : D} (f : Firm d) (keep : List Int) : (d.crash keep).up.logs = d.logs := by
  unfold D.crash
  rw [if_neg (by simp [f.fit.down])]
  show List.mapIdx (fun i c => c.cut (keep.getD i 0)) d.logs = d.logs
  apply List.ext_getElem?
  intro i
  rw [List.getElem?_mapIdx]
  cases h : d.logs[i]? with
  | none => rfl
  | some c =>
    show some (c.cut _) = some c
    rw [cut_sure c (f.logs c (List.mem_of_getElem? h))]
theorem of_logs {d e : D} (h : d.logs = e.logs) (log : Int) : d.of log = e.of log := by unfold D.of; rw [h]
theorem firm_of {d : D} (f : Firm d) (log : Int) : (d.of log).sure = (d.of log).all.length := by
  rcases d.number log with h | ⟨i, c, rfl, h⟩
  · rw [D.of_out h]; rfl
  · rw [D.of_in h]; exact f.logs c (List.mem_of_getElem? h)
/-- Three texts, the first k of which are told. -/
def was (d : D) (k : Nat) : Array Value := #[.string (txt (if 0 < k then (d.of 0).all else [])), .string (txt (if 1 < k then (d.of 1).all else [])), .string (txt (if 2 < k then (d.of 2).all else []))]
theorem was_next (d : D) (k : Nat) (h : k < 3) : (was d k).setIfInBounds k (.string (txt (d.of k).all)) = was d (k + 1) := by
  have : k = 0 ∨ k = 1 ∨ k = 2 := by omega
  rcases this with rfl | rfl | rfl <;> rfl
theorem was_at (d : D) (k : Nat) (h : k < 3) : ∃ u, (was d k)[k]? = some (.string u) := by
  have : k = 0 ∨ k = 1 ∨ k = 2 := by omega
  rcases this with rfl | rfl | rfl <;> exact ⟨_, rfl⟩
theorem was_end (d : D) (k : Nat) (h : k < 3) : (was d 3)[k]? = some (.string (txt (d.of k).all)) := by
  have : k = 0 ∨ k = 1 ∨ k = 2 := by omega
  rcases this with rfl | rfl | rfl <;> rfl
/-- The worlds behind steps that change nothing old. -/
theorem lw_class {W w : World} {L : List Row} {g : Nat} {d : D} (h : Lw W w L g d) :
    ∃ C : World → Prop, C w.drew ∧ Hid (∀ a b, C a → Below a.heap.size a b → C b) ∧ Hid (∀ a, C a → Lw W a L g d) :=
  ⟨fun a => Lw W a L g d, h.drewN 1, Lib.hid fun a b ha hb => ha.call hb, Lib.hid fun a ha => ha⟩

set_option maxRecDepth 100000 in
set_option maxHeartbeats 4000000 in
theorem walk (A : Option Addr) (len cap : Nat) (l : List Ac) (A1 : Option Addr) (len1 cap1 : Nat) (m1 : List Int) (A2 : Option Addr) (len2 cap2 : Nat) (m2 : List Int) (w : World) (hL : IsR w A len cap 5 encA (GA w) l) (hM : IsR w A1 len1 cap1 1 encI W64 m1) (hN : IsR w A2 len2 cap2 1 encI W64 m2) :
    Calls Try.prog 7 #[.slice A len cap, .slice A1 len1 cap1, .slice A2 len2 cap2] w fun r w' => r = .returned (.bool true) ∧ Below w.heap.size w w' := by
  have hlen := hL.count
  have hlen1 := hM.count
  have hlen2 := hN.count
  subst hlen hlen1 hlen2
  have HMADE := Lib.hid (made_any A cap l w hL)
  have HI1 := Lib.hid (fun (w' : World) (L : List Row) (hb : Below w.heap.size w w') => inI_arg (L := L) hM hb)
  have HI2 := Lib.hid (fun (w' : World) (L : List Row) (hb : Below w.heap.size w w') => inI_arg (L := L) hN hb)
  clear hL hM hN
  go_enter Try.func7, Try.ntmps7
  go_wp2_with fail
  refine HMADE.out.mono ?_
  rintro e w1 ⟨g, d0, rfl, hl, hfit0⟩
  have H := Lib.hid hl
  have HF0 := Lib.hid hfit0
  have HOK0 := Lib.hid hl.ok
  clear hl hfit0 HMADE
  go_wp2_with fail
  refine (awake_any _).mono ?_
  rintro e w2 ⟨rfl, hb⟩
  replace H := Lib.hid (H.out.call hb)
  clear hb
  have many : ((20 : Int) < m1.length ∨ ¬ (20 : Int) < m1.length) ∧ ((20 : Int) < m2.length ∨ ¬ (20 : Int) < m2.length) := by omega
  rcases many with ⟨k1 | k1, k2 | k2⟩
  case inl.inl | inl.inr | inr.inl =>
    go_wp2_with fail
    go_ret
    exact ⟨rfl, H.out.st.below⟩
  go_wp2_with fail
  refine (H.out.crash (HI1.out _ _ H.out.st.below)).mono ?_
  rintro e w3 ⟨rfl, hl⟩
  replace H := Lib.hid hl
  clear hl
  go_wp2_with fail
  refine (H.out.crash (HI2.out _ _ H.out.st.below)).mono ?_
  rintro e w4 ⟨rfl, hl⟩
  rw [crash_twice] at hl
  replace H := Lib.hid hl
  clear hl
  go_wp2_with fail
  refine H.out.up.mono ?_
  rintro e w5 ⟨rfl, hl⟩
  have HW5 := Lib.hid hl.st.below.size
  replace H := Lib.hid hl
  have HP := Lib.hid (firm_lost HOK0.out HF0.out m1)
  clear hl
  generalize (d0.crash m1).up = d at *
  have HRD : Hid (∀ k : Nat, k < 3 → d.check k = 0 ∧ d.read k = (d.of k).all) := Lib.hid fun k hk => by
    have hc := check_one d HP.out.fit.len HP.out.fit.down k (by omega) (by omega)
    exact ⟨hc, by unfold D.read; rw [if_pos hc]⟩
  go_wp2_with fail
  replace H := Lib.hid (show Lw w _ [(w5.heap.size, 47, was d 0)] g d from H.out.alloc w5.heap.size rfl 47 #[.string ⟨#[]⟩, .string ⟨#[]⟩, .string ⟨#[]⟩])
  go_loopw [9] (fun i wr => ∃ k : Nat, k ≤ 3 ∧ i = .int .i64 (k : Int) ∧ Lw w wr [(w5.heap.size, 47, was d k)] g d) (fun i _ => 3 - (intOf i).toNat)
  case atStart => exact ⟨0, by omega, rfl, H.out⟩
  case round =>
    obtain ⟨k, hk, rfl, hl⟩ := hrel
    replace H := Lib.hid hl
    clear hl
    by_cases hlt : k < 3
    · have i1 : (k : Int) < 3 := by omega
      obtain ⟨r1, r2⟩ := HRD.out k hlt
      have HR1 := Lib.hid r1
      have HR2 := Lib.hid r2
      have HNX := Lib.hid (was_next d k hlt)
      obtain ⟨u0, hu0⟩ := was_at d k hlt
      have HU := Lib.hid hu0
      have HK64 : Hid (W64 (k : Int)) := Lib.hid ⟨by omega, by omega⟩
      clear r1 r2 hu0
      go_wp2_with fail
      refine (H.out.read HK64.out).mono ?_
      rintro e w6 ⟨v, rfl, ho, hb⟩
      rw [HR1.out]
      rw [HR2.out] at ho
      obtain ⟨A5, cap5, rfl, -⟩ := OwnB.slice ho
      have hcv := conv_bytes (d.of k).all A5 cap5 _ w6 (ho.sees rfl)
      have H6 := Lib.hid (H.out.call hb)
      have t0 := (H6.out.st.knows.at 0 rfl).cell k
      rw [HU.out] at t0
      have t1 := (H6.out.st.knows.at 0 rfl).free k
      clear ho hb
      rw [show (ByteArray.mk (d.of k).all.toArray) = txt (d.of k).all from rfl] at hcv
      generalize (d.of k).all.length = n5 at *
      generalize txt (d.of k).all = t5 at *
      go_wp2_with fail
      have H7 := H6.out.set0 (by have := HW5.out; omega) (fun r hr => by cases hr) k (.string t5)
      rw [HNX.out] at H7
      have HH7 := Lib.hid H7
      clear H7
      go_roundw
      case rel => exact ⟨k + 1, by omega, by go_num, HH7.out⟩
      case measure => simp [intOf]; omega
    · obtain rfl : k = 3 := by omega
      have HL2 := Lib.hid (firm_again HP.out m2)
      have HP2 := Lib.hid (firm_lost H.out.ok HP.out.fit m2)
      go_wp2_with fail
      refine (H.out.crash (HI2.out _ _ H.out.st.below)).mono ?_
      rintro e w6 ⟨rfl, hl⟩
      replace H := Lib.hid hl
      clear hl
      go_wp2_with fail
      refine H.out.up.mono ?_
      rintro e w7 ⟨rfl, hl⟩
      replace H := Lib.hid hl
      clear hl
      generalize (d.crash m2).up = d2 at *
      have HRD2 : Hid (∀ k : Nat, k < 3 → d2.check k = 0 ∧ d2.read k = (d.of k).all ∧ (d2.of k).sure = (d.of k).all.length) := Lib.hid fun k hk => by
        have hc := check_one d2 HP2.out.fit.len HP2.out.fit.down k (by omega) (by omega)
        exact ⟨hc, by unfold D.read; rw [if_pos hc, of_logs HL2.out], by rw [of_logs HL2.out]; exact firm_of HP.out k⟩
      go_wp2_with fail
      go_loopw [12] (fun i wr => ∃ k : Nat, k ≤ 3 ∧ i = .int .i64 (k : Int) ∧ Lw w wr [(w5.heap.size, 47, was d 3)] g d2) (fun i _ => 3 - (intOf i).toNat)
      case atStart => exact ⟨0, by omega, rfl, H.out⟩
      case round =>
        obtain ⟨k, hk, rfl, hl⟩ := hrel
        replace H := Lib.hid hl
        clear hl
        by_cases hlt : k < 3
        · have i1 : (k : Int) < 3 := by omega
          obtain ⟨r1, r2, r3⟩ := HRD2.out k hlt
          have HR1 := Lib.hid r1
          have HR2 := Lib.hid r2
          have HWE := Lib.hid (was_end d k hlt)
          have HK64 : Hid (W64 (k : Int)) := Lib.hid ⟨by omega, by omega⟩
          have HSU := Lib.hid (fun (y : World) (hy : Lw w y [(w5.heap.size, 47, was d 3)] g d2) => hy.sure HK64.out)
          rw [r3] at HSU
          clear r1 r2 r3
          go_wp2_with fail
          refine (H.out.read HK64.out).mono ?_
          rintro e w8 ⟨v, rfl, ho, hb⟩
          rw [HR1.out]
          rw [HR2.out] at ho
          obtain ⟨A5, cap5, R5, rfl, hA5, hcap5, hl, hown5⟩ := H.out.own hb ho
          have HN5 := Lib.hid hown5
          have H8 := Lib.hid hl
          clear hl ho hb hown5
          have hcv : Hid (∀ y, Knows y R5 → (convert 41 9 (.slice A5 (d.of k).all.length cap5)).run Try.prog y = .ok (.string (txt (d.of k).all)) y) := Lib.hid fun y hy => conv_bytes (d.of k).all A5 cap5 _ y ((HN5.out y hy).sees rfl)
          clear HN5 HR2
          generalize (d.of k).all.length = n5 at *
          generalize txt (d.of k).all = t5 at *
          go_wp2_with fail
          obtain ⟨C, hC, HCc, HCf⟩ := lw_class H8.out
          refine region_in C hC (by kernel_rfl) (by kernel_rfl) ?_
          iterate 18
            (refine WQ.step (fun K hK => ?_)
             go_simp
             first
               | (refine hK _ ?_; clear hK K)
               | (apply Exists.intro
                  refine ⟨fun y hy => ?_, hK _ ?_⟩
                  · first
                      | rfl
                      | (go_at_call 20; refine (HSU.out y ((HCf.out _ hy).few (fun r hr => List.mem_append.2 (.inr hr)))).mono ?_; rintro e x1 ⟨rfl, hb⟩; exact ⟨rfl, HCc.out _ _ hy hb⟩)
                      | (have hk1 := hcv.out y (fun r hr => (HCf.out _ hy).knows r (List.mem_append.2 (.inl hr)))
                         go_simp
                         first | rfl | exact ⟨rfl, rfl⟩)
                      | (have hw1 := ((HCf.out _ hy).knows (w5.heap.size, 47, was d 3) (List.mem_append.2 (.inr (List.mem_singleton.2 rfl)))).cell k
                         rw [HWE.out] at hw1
                         go_simp
                         first | rfl | exact ⟨rfl, rfl⟩)
                  clear hK K))
          refine WQ.nil ?_
          intro y hy
          have H9 := Lib.hid ((HCf.out _ hy).few (L' := [(w5.heap.size, 47, was d 3)]) (fun r hr => List.mem_append.2 (.inr hr)))
          clear hy hC HCc HCf C
          go_wp2_with fail
          go_roundw
          case rel => exact ⟨k + 1, by omega, by go_num, H9.out⟩
          case measure => simp [intOf]; omega
        · obtain rfl : k = 3 := by omega
          go_wp2_with fail
          go_ret
          exact ⟨rfl, H.out.st.below⟩

set_option maxRecDepth 100000 in
theorem lifted (os : Os) (started : os.Started) (H : Type) (enc : TypeId × Value → H) :
    ReturnsInHanded {} Try.checked os 7 .any (Rows.diskTwiceSpec.pre6 enc Try.prog Try.f7 Rows.diskTwiceRow.domain false) (Rows.diskTwiceSpec.post enc Try.prog Try.f7 false true false false) := by
  refine returnsInHanded_of_change (C := Try.checked) own started (by kernel_rfl) Try.func7
    (ChangeSpec.witness6 (enc := enc) (C := Try.checked) false ⟨#[], #[.slice none 0 0, .slice none 0 0, .slice none 0 0], []⟩ 8 (by kernel_rfl) (by kernel_rfl) (by kernel_rfl) (by kernel_rfl)) ?_
  intro W base args ds gs before hval0 hW hcnd _
  have hval : ∀ (j : Nat) t v, Try.f7.params[j]? = some t → args[j]? = some v → Value.okWide Try.prog W .any base t v := hval0
  have hW' := hW
  obtain ⟨p, q, hA0, hV, rfl, hfz, hnd⟩ := hW
  have hA : DataW.TrodAll enc Try.prog W 0 (fun _ => true) true Try.f7.params.toList args.toList ds p := hA0
  rw [Try.params7] at hA hval
  obtain ⟨v0, vs0, d0, ds0, p0, q0, hargs, rfl, rfl, h0, r0⟩ := trodAll_cons hA
  obtain ⟨v1, vs1, d1, ds1, p1, q1, rfl, rfl, rfl, h1, r1⟩ := trodAll_cons r0
  obtain ⟨v2, vs2, d2, ds2, p2, q2, rfl, rfl, rfl, h2, r2⟩ := trodAll_cons r1
  obtain ⟨rfl, rfl, rfl⟩ := trodAll_nil r2
  obtain rfl : args = #[v0, v1, v2] := by cases args; simp_all
  obtain ⟨rfl, rfl⟩ := trodVars_none hV
  obtain ⟨A0, len0, cap0, rfl⟩ := okWide_slice Try.underlying22 (hval 0 22 v0 rfl rfl)
  obtain ⟨l0, w0⟩ := open_acts h0
  have lt0 : ∀ x ∈ p0, x.block < W.heap.size := by obtain ⟨m, hm⟩ := h0; exact DataW.trod_lt m _ _ _ hm
  obtain ⟨A1, len1, cap1, rfl⟩ := okWide_slice Try.underlying28 (hval 1 28 v1 rfl rfl)
  obtain ⟨l1, w1⟩ := open_ints h1
  have lt1 : ∀ x ∈ p1, x.block < W.heap.size := by obtain ⟨m, hm⟩ := h1; exact DataW.trod_lt m _ _ _ hm
  obtain ⟨A2, len2, cap2, rfl⟩ := okWide_slice Try.underlying28 (hval 2 28 v2 rfl rfl)
  obtain ⟨l2, w2⟩ := open_ints h2
  have lt2 : ∀ x ∈ p2, x.block < W.heap.size := by obtain ⟨m, hm⟩ := h2; exact DataW.trod_lt m _ _ _ hm
  clear hA0 hval0
  simp only [List.append_nil] at hW'
  refine (walk A0 len0 cap0 l0 A1 len1 cap1 l1 A2 len2 cap2 l2 W w0 w1 w2).mono fun e W' ⟨he, bel⟩ => ?_
  subst he
  exact ⟨_, rfl, _, _, _, [], _, [], hW', trodAll_mk1 (shut_bool Try.underlying4 _), (trodAll_cons_mk (Below.trod laidOut (by kernel_rfl) (of_decide_eq_true (by kernel_rfl)) h0 bel lt0) (trodAll_cons_mk (Below.trod laidOut (by kernel_rfl) (of_decide_eq_true (by kernel_rfl)) h1 bel lt1) (trodAll_cons_mk (Below.trod laidOut (by kernel_rfl) (of_decide_eq_true (by kernel_rfl)) h2 bel lt2) trodAll_mk0))), rfl, bel.frame _, fun h => by cases h⟩

theorem proved : Rows.DiskTwiceSaid :=
  OpenClaim.holds_of_wide 7 Try.f7 rfl rfl rfl rfl rfl rfl rfl ⟨rfl, rfl, rfl, rfl, rfl⟩ rfl rfl rfl rfl rfl (by kernel_rfl) Try.func7 (by kernel_rfl)
    (of_decide_eq_true (by kernel_rfl)) (by unfold Func.isWrapper; first | (rw [if_pos (by decide +kernel)]; kernel_rfl) | (rw [if_neg (by decide +kernel)]; exact ⟨rfl, rfl⟩))
    (fun os started H enc _ => lifted os started H enc)
#print axioms proved
end Go.Proofs.Ytllbfoohhonmeaa.diskTwice
