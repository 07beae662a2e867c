/- What may not be put changes nothing; what may is there, all of it, behind all that its keys had; for every input, without conditions (of more calls the first 30 are made, of more entries the first 120 are put). -/
import Derived.Test.YteneofbenfebgaaStoN
namespace Go.Proofs.Yteneofbenfebgaa.storeRefuses
open Go.ChangeShapes Go.WideShapes Go.ChangeAt Go.RowKit Go.Cn Go.So
set_option linter.unusedVariables false
set_option linter.unusedSimpArgs false

/-- The versions that the first k entries' keys had. -/
def wasF (s : Sto) (fl : List En) (n : Nat) : Nat → Ve := fun i => if i < n then (match fl[i]? with | some e => lastS s e.1 | none => (0, 0)) else (0, 0)
theorem wasF_next (s : Sto) (fl : List En) (n : Nat) (e : En) (h : fl[n]? = some e) : (fun j => if j = n then lastS s e.1 else wasF s fl n j) = wasF s fl (n + 1) := by
  funext j
  unfold wasF
  by_cases h1 : j = n
  · subst h1
    simp [h]
  · rw [if_neg h1]
    by_cases h2 : j < n
    · rw [if_pos h2, if_pos (by omega)]
    · rw [if_neg h2, if_neg (by omega)]
theorem wasF_at (s : Sto) (fl : List En) (n k : Nat) (e : En) (h : fl[k]? = some e) (hk : k < n) : wasF s fl n k = lastS s e.1 := by
  unfold wasF
  rw [if_pos hk, h]
theorem wasF_zero (s : Sto) (fl : List En) : wasF s fl 0 = fun _ => (0, 0) := by
  funext j
  unfold wasF
  simp
set_option maxHeartbeats 32000000 in
set_option maxRecDepth 100000 in
theorem walk (A : Option Addr) (len cap : Nat) (l : List Op12) (t : Int) (ht0 : -9223372036854775808 ≤ t ∧ t ≤ 9223372036854775807) (A' : Option Addr) (len' cap' : Nat) (en : List En) (w : World) (hL : IsR w A len cap 4 encO (GO w) l) (hE : IsR w A' len' cap' 2 encE GE en) :
    Calls Try.prog 6 #[.slice A len cap, .int .i64 t, .slice A' len' cap'] w fun r w' => r = .returned (.bool true) ∧ Below w.heap.size w w' := by
  have hlen' := hE.count
  subst hlen'
  have HNIL := Lib.hid hE.nil
  have her := IsR.er hE
  have HMA := Lib.hid (made_any A len cap l w hL _ rfl)
  have hroom := her.room
  have hcap := her.top
  have HER := Lib.hid her
  clear hL her hE
  have HO : Hid (∀ W, Er W A' cap' en → Er W A' cap' (en.take 120)) := Lib.hid fun W h => (GO.few (o := ⟨0, 0, 0, A', cap', en⟩) ⟨w64s 0 (by simp), w64s 0 (by simp), w64s 0 (by simp), h, HNIL.out⟩).row
  have HFEW := Lib.hid (fun w0 => few_any ⟨0, 0, 0, A', cap', en⟩ w0 hroom hcap)
  have HF2 : Hid (aggO (few12 ⟨0, 0, 0, A', cap', en⟩) = .agg #[.int .i64 0, .int .i64 0, .int .i64 0, .slice A' (en.take 120).length cap']) := Lib.hid rfl
  rw [HF2.out] at HFEW
  replace HFEW : Hid (∀ w0, Calls Try.prog 12 #[.agg #[.int .i64 0, .int .i64 0, .int .i64 0, .slice A' en.length cap']] w0 fun e w' => e = .returned (.agg #[.int .i64 0, .int .i64 0, .int .i64 0, .slice A' (en.take 120).length cap']) ∧ Below w0.heap.size w0 w') := HFEW
  replace HER := Lib.hid (HO.out _ HER.out)
  clear HF2 HO
  have hflr : (en.take 120).length ≤ cap' := HER.out.room
  have hf120 : (en.take 120).length ≤ 120 := by rw [List.length_take]; omega
  generalize hfl : en.take 120 = fl at *
  clear hfl
  generalize w.heap.size + 1 = g at *
  go_enter Try.func6, Try.ntmps6
  go_wp2_with fail
  refine HMA.out.mono ?_
  rintro r w1 ⟨rfl, hp⟩
  have H := Lib.hid hp
  clear hp HMA
  generalize mk l (min l.length 30) = c at *
  go_wp2_with fail
  refine (awake_any _).mono ?_
  rintro r w2 ⟨rfl, hb1⟩
  replace H := Lib.hid (H.out.call hb1)
  clear hb1
  go_wp2_with fail
  refine (HFEW.out _).mono ?_
  rintro r w3 ⟨rfl, hb1⟩
  have H0 := Lib.hid H.out
  replace H := Lib.hid ((H.out.call hb1).alloc w3.heap.size rfl 33 #[.int .i64 0, .int .i64 0, .int .i64 0, .slice A' fl.length cap'])
  have HSZ1 : Hid (w.heap.size ≤ w3.heap.size) := Lib.hid (Nat.le_trans H0.out.st.below.size hb1.size)
  clear hb1 HFEW H0
  have HFN := Lib.hid H.out.fine
  have hsz := size_few H.out.fine
  go_wp2_with fail
  refine (psize H.out).mono ?_
  rintro r w4 ⟨rfl, hb1⟩
  have HSZ : Hid (w.heap.size ≤ w4.heap.size ∧ w3.heap.size < w4.heap.size) := Lib.hid ⟨Nat.le_trans HSZ1.out (Nat.le_trans (by simp) hb1.size), by have := hb1.size; simp at this; omega⟩
  replace H := Lib.hid (H.out.call hb1)
  clear hb1
  have hz := was_zero
  have hZs := wasA_size (fun _ => (0, 0))
  obtain ⟨Z, hZ⟩ : ∃ Z, wasA (fun _ => (0, 0)) = Z := ⟨_, rfl⟩
  rw [hZ] at hz hZs
  have HZ := Lib.hid hZ
  clear hZ
  go_wp2_with fail
  replace H := Lib.hid (H.out.alloc w4.heap.size rfl 60 Z)
  replace H : Hid (Ps w (w4.alloc (.cells Z 60)) [(w4.heap.size, 60, wasA (wasF c fl 0)), (w3.heap.size, 33, #[.int .i64 0, .int .i64 0, .int .i64 0, .slice A' fl.length cap'])] g c (fun _ => False)) := Lib.hid (by rw [wasF_zero, HZ.out]; exact H.out)
  have hbw := H.out.lt
  have HWN := HSZ
  have HBASE : Hid (Below w4.heap.size w4 (w4.alloc (.cells Z 60))) := Lib.hid ((Below.refl _ _).alloc (Nat.le_refl _) _)
  clear hz hZs hbw
  go_loopw [11] (fun i wr => ∃ n : Nat, n ≤ fl.length ∧ i = .int .i64 (n : Int) ∧ Ps w wr [(w4.heap.size, 60, wasA (wasF c fl n)), (w3.heap.size, 33, #[.int .i64 0, .int .i64 0, .int .i64 0, .slice A' fl.length cap'])] g c (fun _ => False)) (fun i _ => fl.length - (intOf i).toNat)
  case atStart => exact ⟨0, by omega, rfl, H.out⟩
  case round =>
    obtain ⟨n, hn, rfl, hp⟩ := hrel
    have HP := Lib.hid hp
    clear hp H
    have hq := HP.out.st.knows.at 1 rfl
    have o3 := hq.cell 3
    have oz := hq.lt
    clear hq
    by_cases hlt : n < fl.length
    · obtain ⟨e, he⟩ : ∃ e, fl[n]? = some e := ⟨_, List.getElem?_eq_getElem hlt⟩
      obtain ⟨b0, off, rfl, hb, hcc⟩ := (HER.out.old HP.out).sees.item encE_len (by omega) n e he
      have q0 := hcc 0 _ rfl
      have q1 := hcc 1 _ rfl
      rw [Nat.add_zero] at q0
      have HV := Lib.hid he
      have HL := Lib.hid (plast e.1 (HER.out.good e (List.mem_of_getElem? he)).1 HP.out)
      have HNX := Lib.hid (wasF_next c fl n e he)
      have HSET := Lib.hid (wasA_set (wasF c fl n) n (by omega) (lastS c e.1))
      rw [HNX.out] at HSET
      have i1 : (n : Int) < (fl.length : Int) := by omega
      have i2 : (n : Int) < 120 := by omega
      clear hcc he HNX
      generalize lastS c e.1 = V at *
      go_wp2_with fail
      refine HL.out.mono ?_
      rintro r w5 ⟨rfl, hb5⟩
      have HP5 := Lib.hid (HP.out.call hb5)
      have hk := HP5.out.st.knows.at 0 rfl
      obtain ⟨a1, a2⟩ := wasA_at (wasF c fl n) n (by omega)
      have a0 := hk.cell (n * 2)
      have a5 := hk.cell (n * 2 + 1)
      rw [a1] at a0
      rw [a2] at a5
      have a3 := hk.free (n * 2)
      have a4 := hk.free (n * 2 + 1)
      have a6 := hk.lt
      have HSS := Lib.hid (((HP5.out.set0 HWN.out.1 (fun r hr => by simp at hr; subst hr; simp only; have := HWN.out.2; omega) (n * 2) (.int .i64 V.1)).set0 HWN.out.1 (fun r hr => by simp at hr; subst hr; simp only; have := HWN.out.2; omega) (n * 2 + 1) (.int .i64 V.2)))
      rw [HSET.out] at HSS
      clear hb5 HL hk a1 a2 o3 oz q0 q1 HSET HP
      go_wp2_with fail
      go_roundw
      case rel => exact ⟨n + 1, by omega, by go_num, HSS.out⟩
      case measure => simp [intOf]; omega
    · obtain rfl : n = fl.length := by omega
      have HPUT := Lib.hid (pput t (HP.out) (HER.out.old HP.out) fun hn a ha => .inl (er_far HER.out hn a ha))
      by_cases h0 : putSE c t fl = 0
      · have HLP := Lib.hid (fun e he => last_put HFN.out h0 (e := e) he)
        obtain ⟨z1, z2⟩ := size_put HFN.out h0
        have hz1 := z1
        rw [h0] at HPUT
        clear h0
        go_wp2_with fail
        refine HPUT.out.mono ?_
        rintro r w5 ⟨rfl, hp, -⟩
        have H5 := Lib.hid hp
        clear hp HPUT HP
        have hsz2 := size_few H5.out.fine
        generalize putS c t fl = S at *
        go_wp2_with fail
        go_loopw [13] (fun i wr => ∃ n : Nat, n ≤ fl.length ∧ i = .int .i64 (n : Int) ∧ Ps w wr [(w4.heap.size, 60, wasA (wasF c fl fl.length)), (w3.heap.size, 33, #[.int .i64 0, .int .i64 0, .int .i64 0, .slice A' fl.length cap'])] g S (fun _ => False)) (fun i _ => fl.length - (intOf i).toNat)
        case atStart => exact ⟨0, by omega, rfl, H5.out⟩
        case round =>
          obtain ⟨k, hk, rfl, hp⟩ := hrel
          have HP := Lib.hid hp
          clear hp
          have hq := HP.out.st.knows.at 1 rfl
          have o3 := hq.cell 3
          have oz := hq.lt
          clear hq
          by_cases hlt2 : k < fl.length
          · obtain ⟨e, he⟩ : ∃ e, fl[k]? = some e := ⟨_, List.getElem?_eq_getElem hlt2⟩
            obtain ⟨b0, off, rfl, hb, hcc⟩ := (HER.out.old HP.out).sees.item encE_len (by omega) k e he
            have q0 := hcc 0 _ rfl
            have q1 := hcc 1 _ rfl
            rw [Nat.add_zero] at q0
            have HV := Lib.hid he
            obtain ⟨l1, l2⟩ := HLP.out e (List.mem_of_getElem? he)
            have HL := Lib.hid (plast e.1 (HER.out.good e (List.mem_of_getElem? he)).1 HP.out)
            rw [l1] at HL
            have HWA := Lib.hid (wasF_at c fl fl.length k e he hlt2)
            have j1 : (t ≤ (lastS c e.1).1) = False := eq_false (by omega)
            have i1 : (k : Int) < (fl.length : Int) := by omega
            have i2 : (k : Int) < 120 := by omega
            clear hcc he l1 l2
            generalize lastS c e.1 = V at *
            go_wp2_with fail
            refine HL.out.mono ?_
            rintro r w6 ⟨rfl, hb6⟩
            have HPV := Lib.hid ((HP.out.call hb6).alloc w6.heap.size rfl 36 #[.int .i64 t, .int .i64 e.2])
            clear hb6 HL o3 oz q0 q1
            obtain ⟨C, hC, HCc, HCf⟩ := below_class (w6.alloc (.cells #[.int .i64 t, .int .i64 e.2] 36))
            go_wp2_with fail
            refine region_in C hC (by kernel_rfl) (by kernel_rfl) ?_
            iterate 38
              (refine WQ.step (fun K hK => ?_)
               go_simp
               try simp only [j1, if_true, if_false, decide_true, decide_false, Bool.or_false, Bool.and_false, Bool.true_and, Bool.and_true, Bool.true_or, Bool.or_true, Bool.false_or, bne_self_eq_false, beq_self_eq_true, Bool.not_true, Bool.not_false]
               first
                 | (refine hK _ ?_; clear hK K)
                 | (apply Exists.intro
                    refine ⟨fun x hx => ?_, hK _ ?_⟩
                    · first
                        | rfl
                        | (have hp := HPV.out.call (HCf.out _ hx); have v0 := (hp.st.knows.at 0 rfl).cell 0; have v1 := (hp.st.knows.at 0 rfl).cell 1; have o3 := (hp.st.knows.at 2 rfl).cell 3; have wa := hp.st.knows.at 1 rfl; obtain ⟨a1, a2⟩ := wasA_at (wasF c fl fl.length) k (by omega); rw [HWA.out] at a1 a2; have a3 := wa.cell (k * 2); have a4 := wa.cell (k * 2 + 1); rw [a1] at a3; rw [a2] at a4; obtain ⟨bb, oo, hA, -, hcc⟩ := (HER.out.old hp).sees.item encE_len (by omega) k e HV.out; injection hA with hA; injection hA with e1 e2; subst e1 e2; have g1 := hcc 1 _ rfl; go_simp; rfl)
                    clear hK K))
            refine WQ.nil ?_
            intro w8 hw
            have HBW := Lib.hid (HCf.out _ hw)
            clear hw hC HCc HCf C
            have HP8 := Lib.hid ((HPV.out.call HBW.out).few (L' := [(w4.heap.size, 60, wasA (wasF c fl fl.length)), (w3.heap.size, 33, #[.int .i64 0, .int .i64 0, .int .i64 0, .slice (some ⟨b0, off, none⟩) fl.length cap'])]) (by simp))
            go_wp2_with fail
            go_roundw
            case rel => exact ⟨k + 1, by omega, by go_num, HP8.out⟩
            case measure => simp [intOf]; omega
          · obtain rfl : k = fl.length := by omega
            have j1 : (S.closed < t) = True := eq_true z2
            rw [hz1] at hsz2
            have HSZ2 := Lib.hid (psize HP.out)
            rw [hz1] at HSZ2
            have HCLS := Lib.hid (fun w0 (h : Ps w w0 [(w4.heap.size, 60, wasA (wasF c fl fl.length)), (w3.heap.size, 33, #[.int .i64 0, .int .i64 0, .int .i64 0, .slice A' fl.length cap'])] g S (fun _ => False)) => psize h)
            rw [hz1] at HCLS
            generalize sizeS c = z at *
            have q5 : IntKind.i64.wrap ((z : Int) + (fl.length : Int)) = (z : Int) + (fl.length : Int) := by rw [IntKind.wrap_i64]; omega
            obtain ⟨C, hC, HCc, HCf⟩ := below_class wr
            go_wp2_with fail
            refine region_in C hC (by kernel_rfl) (by kernel_rfl) ?_
            iterate 15
              (refine WQ.step (fun K hK => ?_)
               go_simp
               try simp only [j1, q5, eq_self, if_true, if_false, decide_true, decide_false, Bool.or_false, Bool.and_false, Bool.true_and, Bool.and_true, Bool.true_or, Bool.or_true, Bool.false_or, bne_self_eq_false, beq_self_eq_true, Bool.not_true, Bool.not_false]
               first
                 | (refine hK _ ?_; clear hK K)
                 | (apply Exists.intro
                    refine ⟨fun x hx => ?_, hK _ ?_⟩
                    · first
                        | rfl
                        | (go_at_call 17; refine (HCLS.out _ (HP.out.call (HCf.out _ hx))).mono ?_; rintro e x1 ⟨rfl, hb⟩; exact ⟨rfl, HCc.out _ _ hx hb⟩)
                        | (go_at_call 15; refine (pclosed (HP.out.call (HCf.out _ hx))).mono ?_; rintro e x1 ⟨rfl, rfl⟩; exact ⟨rfl, hx⟩)
                        | (have o3 := ((HP.out.call (HCf.out _ hx)).st.knows.at 1 rfl).cell 3; go_simp; rfl)
                    clear hK K))
            refine WQ.nil ?_
            intro w8 hw
            have HBW := Lib.hid (HCf.out _ hw)
            clear hw hC HCc HCf C
            have HPE := Lib.hid (HP.out.call HBW.out)
            go_wp2_with fail
            go_ret
            exact ⟨rfl, HPE.out.st.below⟩
      · have hnp := put_not h0
        have h1 : (putSE c t fl == 0) = false := by simpa using h0
        have h2 : (putSE c t fl != 0) = true := by simpa using h0
        have h3 : (putSE c t fl = 0) = False := eq_false h0
        rw [hnp] at HPUT
        clear hnp h0
        generalize putSE c t fl = E at *
        go_wp2_with fail
        refine HPUT.out.mono ?_
        rintro r w5 ⟨rfl, hp, -⟩
        have H5 := Lib.hid hp
        clear hp HPUT HP
        go_wp2_with fail
        go_loopw [13] (fun i wr => ∃ n : Nat, n ≤ fl.length ∧ i = .int .i64 (n : Int) ∧ Ps w wr [(w4.heap.size, 60, wasA (wasF c fl fl.length)), (w3.heap.size, 33, #[.int .i64 0, .int .i64 0, .int .i64 0, .slice A' fl.length cap'])] g c (fun _ => False)) (fun i _ => fl.length - (intOf i).toNat)
        case atStart => exact ⟨0, by omega, rfl, H5.out⟩
        case round =>
          obtain ⟨k, hk, rfl, hp⟩ := hrel
          have HP := Lib.hid hp
          clear hp
          have hq := HP.out.st.knows.at 1 rfl
          have o3 := hq.cell 3
          have oz := hq.lt
          clear hq
          by_cases hlt2 : k < fl.length
          · obtain ⟨e, he⟩ : ∃ e, fl[k]? = some e := ⟨_, List.getElem?_eq_getElem hlt2⟩
            obtain ⟨b0, off, rfl, hb, hcc⟩ := (HER.out.old HP.out).sees.item encE_len (by omega) k e he
            have q0 := hcc 0 _ rfl
            have q1 := hcc 1 _ rfl
            rw [Nat.add_zero] at q0
            have HV := Lib.hid he
            have HL := Lib.hid (plast e.1 (HER.out.good e (List.mem_of_getElem? he)).1 HP.out)
            have HWA := Lib.hid (wasF_at c fl fl.length k e he hlt2)
            have i1 : (k : Int) < (fl.length : Int) := by omega
            have i2 : (k : Int) < 120 := by omega
            clear hcc he
            generalize lastS c e.1 = V at *
            go_wp2_with fail
            refine HL.out.mono ?_
            rintro r w6 ⟨rfl, hb6⟩
            have HPV := Lib.hid ((HP.out.call hb6).alloc w6.heap.size rfl 36 #[.int .i64 V.1, .int .i64 V.2])
            clear hb6 HL o3 oz q0 q1
            obtain ⟨C, hC, HCc, HCf⟩ := below_class (w6.alloc (.cells #[.int .i64 V.1, .int .i64 V.2] 36))
            go_wp2_with fail
            refine region_in C hC (by kernel_rfl) (by kernel_rfl) ?_
            iterate 38
              (refine WQ.step (fun K hK => ?_)
               go_simp
               try simp only [h1, h2, h3, if_true, if_false, decide_true, decide_false, Bool.or_false, Bool.and_false, Bool.true_and, Bool.and_true, Bool.true_or, Bool.or_true, Bool.false_or, bne_self_eq_false, beq_self_eq_true, Bool.not_true, Bool.not_false]
               first
                 | (refine hK _ ?_; clear hK K)
                 | (apply Exists.intro
                    refine ⟨fun x hx => ?_, hK _ ?_⟩
                    · first
                        | rfl
                        | (have hp := HPV.out.call (HCf.out _ hx); have v0 := (hp.st.knows.at 0 rfl).cell 0; have v1 := (hp.st.knows.at 0 rfl).cell 1; have o3 := (hp.st.knows.at 2 rfl).cell 3; have wa := hp.st.knows.at 1 rfl; obtain ⟨a1, a2⟩ := wasA_at (wasF c fl fl.length) k (by omega); rw [HWA.out] at a1 a2; have a3 := wa.cell (k * 2); have a4 := wa.cell (k * 2 + 1); rw [a1] at a3; rw [a2] at a4; obtain ⟨bb, oo, hA, -, hcc⟩ := (HER.out.old hp).sees.item encE_len (by omega) k e HV.out; injection hA with hA; injection hA with e1 e2; subst e1 e2; have g1 := hcc 1 _ rfl; go_simp; rfl)
                    clear hK K))
            refine WQ.nil ?_
            intro w8 hw
            have HBW := Lib.hid (HCf.out _ hw)
            clear hw hC HCc HCf C
            have HP8 := Lib.hid ((HPV.out.call HBW.out).few (L' := [(w4.heap.size, 60, wasA (wasF c fl fl.length)), (w3.heap.size, 33, #[.int .i64 0, .int .i64 0, .int .i64 0, .slice (some ⟨b0, off, none⟩) fl.length cap'])]) (by simp))
            go_wp2_with fail
            go_roundw
            case rel => exact ⟨k + 1, by omega, by go_num, HP8.out⟩
            case measure => simp [intOf]; omega
          · obtain rfl : k = fl.length := by omega
            have HSZ2 := Lib.hid (psize HP.out)
            generalize sizeS c = z at *
            go_wp2_with fail
            refine HSZ2.out.mono ?_
            rintro r w6 ⟨rfl, hb6⟩
            have HPE := Lib.hid (HP.out.call hb6)
            clear hb6
            go_wp2_with fail
            go_ret
            exact ⟨rfl, HPE.out.st.below⟩

set_option maxRecDepth 100000 in
theorem lifted (os : Os) (started : os.Started) (H : Type) (enc : TypeId × Value → H) :
    ReturnsInHanded {} Try.checked os 6 .any (Rows.storeRefusesSpec.pre6 enc Try.prog Try.f6 Rows.storeRefusesRow.domain false) (Rows.storeRefusesSpec.post enc Try.prog Try.f6 false true false false) := by
  refine returnsInHanded_of_change (C := Try.checked) own started (by kernel_rfl) Try.func6
    (ChangeSpec.witness6 (enc := enc) (C := Try.checked) false ⟨#[], #[.slice none 0 0, .int .i64 0, .slice none 0 0], []⟩ 8 (by kernel_rfl) (by kernel_rfl) (by kernel_rfl) (by kernel_rfl)) ?_
  intro W base args ds gs before hval0 hW hcnd _
  have hval : ∀ (j : Nat) t v, Try.f6.params[j]? = some t → args[j]? = some v → Value.okWide Try.prog W .any base t v := hval0
  have hW' := hW
  obtain ⟨p, q, hA0, hV, rfl, hfz, hnd⟩ := hW
  have hA : DataW.TrodAll enc Try.prog W 0 (fun _ => true) true Try.f6.params.toList args.toList ds p := hA0
  rw [Try.params6] at hA hval
  obtain ⟨v0, vs0, d0, ds0, p0, q0, hargs, rfl, rfl, h0, r0⟩ := trodAll_cons hA
  obtain ⟨v1, vs1, d1, ds1, p1, q1, rfl, rfl, rfl, h1, r1⟩ := trodAll_cons r0
  obtain ⟨v2, vs2, d2, ds2, p2, q2, rfl, rfl, rfl, h2, r2⟩ := trodAll_cons r1
  obtain ⟨rfl, rfl, rfl⟩ := trodAll_nil r2
  obtain rfl : args = #[v0, v1, v2] := by cases args; simp_all
  obtain ⟨rfl, rfl⟩ := trodVars_none hV
  obtain ⟨A0, len0, cap0, rfl⟩ := okWide_slice Try.underlying22 (hval 0 22 v0 rfl rfl)
  obtain ⟨l0, w0⟩ := open_ops h0
  have lt0 : ∀ x ∈ p0, x.block < W.heap.size := by obtain ⟨m, hm⟩ := h0; exact DataW.trod_lt m _ _ _ hm
  obtain ⟨a1, rfl⟩ := okWide_int Try.underlying2 (hval 1 2 v1 rfl rfl)
  have w1 : -9223372036854775808 ≤ a1 ∧ a1 ≤ 9223372036854775807 := by
    obtain ⟨m, hm⟩ := h1
    obtain ⟨s, hs, _, hl⟩ := DataW.trod_int Try.underlying2 hm
    simp [Value.cells] at hs
    rw [hs]; have := bounds_i64 hl; omega
  have lt1 : ∀ x ∈ p1, x.block < W.heap.size := by obtain ⟨m, hm⟩ := h1; exact DataW.trod_lt m _ _ _ hm
  obtain ⟨A2, len2, cap2, rfl⟩ := okWide_slice Try.underlying31 (hval 2 31 v2 rfl rfl)
  obtain ⟨l2, w2⟩ := open_ents h2
  have lt2 : ∀ x ∈ p2, x.block < W.heap.size := by obtain ⟨m, hm⟩ := h2; exact DataW.trod_lt m _ _ _ hm
  clear hA0 hval0
  simp only [List.append_nil] at hW'
  refine (walk A0 len0 cap0 l0 a1 w1 A2 len2 cap2 l2 W w0 w2).mono fun e W' ⟨he, bel⟩ => ?_
  subst he
  exact ⟨_, rfl, _, _, _, [], _, [], hW', trodAll_mk1 (shut_bool Try.underlying4 _), (trodAll_cons_mk (Below.trod laidOut (by kernel_rfl) (of_decide_eq_true (by kernel_rfl)) h0 bel lt0) (trodAll_cons_mk (Below.trod laidOut (by kernel_rfl) (of_decide_eq_true (by kernel_rfl)) h1 bel lt1) (trodAll_cons_mk (Below.trod laidOut (by kernel_rfl) (of_decide_eq_true (by kernel_rfl)) h2 bel lt2) trodAll_mk0))), rfl, bel.frame _, fun h => by cases h⟩

theorem proved : Rows.StoreRefusesSaid :=
  OpenClaim.holds_of_wide 6 Try.f6 rfl rfl rfl rfl rfl rfl rfl ⟨rfl, rfl, rfl, rfl, rfl⟩ rfl rfl rfl rfl rfl (by kernel_rfl) Try.func6 (by kernel_rfl)
    (of_decide_eq_true (by kernel_rfl)) (by unfold Func.isWrapper; first | (rw [if_pos (by decide +kernel)]; kernel_rfl) | (rw [if_neg (by decide +kernel)]; exact ⟨rfl, rfl⟩))
    (fun os started H enc _ => lifted os started H enc)
#print axioms proved
end Go.Proofs.Yteneofbenfebgaa.storeRefuses
