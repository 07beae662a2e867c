/- Puts of unlike keys may change places; for every input, without conditions (of more calls the first 30 are made, of more entries the first 120 are put). -/
import Derived.Test.YteneofbenfebgaaStoT
namespace Go.Proofs.Yteneofbenfebgaa.storeTurns
open Go.ChangeShapes Go.WideShapes Go.ChangeAt Go.RowKit Go.Cn Go.So
set_option linter.unusedVariables false
set_option linter.unusedSimpArgs false

theorem turns_op (a b c v : Value) (x : World) : (Instr.field 33 (.agg #[a, b, c, v]) 3).run Try.prog x = .ok v x := by kernel_rfl
theorem few_of {w : World} {A : Option Addr} {cap : Nat} {en : List En} (h : Er w A cap en) (hn : A = none → cap = 0) : Er w A cap (en.take 120) ∧ (en.take 120).length ≤ 120 ∧ ∀ w0, Calls Try.prog 12 #[.agg #[.int .i64 0, .int .i64 0, .int .i64 0, .slice A en.length cap]] w0 fun e w' => e = .returned (.agg #[.int .i64 0, .int .i64 0, .int .i64 0, .slice A (en.take 120).length cap]) ∧ Below w0.heap.size w0 w' :=
  ⟨(GO.few (o := ⟨0, 0, 0, A, cap, en⟩) ⟨w64s 0 (by simp), w64s 0 (by simp), w64s 0 (by simp), h, hn⟩).row, by rw [List.length_take]; omega, fun w0 => few_any ⟨0, 0, 0, A, cap, en⟩ w0 h.room h.top⟩
set_option maxHeartbeats 32000000 in
set_option maxRecDepth 100000 in
theorem walk (A : Option Addr) (len cap : Nat) (l : List Op12) (t1 : Int) (A1 : Option Addr) (c1 : Nat) (p0 : List En) (t2 : Int) (A2 : Option Addr) (c2 : Nat) (q0 : List En) (w : World) (hL : IsR w A len cap 4 encO (GO w) l) (hP : W64 t1 ∧ Er w A1 c1 p0 ∧ (A1 = none → c1 = 0)) (hQ0 : W64 t2 ∧ Er w A2 c2 q0 ∧ (A2 = none → c2 = 0)) :
    Calls Try.prog 8 #[.slice A len cap, .agg #[.int .i64 t1, .slice A1 p0.length c1], .agg #[.int .i64 t2, .slice A2 q0.length c2]] w fun r w' => r = .returned (.bool true) ∧ Below w.heap.size w w' := by
  have HB0 := Lib.hid (((Below.refl w.heap.size w).alloc (Nat.le_refl _) (.cells #[.int .i64 t1, .slice A1 p0.length c1] 52)).alloc (by simp) (.cells #[.int .i64 t2, .slice A2 q0.length c2] 52))
  have HBA : Hid (Whole ((w.alloc (.cells #[.int .i64 t1, .slice A1 p0.length c1] 52)).alloc (.cells #[.int .i64 t2, .slice A2 q0.length c2] 52)) w.heap.size 52 #[.int .i64 t1, .slice A1 p0.length c1]) := Lib.hid ((Whole.fresh w 52 #[.int .i64 t1, .slice A1 p0.length c1]).alloc _)
  have HBB : Hid (Whole ((w.alloc (.cells #[.int .i64 t1, .slice A1 p0.length c1] 52)).alloc (.cells #[.int .i64 t2, .slice A2 q0.length c2] 52)) (w.heap.size + 1) 52 #[.int .i64 t2, .slice A2 q0.length c2]) := Lib.hid (by simpa using Whole.fresh (w.alloc (.cells #[.int .i64 t1, .slice A1 p0.length c1] 52)) 52 #[.int .i64 t2, .slice A2 q0.length c2])
  obtain ⟨f1, f2, f3⟩ := few_of (hP.2.1.call HB0.out) hP.2.2
  obtain ⟨g1, g2, g3⟩ := few_of (hQ0.2.1.call HB0.out) hQ0.2.2
  have HEP := Lib.hid f1
  have HEQ := Lib.hid g1
  have HFP := Lib.hid f3
  have HFQ := Lib.hid g3
  have HLI := Lib.hid (isr_call hL HB0.out)
  have hpr := f1.room
  have hqr := g1.room
  have hpc := f1.top
  have hqc := g1.top
  clear hL hP hQ0 f1 f3 g1 g3
  generalize p0.take 120 = p at *
  generalize q0.take 120 = q at *
  have HBW0 := Lib.hid HB0.out
  clear HB0
  generalize hW : (w.alloc (.cells #[.int .i64 t1, .slice A1 p0.length c1] 52)).alloc (.cells #[.int .i64 t2, .slice A2 q0.length c2] 52) = W at *
  have HW := Lib.hid hW
  clear hW
  have HMA := Lib.hid (made_any A len cap l W HLI.out _ rfl)
  have HMB := Lib.hid (fun w0 (hb : Below W.heap.size W w0) => made_any A len cap l w0 (isr_call HLI.out hb) _ rfl)
  clear HLI
  generalize W.heap.size + 1 = g at *
  go_enter Try.func8, Try.ntmps8
  go_wp2_with fail
  rw [HW.out]
  refine HMA.out.mono ?_
  rintro r w1 ⟨rfl, hp⟩
  have HP1 := Lib.hid hp
  have HMB1 := Lib.hid (HMB.out w1 hp.st.below)
  clear hp HMA HMB
  generalize w1.heap.size + 1 = g2 at *
  go_wp2_with fail
  refine HMB1.out.mono ?_
  rintro r w2 ⟨rfl, hp⟩
  have H := Lib.hid (Ps2.made HP1.out hp)
  clear hp HMB1 HP1
  generalize mk l (min l.length 30) = c at *
  go_wp2_with fail
  refine (awake_any _).mono ?_
  rintro r w3 ⟨rfl, hb1⟩
  replace H := Lib.hid (H.out.call hb1)
  clear hb1
  obtain ⟨C, hC, HCc, HCf⟩ := below_class w3
  go_wp2_with fail
  refine region_in C hC (by kernel_rfl) (by kernel_rfl) ?_
  iterate 5
    (refine WQ.step (fun K hK => ?_)
     go_simp
     first
       | (refine hK _ ?_; clear hK K)
       | (apply Exists.intro
          refine ⟨fun x hx => ?_, hK _ ?_⟩
          · first
              | rfl
              | (have hp := (H.out.call (HCf.out _ hx)).st.below; have a0 := (HBA.out.below hp HBA.out.lt).cell 0; have a1 := (HBA.out.below hp HBA.out.lt).cell 1; have b0 := (HBB.out.below hp HBB.out.lt).cell 0; have b1 := (HBB.out.below hp HBB.out.lt).cell 1; go_simp; rfl)
              | (go_at_call 12; refine (HFP.out _).mono ?_; rintro e x1 ⟨rfl, hb⟩; exact ⟨rfl, HCc.out _ _ hx hb⟩)
              | (rw [turns_op]; exact ⟨rfl, rfl⟩)
          clear hK K))
  iterate 7
    (refine WQ.step (fun K hK => ?_)
     go_simp
     first
       | (refine hK _ ?_; clear hK K)
       | (apply Exists.intro
          refine ⟨fun x hx => ?_, hK _ ?_⟩
          · first
              | rfl
              | (have hp := (H.out.call (HCf.out _ hx)).st.below; have a0 := (HBA.out.below hp HBA.out.lt).cell 0; have a1 := (HBA.out.below hp HBA.out.lt).cell 1; have b0 := (HBB.out.below hp HBB.out.lt).cell 0; have b1 := (HBB.out.below hp HBB.out.lt).cell 1; go_simp; rfl)
              | (go_at_call 12; refine (HFQ.out _).mono ?_; rintro e x1 ⟨rfl, hb⟩; exact ⟨rfl, HCc.out _ _ hx hb⟩)
              | (rw [turns_op]; exact ⟨rfl, rfl⟩)
          clear hK K))
  refine WQ.nil ?_
  intro w4 hw
  have HBW := Lib.hid (HCf.out _ hw)
  clear hw hC HCc HCf C
  replace H := Lib.hid (H.out.call HBW.out)
  clear HBW HFP HFQ
  go_wp2_with fail
  go_loopw [11] (fun i wr => ∃ n : Nat, n ≤ p.length ∧ i = .int .i64 (n : Int) ∧ Ps2 W wr [] g c g2 c ∧ ∀ j x, j < n → p[j]? = some x → ∀ y ∈ q, x.1 ≠ y.1) (fun i _ => p.length - (intOf i).toNat)
  case atStart => exact ⟨0, by omega, rfl, H.out, fun j x h => by omega⟩
  case round =>
    obtain ⟨n, hn, rfl, hp, hno⟩ := hrel
    have HP := Lib.hid hp
    have HNO := Lib.hid hno
    clear hp hno H
    by_cases hlt : n < p.length
    · obtain ⟨x, hx0⟩ : ∃ x, p[n]? = some x := ⟨_, List.getElem?_eq_getElem hlt⟩
      have HXV := Lib.hid hx0
      obtain ⟨b1, o1, rfl, -, -⟩ := (HEP.out.old2 HP.out).sees.item encE_len (by omega) n x hx0
      have i1 : (n : Int) < (p.length : Int) := by omega
      have i2 : (n : Int) < (c1 : Int) := by omega
      clear hx0
      go_wp2_with fail
      go_loopw [12] (fun i wr => ∃ k : Nat, k ≤ q.length ∧ i = .int .i64 (k : Int) ∧ Ps2 W wr [] g c g2 c ∧ ∀ j y, j < k → q[j]? = some y → x.1 ≠ y.1) (fun i _ => q.length - (intOf i).toNat)
      case atStart => exact ⟨0, by omega, rfl, HP.out, fun j x h => by omega⟩
      case round =>
        obtain ⟨k, hk, rfl, hp, hno⟩ := hrel
        have HPK := Lib.hid hp
        have HNK := Lib.hid hno
        clear hp hno
        by_cases hkl : k < q.length
        · obtain ⟨y, hy0⟩ : ∃ y, q[k]? = some y := ⟨_, List.getElem?_eq_getElem hkl⟩
          have HYV := Lib.hid hy0
          obtain ⟨b2, o2, rfl, -, -⟩ := (HEQ.out.old2 HPK.out).sees.item encE_len (by omega) k y hy0
          have i3 : (k : Int) < (q.length : Int) := by omega
          have i4 : (k : Int) < (c2 : Int) := by omega
          clear hy0
          obtain ⟨C, hC, HCc, HCf⟩ := below_class wr
          go_wp2_with fail
          refine region_in C hC (by kernel_rfl) (by kernel_rfl) ?_
          iterate 11
            (refine WQ.step (fun K hK => ?_)
             go_simp
             first
               | (refine hK _ ?_; clear hK K)
               | (apply Exists.intro
                  refine ⟨fun z hxx => ?_, hK _ ?_⟩
                  · first
                      | rfl
                      | (have hp := HPK.out.call (HCf.out _ hxx); obtain ⟨bb, oo, hA, -, hcc⟩ := (HEP.out.old2 hp).sees.item encE_len (by omega) n x HXV.out; injection hA with hA; injection hA with e1 e2; subst e1 e2; have u0 := hcc 0 _ rfl; rw [Nat.add_zero] at u0; obtain ⟨bb, oo, hA, -, hcc⟩ := (HEQ.out.old2 hp).sees.item encE_len (by omega) k y HYV.out; injection hA with hA; injection hA with e1 e2; subst e1 e2; have v0 := hcc 0 _ rfl; rw [Nat.add_zero] at v0; go_simp; rfl)
                  clear hK K))
          refine WQ.nil ?_
          intro w5 hw
          have HBW := Lib.hid (HCf.out _ hw)
          clear hw hC HCc HCf C
          have HP5 := Lib.hid (HPK.out.call HBW.out)
          by_cases he : x.1 = y.1
          · have j1 : (x.1 == y.1) = true := by simpa using he
            clear he
            go_wp2_with fail
            go_ret
            exact ⟨rfl, HBW0.out.trans (HP5.out.st.below.mono (by have := HBW0.out.size; omega))⟩
          · have j1 : (x.1 == y.1) = false := by simpa using he
            have HN2 : Hid (∀ j z, j < k + 1 → q[j]? = some z → x.1 ≠ z.1) := Lib.hid fun j z hj hz => by
              by_cases hjk : j < k
              · exact HNK.out j z hjk hz
              · have : j = k := by omega
                subst this
                have := HYV.out.symm.trans hz
                injection this with this
                subst this
                exact he
            go_wp2_with fail
            go_roundw
            case rel => exact ⟨k + 1, by omega, by go_num, HP5.out, HN2.out⟩
            case measure => simp [intOf]; omega
        · obtain rfl : k = q.length := by omega
          have HN2 : Hid (∀ j z, j < n + 1 → p[j]? = some z → ∀ y ∈ q, z.1 ≠ y.1) := Lib.hid fun j z hj hz y hy => by
            by_cases hjk : j < n
            · exact HNO.out j z hjk hz y hy
            · have : j = n := by omega
              subst this
              have := HXV.out.symm.trans hz
              injection this with this
              subst this
              obtain ⟨i, hi⟩ := List.mem_iff_getElem?.1 hy
              exact HNK.out i y (List.getElem?_eq_some_iff.1 hi).1 hi
          go_wp2_with fail
          go_roundw
          case rel => exact ⟨n + 1, by omega, by go_num, HPK.out, HN2.out⟩
          case measure => simp [intOf]; omega
    · obtain rfl : n = p.length := by omega
      have hall : ∀ x ∈ p, ∀ y ∈ q, x.1 ≠ y.1 := fun x hx y hy => by
        obtain ⟨i, hi⟩ := List.mem_iff_getElem?.1 hx
        exact HNO.out i x (List.getElem?_eq_some_iff.1 hi).1 hi y hy
      obtain ⟨e1, e2, e3⟩ := puts_turn (s := c) (a := t1) (b := t2) hall
      have HE1 := Lib.hid e1
      have HE2 := Lib.hid e2
      have HE3 := Lib.hid e3
      clear e1 e2 e3 hall HNO
      have HPD := Lib.hid (HP.out.drewN 1)
      have HBA2 := Lib.hid (fun x (h : Below W.heap.size W x) => HBA.out.below h HBA.out.lt)
      have HBB2 := Lib.hid (fun x (h : Below W.heap.size W x) => HBB.out.below h HBB.out.lt)
      go_wp2_with fail
      refine Iv.region (fun f aa y => aa = ⟨#[Value.slice A len cap, Value.agg #[Value.int IntKind.i64 t1, Value.slice A1 p0.length c1], Value.agg #[Value.int IntKind.i64 t2, Value.slice A2 q0.length c2], undef, Value.pointer (some { block := w.heap.size, off := 0 }), Value.pointer (some { block := w.heap.size + 1, off := 0 }), u6, ptr g, ptr g2, Value.slice A1 p.length c1, Value.slice A2 q.length c2, Value.int IntKind.i64 ↑p.length, u12, so (f 10) (.int .i64 (putSE c t1 p)) (undef), so (f 11) (.int .i64 (putSE (putS c t1 p) t2 q)) (undef), undef, undef, undef, undef, undef, undef, undef, undef, Value.slice A len cap, ptr g, Value.slice A len cap, ptr g2, Value.bool true, Value.bool false, Value.bool false, ptr g, Value.bool false, Value.bool false, Value.bool false, ptr g2, Value.bool false, Value.bool false, Value.pointer (some { block := w.heap.size, off := 1 }), Value.slice A1 p0.length c1, Value.agg #[Value.int IntKind.i64 0, Value.int IntKind.i64 0, Value.int IntKind.i64 0, Value.slice A1 p0.length c1], Value.agg #[Value.int IntKind.i64 0, Value.int IntKind.i64 0, Value.int IntKind.i64 0, Value.slice A1 p.length c1], Value.slice A1 p.length c1, Value.pointer (some { block := w.heap.size + 1, off := 1 }), Value.slice A2 q0.length c2, Value.agg #[Value.int IntKind.i64 0, Value.int IntKind.i64 0, Value.int IntKind.i64 0, Value.slice A2 q0.length c2], Value.agg #[Value.int IntKind.i64 0, Value.int IntKind.i64 0, Value.int IntKind.i64 0, Value.slice A2 q.length c2], Value.slice A2 q.length c2, Value.int IntKind.i64 ↑p.length, Value.slice A1 p.length c1, Value.int IntKind.i64 ↑p.length, Value.bool false, u51, u52, u53, u54, u55, u56, u57, u58, u59, u60, u61, u62, u63, u64, u65, u66, u67, u68, u69, so (f 0) (ptr g) (undef), so (f 1) (.pointer (some ⟨w.heap.size, 0, none⟩)) (undef), so (f 2) (.int .i64 t1) (undef), so (f 3) (.slice A1 p.length c1) (undef), so (f 4) (.int .i64 (putSE c t1 p)) (undef), so (f 5) (ptr g) (undef), so (f 6) (.pointer (some ⟨w.heap.size + 1, 0, none⟩)) (undef), so (f 7) (.int .i64 t2) (undef), so (f 8) (.slice A2 q.length c2) (undef), so (f 9) (.int .i64 (putSE (putS c t1 p) t2 q)) (undef), undef, undef, undef, undef, undef, undef, undef, undef, undef, undef, undef, undef, undef, undef, undef, undef, undef, undef, undef, undef, undef, undef, undef, undef, undef, undef, undef, undef, undef, undef, undef, undef, undef, undef, undef, undef, undef, undef, undef, undef, undef, undef, undef, undef, undef, undef, undef, undef, undef, undef, undef, undef, undef, undef], []⟩ ∧ Tw W y [] g c (putS c t1 p) (putS (putS c t1 p) t2 q) g2 c (f 4) (f 9)) (by kernel_rfl) (by kernel_rfl) ?_ ?_ ?_
      · exact ⟨rfl, Tw.start HPD.out⟩
      · refine ⟨?_, ?_, ?_, ?_, ?_, ?_, ?_, ?_, ?_, ?_, ?_, ?_, trivial⟩
        · rintro f a0 y Q' ⟨rfl, hw⟩ hi hd hQ
          replace hQ := Lib.hid hQ
          simp [Iv.depsB, Region.binds] at hd
          try simp only [hi, hd, sl_true, sl_false, so_true, so_false]
          try simp only [hi, sl_true, sl_false, so_true, so_false]
          go_wp2_with fail
          refine hQ.out _ _ ⟨?_, ?_⟩
          · simp [Iv.upd, hi, hd, sl_true, sl_false, so_true, so_false]
          · simpa [Iv.upd, hi, hd] using hw
        · rintro f a0 y Q' ⟨rfl, hw⟩ hi hd hQ
          replace hQ := Lib.hid hQ
          simp [Iv.depsB, Region.binds] at hd
          try simp only [hi, hd, sl_true, sl_false, so_true, so_false]
          try simp only [hi, sl_true, sl_false, so_true, so_false]
          go_wp2_with fail
          refine hQ.out _ _ ⟨?_, ?_⟩
          · simp [Iv.upd, hi, hd, sl_true, sl_false, so_true, so_false]
          · simpa [Iv.upd, hi, hd] using hw
        · rintro f a0 y Q' ⟨rfl, hw⟩ hi hd hQ
          replace hQ := Lib.hid hQ
          simp [Iv.depsB, Region.binds] at hd
          try simp only [hi, hd, sl_true, sl_false, so_true, so_false]
          try simp only [hi, sl_true, sl_false, so_true, so_false]
          have k0 := (HBA2.out y hw.ps.st.below).cell 0
          have kz := (HBA2.out y hw.ps.st.below).lt
          go_wp2_with fail
          refine hQ.out _ _ ⟨?_, ?_⟩
          · simp [Iv.upd, hi, hd, sl_true, sl_false, so_true, so_false]
          · simpa [Iv.upd, hi, hd] using hw
        · rintro f a0 y Q' ⟨rfl, hw⟩ hi hd hQ
          replace hQ := Lib.hid hQ
          simp [Iv.depsB, Region.binds] at hd
          try simp only [hi, hd, sl_true, sl_false, so_true, so_false]
          try simp only [hi, sl_true, sl_false, so_true, so_false]
          go_wp2_with fail
          refine hQ.out _ _ ⟨?_, ?_⟩
          · simp [Iv.upd, hi, hd, sl_true, sl_false, so_true, so_false]
          · simpa [Iv.upd, hi, hd] using hw
        · rintro f a0 y Q' ⟨rfl, hw⟩ hi hd hQ
          replace hQ := Lib.hid hQ
          simp [Iv.depsB, Region.binds] at hd
          try simp only [hi, hd, sl_true, sl_false, so_true, so_false]
          try simp only [hi, sl_true, sl_false, so_true, so_false]
          have ea : f 0 = true := by simp [hd]
          have eb : f 2 = true := by simp [hd]
          have ec : f 3 = true := by simp [hd]
          have hw2 := hw
          rw [hi] at hw2
          obtain ⟨e9, hps⟩ := hw2.first
          try simp only [ea, eb, ec, e9, so_true, so_false]
          clear hw hw2
          go_wp2_with fail
          refine (p2put t1 hps HEP.out).mono ?_
          rintro e y1 ⟨rfl, hn⟩
          have HN := Lib.hid (Tw.one (s0 := c) (s2 := putS (putS c t1 p) t2 q) hn)
          clear hn hps
          go_wp2_with fail
          refine hQ.out _ _ ⟨?_, ?_⟩
          · simp [Iv.upd, hi, hd, sl_true, sl_false, so_true, so_false, e9]
          · simpa [Iv.upd, hi, hd, e9] using HN.out
        · rintro f a0 y Q' ⟨rfl, hw⟩ hi hd hQ
          replace hQ := Lib.hid hQ
          simp [Iv.depsB, Region.binds] at hd
          try simp only [hi, hd, sl_true, sl_false, so_true, so_false]
          try simp only [hi, sl_true, sl_false, so_true, so_false]
          go_wp2_with fail
          refine hQ.out _ _ ⟨?_, ?_⟩
          · simp [Iv.upd, hi, hd, sl_true, sl_false, so_true, so_false]
          · simpa [Iv.upd, hi, hd] using hw
        · rintro f a0 y Q' ⟨rfl, hw⟩ hi hd hQ
          replace hQ := Lib.hid hQ
          simp [Iv.depsB, Region.binds] at hd
          try simp only [hi, hd, sl_true, sl_false, so_true, so_false]
          try simp only [hi, sl_true, sl_false, so_true, so_false]
          go_wp2_with fail
          refine hQ.out _ _ ⟨?_, ?_⟩
          · simp [Iv.upd, hi, hd, sl_true, sl_false, so_true, so_false]
          · simpa [Iv.upd, hi, hd] using hw
        · rintro f a0 y Q' ⟨rfl, hw⟩ hi hd hQ
          replace hQ := Lib.hid hQ
          simp [Iv.depsB, Region.binds] at hd
          try simp only [hi, hd, sl_true, sl_false, so_true, so_false]
          try simp only [hi, sl_true, sl_false, so_true, so_false]
          have k0 := (HBB2.out y hw.ps.st.below).cell 0
          have kz := (HBB2.out y hw.ps.st.below).lt
          go_wp2_with fail
          refine hQ.out _ _ ⟨?_, ?_⟩
          · simp [Iv.upd, hi, hd, sl_true, sl_false, so_true, so_false]
          · simpa [Iv.upd, hi, hd] using hw
        · rintro f a0 y Q' ⟨rfl, hw⟩ hi hd hQ
          replace hQ := Lib.hid hQ
          simp [Iv.depsB, Region.binds] at hd
          try simp only [hi, hd, sl_true, sl_false, so_true, so_false]
          try simp only [hi, sl_true, sl_false, so_true, so_false]
          go_wp2_with fail
          refine hQ.out _ _ ⟨?_, ?_⟩
          · simp [Iv.upd, hi, hd, sl_true, sl_false, so_true, so_false]
          · simpa [Iv.upd, hi, hd] using hw
        · rintro f a0 y Q' ⟨rfl, hw⟩ hi hd hQ
          replace hQ := Lib.hid hQ
          simp [Iv.depsB, Region.binds] at hd
          try simp only [hi, hd, sl_true, sl_false, so_true, so_false]
          try simp only [hi, sl_true, sl_false, so_true, so_false]
          have ea : f 4 = true := by simp [hd]
          have eb : f 5 = true := by simp [hd]
          have ec : f 7 = true := by simp [hd]
          have ed : f 8 = true := by simp [hd]
          have hw2 := hw
          rw [hi, ea] at hw2
          have hps := hw2.second
          try simp only [ea, eb, ec, ed, so_true, so_false]
          clear hw hw2
          go_wp2_with fail
          refine (p2put t2 hps HEQ.out).mono ?_
          rintro e y1 ⟨rfl, hn⟩
          have HN := Lib.hid (Tw.two (s0 := c) (s1 := putS c t1 p) hn)
          clear hn hps
          go_wp2_with fail
          refine hQ.out _ _ ⟨?_, ?_⟩
          · simp [Iv.upd, hi, hd, sl_true, sl_false, so_true, so_false, ea]
          · simpa [Iv.upd, hi, hd, ea] using HN.out
        · rintro f a0 y Q' ⟨rfl, hw⟩ hi hd hQ
          replace hQ := Lib.hid hQ
          simp [Iv.depsB, Region.binds] at hd
          try simp only [hi, hd, sl_true, sl_false, so_true, so_false]
          try simp only [hi, sl_true, sl_false, so_true, so_false]
          go_wp2_with fail
          refine hQ.out _ _ ⟨?_, ?_⟩
          · simp [Iv.upd, hi, hd, sl_true, sl_false, so_true, so_false]
          · simpa [Iv.upd, hi, hd] using hw
        · rintro f a0 y Q' ⟨rfl, hw⟩ hi hd hQ
          replace hQ := Lib.hid hQ
          simp [Iv.depsB, Region.binds] at hd
          try simp only [hi, hd, sl_true, sl_false, so_true, so_false]
          try simp only [hi, sl_true, sl_false, so_true, so_false]
          go_wp2_with fail
          refine hQ.out _ _ ⟨?_, ?_⟩
          · simp [Iv.upd, hi, hd, sl_true, sl_false, so_true, so_false]
          · simpa [Iv.upd, hi, hd] using hw
      · rintro f a0 y ⟨rfl, hw⟩ hall
        simp only [hall 0 (by decide), hall 1 (by decide), hall 2 (by decide), hall 3 (by decide), hall 4 (by decide), hall 5 (by decide), hall 6 (by decide), hall 7 (by decide), hall 8 (by decide), hall 9 (by decide), hall 10 (by decide), hall 11 (by decide), sl_true, ↓reduceIte, so_true, so_false] at hw ⊢
        clear hall
        have HP2 := Lib.hid (hw.fin.swap)
        clear hw HPD
        have HPD := Lib.hid (HP2.out.drewN 1)
        clear HP2
        go_wp2_with fail
        refine Iv.region (fun f aa y => aa = ⟨#[Value.slice A len cap, Value.agg #[Value.int IntKind.i64 t1, Value.slice A1 p0.length c1], Value.agg #[Value.int IntKind.i64 t2, Value.slice A2 q0.length c2], undef, Value.pointer (some { block := w.heap.size, off := 0 }), Value.pointer (some { block := w.heap.size + 1, off := 0 }), u6, ptr g, ptr g2, Value.slice A1 p.length c1, Value.slice A2 q.length c2, Value.int IntKind.i64 ↑p.length, u12, Value.int IntKind.i64 (putSE c t1 p), Value.int IntKind.i64 (putSE (putS c t1 p) t2 q), so (f 10) (.int .i64 (putSE c t2 q)) (undef), so (f 11) (.int .i64 (putSE (putS c t2 q) t1 p)) (undef), undef, undef, undef, undef, undef, undef, Value.slice A len cap, ptr g, Value.slice A len cap, ptr g2, Value.bool true, Value.bool false, Value.bool false, ptr g, Value.bool false, Value.bool false, Value.bool false, ptr g2, Value.bool false, Value.bool false, Value.pointer (some { block := w.heap.size, off := 1 }), Value.slice A1 p0.length c1, Value.agg #[Value.int IntKind.i64 0, Value.int IntKind.i64 0, Value.int IntKind.i64 0, Value.slice A1 p0.length c1], Value.agg #[Value.int IntKind.i64 0, Value.int IntKind.i64 0, Value.int IntKind.i64 0, Value.slice A1 p.length c1], Value.slice A1 p.length c1, Value.pointer (some { block := w.heap.size + 1, off := 1 }), Value.slice A2 q0.length c2, Value.agg #[Value.int IntKind.i64 0, Value.int IntKind.i64 0, Value.int IntKind.i64 0, Value.slice A2 q0.length c2], Value.agg #[Value.int IntKind.i64 0, Value.int IntKind.i64 0, Value.int IntKind.i64 0, Value.slice A2 q.length c2], Value.slice A2 q.length c2, Value.int IntKind.i64 ↑p.length, Value.slice A1 p.length c1, Value.int IntKind.i64 ↑p.length, Value.bool false, u51, u52, u53, u54, u55, u56, u57, u58, u59, u60, u61, u62, u63, u64, u65, u66, u67, u68, u69, ptr g, Value.pointer (some { block := w.heap.size, off := 0 }), Value.int IntKind.i64 t1, Value.slice A1 p.length c1, Value.int IntKind.i64 (putSE c t1 p), ptr g, Value.pointer (some { block := w.heap.size + 1, off := 0 }), Value.int IntKind.i64 t2, Value.slice A2 q.length c2, Value.int IntKind.i64 (putSE (putS c t1 p) t2 q), so (f 0) (ptr g2) (undef), so (f 1) (.pointer (some ⟨w.heap.size + 1, 0, none⟩)) (undef), so (f 2) (.int .i64 t2) (undef), so (f 3) (.slice A2 q.length c2) (undef), so (f 4) (.int .i64 (putSE c t2 q)) (undef), so (f 5) (ptr g2) (undef), so (f 6) (.pointer (some ⟨w.heap.size, 0, none⟩)) (undef), so (f 7) (.int .i64 t1) (undef), so (f 8) (.slice A1 p.length c1) (undef), so (f 9) (.int .i64 (putSE (putS c t2 q) t1 p)) (undef), undef, undef, undef, undef, undef, undef, undef, undef, undef, undef, undef, undef, undef, undef, undef, undef, undef, undef, undef, undef, undef, undef, undef, undef, undef, undef, undef, undef, undef, undef, undef, undef, undef, undef, undef, undef, undef, undef, undef, undef, undef, undef, undef, undef], []⟩ ∧ Tw W y [] g2 c (putS c t2 q) (putS (putS c t2 q) t1 p) g (putS (putS c t1 p) t2 q) (f 4) (f 9)) (by kernel_rfl) (by kernel_rfl) ?_ ?_ ?_
        · exact ⟨rfl, Tw.start HPD.out⟩
        · refine ⟨?_, ?_, ?_, ?_, ?_, ?_, ?_, ?_, ?_, ?_, ?_, ?_, trivial⟩
          · rintro f a0 y Q' ⟨rfl, hw⟩ hi hd hQ
            replace hQ := Lib.hid hQ
            simp [Iv.depsB, Region.binds] at hd
            try simp only [hi, hd, sl_true, sl_false, so_true, so_false]
            try simp only [hi, sl_true, sl_false, so_true, so_false]
            go_wp2_with fail
            refine hQ.out _ _ ⟨?_, ?_⟩
            · simp [Iv.upd, hi, hd, sl_true, sl_false, so_true, so_false]
            · simpa [Iv.upd, hi, hd] using hw
          · rintro f a0 y Q' ⟨rfl, hw⟩ hi hd hQ
            replace hQ := Lib.hid hQ
            simp [Iv.depsB, Region.binds] at hd
            try simp only [hi, hd, sl_true, sl_false, so_true, so_false]
            try simp only [hi, sl_true, sl_false, so_true, so_false]
            go_wp2_with fail
            refine hQ.out _ _ ⟨?_, ?_⟩
            · simp [Iv.upd, hi, hd, sl_true, sl_false, so_true, so_false]
            · simpa [Iv.upd, hi, hd] using hw
          · rintro f a0 y Q' ⟨rfl, hw⟩ hi hd hQ
            replace hQ := Lib.hid hQ
            simp [Iv.depsB, Region.binds] at hd
            try simp only [hi, hd, sl_true, sl_false, so_true, so_false]
            try simp only [hi, sl_true, sl_false, so_true, so_false]
            have k0 := (HBB2.out y hw.ps.st.below).cell 0
            have kz := (HBB2.out y hw.ps.st.below).lt
            go_wp2_with fail
            refine hQ.out _ _ ⟨?_, ?_⟩
            · simp [Iv.upd, hi, hd, sl_true, sl_false, so_true, so_false]
            · simpa [Iv.upd, hi, hd] using hw
          · rintro f a0 y Q' ⟨rfl, hw⟩ hi hd hQ
            replace hQ := Lib.hid hQ
            simp [Iv.depsB, Region.binds] at hd
            try simp only [hi, hd, sl_true, sl_false, so_true, so_false]
            try simp only [hi, sl_true, sl_false, so_true, so_false]
            go_wp2_with fail
            refine hQ.out _ _ ⟨?_, ?_⟩
            · simp [Iv.upd, hi, hd, sl_true, sl_false, so_true, so_false]
            · simpa [Iv.upd, hi, hd] using hw
          · rintro f a0 y Q' ⟨rfl, hw⟩ hi hd hQ
            replace hQ := Lib.hid hQ
            simp [Iv.depsB, Region.binds] at hd
            try simp only [hi, hd, sl_true, sl_false, so_true, so_false]
            try simp only [hi, sl_true, sl_false, so_true, so_false]
            have ea : f 0 = true := by simp [hd]
            have eb : f 2 = true := by simp [hd]
            have ec : f 3 = true := by simp [hd]
            have hw2 := hw
            rw [hi] at hw2
            obtain ⟨e9, hps⟩ := hw2.first
            try simp only [ea, eb, ec, e9, so_true, so_false]
            clear hw hw2
            go_wp2_with fail
            refine (p2put t2 hps HEQ.out).mono ?_
            rintro e y1 ⟨rfl, hn⟩
            have HN := Lib.hid (Tw.one (s0 := c) (s2 := putS (putS c t2 q) t1 p) hn)
            clear hn hps
            go_wp2_with fail
            refine hQ.out _ _ ⟨?_, ?_⟩
            · simp [Iv.upd, hi, hd, sl_true, sl_false, so_true, so_false, e9]
            · simpa [Iv.upd, hi, hd, e9] using HN.out
          · rintro f a0 y Q' ⟨rfl, hw⟩ hi hd hQ
            replace hQ := Lib.hid hQ
            simp [Iv.depsB, Region.binds] at hd
            try simp only [hi, hd, sl_true, sl_false, so_true, so_false]
            try simp only [hi, sl_true, sl_false, so_true, so_false]
            go_wp2_with fail
            refine hQ.out _ _ ⟨?_, ?_⟩
            · simp [Iv.upd, hi, hd, sl_true, sl_false, so_true, so_false]
            · simpa [Iv.upd, hi, hd] using hw
          · rintro f a0 y Q' ⟨rfl, hw⟩ hi hd hQ
            replace hQ := Lib.hid hQ
            simp [Iv.depsB, Region.binds] at hd
            try simp only [hi, hd, sl_true, sl_false, so_true, so_false]
            try simp only [hi, sl_true, sl_false, so_true, so_false]
            go_wp2_with fail
            refine hQ.out _ _ ⟨?_, ?_⟩
            · simp [Iv.upd, hi, hd, sl_true, sl_false, so_true, so_false]
            · simpa [Iv.upd, hi, hd] using hw
          · rintro f a0 y Q' ⟨rfl, hw⟩ hi hd hQ
            replace hQ := Lib.hid hQ
            simp [Iv.depsB, Region.binds] at hd
            try simp only [hi, hd, sl_true, sl_false, so_true, so_false]
            try simp only [hi, sl_true, sl_false, so_true, so_false]
            have k0 := (HBA2.out y hw.ps.st.below).cell 0
            have kz := (HBA2.out y hw.ps.st.below).lt
            go_wp2_with fail
            refine hQ.out _ _ ⟨?_, ?_⟩
            · simp [Iv.upd, hi, hd, sl_true, sl_false, so_true, so_false]
            · simpa [Iv.upd, hi, hd] using hw
          · rintro f a0 y Q' ⟨rfl, hw⟩ hi hd hQ
            replace hQ := Lib.hid hQ
            simp [Iv.depsB, Region.binds] at hd
            try simp only [hi, hd, sl_true, sl_false, so_true, so_false]
            try simp only [hi, sl_true, sl_false, so_true, so_false]
            go_wp2_with fail
            refine hQ.out _ _ ⟨?_, ?_⟩
            · simp [Iv.upd, hi, hd, sl_true, sl_false, so_true, so_false]
            · simpa [Iv.upd, hi, hd] using hw
          · rintro f a0 y Q' ⟨rfl, hw⟩ hi hd hQ
            replace hQ := Lib.hid hQ
            simp [Iv.depsB, Region.binds] at hd
            try simp only [hi, hd, sl_true, sl_false, so_true, so_false]
            try simp only [hi, sl_true, sl_false, so_true, so_false]
            have ea : f 4 = true := by simp [hd]
            have eb : f 5 = true := by simp [hd]
            have ec : f 7 = true := by simp [hd]
            have ed : f 8 = true := by simp [hd]
            have hw2 := hw
            rw [hi, ea] at hw2
            have hps := hw2.second
            try simp only [ea, eb, ec, ed, so_true, so_false]
            clear hw hw2
            go_wp2_with fail
            refine (p2put t1 hps HEP.out).mono ?_
            rintro e y1 ⟨rfl, hn⟩
            have HN := Lib.hid (Tw.two (s0 := c) (s1 := putS c t2 q) hn)
            clear hn hps
            go_wp2_with fail
            refine hQ.out _ _ ⟨?_, ?_⟩
            · simp [Iv.upd, hi, hd, sl_true, sl_false, so_true, so_false, ea]
            · simpa [Iv.upd, hi, hd, ea] using HN.out
          · rintro f a0 y Q' ⟨rfl, hw⟩ hi hd hQ
            replace hQ := Lib.hid hQ
            simp [Iv.depsB, Region.binds] at hd
            try simp only [hi, hd, sl_true, sl_false, so_true, so_false]
            try simp only [hi, sl_true, sl_false, so_true, so_false]
            go_wp2_with fail
            refine hQ.out _ _ ⟨?_, ?_⟩
            · simp [Iv.upd, hi, hd, sl_true, sl_false, so_true, so_false]
            · simpa [Iv.upd, hi, hd] using hw
          · rintro f a0 y Q' ⟨rfl, hw⟩ hi hd hQ
            replace hQ := Lib.hid hQ
            simp [Iv.depsB, Region.binds] at hd
            try simp only [hi, hd, sl_true, sl_false, so_true, so_false]
            try simp only [hi, sl_true, sl_false, so_true, so_false]
            go_wp2_with fail
            refine hQ.out _ _ ⟨?_, ?_⟩
            · simp [Iv.upd, hi, hd, sl_true, sl_false, so_true, so_false]
            · simpa [Iv.upd, hi, hd] using hw
        · rintro f a0 y2 ⟨rfl, hw⟩ hall
          simp only [hall 0 (by decide), hall 1 (by decide), hall 2 (by decide), hall 3 (by decide), hall 4 (by decide), hall 5 (by decide), hall 6 (by decide), hall 7 (by decide), hall 8 (by decide), hall 9 (by decide), hall 10 (by decide), hall 11 (by decide), sl_true, ↓reduceIte, so_true, so_false] at hw ⊢
          clear hall
          have HP2 := hw.fin.swap
          clear hw HPD
          rw [HE3.out] at HP2
          rw [HE1.out, HE2.out]
          replace HP2 := Lib.hid HP2
          clear HE1 HE2 HE3
          generalize putS (putS c t1 p) t2 q = S at *
          generalize putSE c t1 p = X at *
          generalize putSE c t2 q = Y at *
          go_wp2_with fail
          refine (p2close _ HP2.out).mono ?_
          rintro r w6 ⟨rfl, hp⟩
          replace HP2 := Lib.hid hp.swap
          clear hp
          go_wp2_with fail
          refine (p2close _ HP2.out).mono ?_
          rintro r w7 ⟨rfl, hp⟩
          replace HP2 := Lib.hid hp.swap
          clear hp
          generalize closeS S 1125899906842624 = S2 at *
          have k0 := (HBA2.out _ HP2.out.st.below).cell 0
          have k1 := (HBB2.out _ HP2.out.st.below).cell 0
          have kz := (HBA2.out _ HP2.out.st.below).lt
          have kz2 := (HBB2.out _ HP2.out.st.below).lt
          go_wp2_with fail
          replace HP2 := Lib.hid (HP2.out.alloc w7.heap.size rfl 2 #[.int .i64 t1, .int .i64 t2, .int .i64 1125899906842624])
          go_loopw [100] (fun i wr => ∃ n : Nat, n ≤ 3 ∧ i = .int .i64 (n : Int) ∧ Ps2 W wr [(w7.heap.size, 2, #[.int .i64 t1, .int .i64 t2, .int .i64 1125899906842624])] g S2 g2 S2) (fun i _ => 3 - (intOf i).toNat)
          case atStart => exact ⟨0, by omega, rfl, HP2.out⟩
          case round =>
            obtain ⟨n, hn, rfl, hp⟩ := hrel
            have HP := Lib.hid hp
            clear hp
            by_cases hlt : n < 3
            · obtain ⟨u, hu⟩ : ∃ u : Int, (#[.int .i64 t1, .int .i64 t2, .int .i64 1125899906842624] : Array Value)[n]? = some (.int .i64 u) := by
                have : n = 0 ∨ n = 1 ∨ n = 2 := by omega
                rcases this with rfl | rfl | rfl <;> exact ⟨_, rfl⟩
              have hk := HP.out.st.knows.at 0 rfl
              have q0 := hk.cell n
              have qz := hk.lt
              rw [hu] at q0
              have i1 : (n : Int) < 3 := by omega
              clear hk hu
              have HS1 := Lib.hid (p2snap u HP.out)
              have hn3 : (snapS S2 u).length ≤ 8192 := by
                unfold snapS
                split
                · exact snap_len S2 u
                · simp
              have HS2 := Lib.hid (fun w0 (h : Ps2 W w0 [(w7.heap.size, 2, #[.int .i64 t1, .int .i64 t2, .int .i64 1125899906842624])] g S2 g2 S2) => p2snap u h.swap)
              generalize tellsE S2 u = T at *
              generalize snapS S2 u = Z at *
              go_wp2_with fail
              refine HS1.out.mono ?_
              rintro r w8 ⟨A8, cap8, rfl, hb8, ho8⟩
              have HP8 := Lib.hid (HP.out.call hb8)
              have HV8 := Lib.hid (Sees.own ho8)
              have hroom8 : Z.length ≤ cap8 := by
                obtain ⟨_, _, e, h, _⟩ := own_slice0 ho8
                injection e with _ _ e
                omega
              clear hb8 ho8 q0 qz
              go_wp2_with fail
              refine (HS2.out _ HP8.out).mono ?_
              rintro r w9 ⟨A9, cap9, rfl, hb9, ho9⟩
              have HP9 := Lib.hid (HP8.out.call hb9)
              have HV9 := Lib.hid (Sees.own ho9)
              have hroom9 : Z.length ≤ cap9 := by
                obtain ⟨_, _, e, h, _⟩ := own_slice0 ho9
                injection e with _ _ e
                omega
              replace HV8 := Lib.hid ((HV8.out.below hb9).more hb9.size)
              clear hb9 ho9
              go_wp2_with fail
              refine (rsame_any A8 cap8 A9 cap9 Z w9 HV8.out HV9.out hroom8 hroom9 (by omega)).mono ?_
              rintro r w10 ⟨rfl, hb⟩
              have HP10 := Lib.hid (HP9.out.call hb)
              clear hb
              go_wp2_with fail
              go_roundw
              case rel => exact ⟨n + 1, by omega, by go_num, HP10.out⟩
              case measure => simp [intOf]; omega
            · obtain rfl : n = 3 := by omega
              go_wp2_with fail
              go_ret
              exact ⟨rfl, HBW0.out.trans (HP.out.st.below.mono (by have := HBW0.out.size; omega))⟩

set_option maxRecDepth 100000 in
theorem lifted (os : Os) (started : os.Started) (H : Type) (enc : TypeId × Value → H) :
    ReturnsInHanded {} Try.checked os 8 .any (Rows.storeTurnsSpec.pre6 enc Try.prog Try.f8 Rows.storeTurnsRow.domain false) (Rows.storeTurnsSpec.post enc Try.prog Try.f8 false true false false) := by
  refine returnsInHanded_of_change (C := Try.checked) own started (by kernel_rfl) Try.func8
    (ChangeSpec.witness6 (enc := enc) (C := Try.checked) false ⟨#[], #[.slice none 0 0, .agg #[.int .i64 0, .slice none 0 0], .agg #[.int .i64 0, .slice none 0 0]], []⟩ 8 (by kernel_rfl) (by kernel_rfl) (by kernel_rfl) (by kernel_rfl)) ?_
  intro W base args ds gs before hval0 hW hcnd _
  have hval : ∀ (j : Nat) t v, Try.f8.params[j]? = some t → args[j]? = some v → Value.okWide Try.prog W .any base t v := hval0
  have hW' := hW
  obtain ⟨p, q, hA0, hV, rfl, hfz, hnd⟩ := hW
  have hA : DataW.TrodAll enc Try.prog W 0 (fun _ => true) true Try.f8.params.toList args.toList ds p := hA0
  rw [Try.params8] at hA hval
  obtain ⟨v0, vs0, d0, ds0, p0, q0, hargs, rfl, rfl, h0, r0⟩ := trodAll_cons hA
  obtain ⟨v1, vs1, d1, ds1, p1, q1, rfl, rfl, rfl, h1, r1⟩ := trodAll_cons r0
  obtain ⟨v2, vs2, d2, ds2, p2, q2, rfl, rfl, rfl, h2, r2⟩ := trodAll_cons r1
  obtain ⟨rfl, rfl, rfl⟩ := trodAll_nil r2
  obtain rfl : args = #[v0, v1, v2] := by cases args; simp_all
  obtain ⟨rfl, rfl⟩ := trodVars_none hV
  obtain ⟨A0, len0, cap0, rfl⟩ := okWide_slice Try.underlying22 (hval 0 22 v0 rfl rfl)
  obtain ⟨l0, w0⟩ := open_ops h0
  have lt0 : ∀ x ∈ p0, x.block < W.heap.size := by obtain ⟨m, hm⟩ := h0; exact DataW.trod_lt m _ _ _ hm
  obtain ⟨t1, A1, c1, l1, rfl, w1⟩ := open_stamped (hval 1 52 v1 rfl rfl) h1
  have lt1 : ∀ x ∈ p1, x.block < W.heap.size := by obtain ⟨m, hm⟩ := h1; exact DataW.trod_lt m _ _ _ hm
  obtain ⟨t2, A2, c2, l2, rfl, w2⟩ := open_stamped (hval 2 52 v2 rfl rfl) h2
  have lt2 : ∀ x ∈ p2, x.block < W.heap.size := by obtain ⟨m, hm⟩ := h2; exact DataW.trod_lt m _ _ _ hm
  clear hA0 hval0
  simp only [List.append_nil] at hW'
  refine (walk A0 len0 cap0 l0 t1 A1 c1 l1 t2 A2 c2 l2 W w0 w1 w2).mono fun e W' ⟨he, bel⟩ => ?_
  subst he
  exact ⟨_, rfl, _, _, _, [], _, [], hW', trodAll_mk1 (shut_bool Try.underlying4 _), (trodAll_cons_mk (Below.trod laidOut (by kernel_rfl) (of_decide_eq_true (by kernel_rfl)) h0 bel lt0) (trodAll_cons_mk (Below.trod laidOut (by kernel_rfl) (of_decide_eq_true (by kernel_rfl)) h1 bel lt1) (trodAll_cons_mk (Below.trod laidOut (by kernel_rfl) (of_decide_eq_true (by kernel_rfl)) h2 bel lt2) trodAll_mk0))), rfl, bel.frame _, fun h => by cases h⟩

theorem proved : Rows.StoreTurnsSaid :=
  OpenClaim.holds_of_wide 8 Try.f8 rfl rfl rfl rfl rfl rfl rfl ⟨rfl, rfl, rfl, rfl, rfl⟩ rfl rfl rfl rfl rfl (by kernel_rfl) Try.func8 (by kernel_rfl)
    (of_decide_eq_true (by kernel_rfl)) (by unfold Func.isWrapper; first | (rw [if_pos (by decide +kernel)]; kernel_rfl) | (rw [if_neg (by decide +kernel)]; exact ⟨rfl, rfl⟩))
    (fun os started H enc _ => lifted os started H enc)
#print axioms proved
end Go.Proofs.Yteneofbenfebgaa.storeTurns
