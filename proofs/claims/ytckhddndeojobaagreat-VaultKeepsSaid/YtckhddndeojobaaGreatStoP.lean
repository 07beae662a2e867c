/- Contracts at layer 12, of the program's calls that change a store: why, add, Put, Close, prune, Prune. (Written by gstop.py.) -/
import Derived.Test.YtckhddndeojobaaGreatStoK
namespace Go.Proofs.YtckhddndeojobaaGreat
open Go.RowKit Go.Cn Go.So
set_option linter.unusedVariables false
set_option linter.unusedSimpArgs false
set_option maxRecDepth 100000

/-- The worlds behind one in which nothing old has changed, as a class of which nothing else is told. -/
theorem below_class (w : World) : ∃ C : World → Prop, C w.drew ∧ Hid (∀ a b, C a → Below a.heap.size a b → C b) ∧ Hid (∀ a, C a → Below w.heap.size w a) :=
  ⟨fun a => Below w.heap.size w a, drew_below w 1, Lib.hid fun a b ha hb => ha.trans (hb.mono ha.size), Lib.hid fun a ha => ha⟩

/-! ### Whether a key stands ahead -/
theorem why1_any (p : Nat) (key : Int) (e : En) (w : World) (hp : Whole w p 3 #[.int .i64 key]) :
    Calls Tryz.prog 79 #[.agg #[.int .i64 e.1, .int .i64 e.2], ptr p] w fun r w' => r = .returned (.bool (e.1 == key)) ∧ Below w.heap.size w w' := by
  have p0 := hp.cell 0
  have pz := hp.lt
  simp only [List.getElem?_toArray, List.getElem?_cons_zero] at p0
  clear hp
  go_enter Tryz.func79, Tryz.ntmps79
  go_wp2_with fail
  go_ret
  exact ⟨rfl, (Below.refl _ _).alloc (Nat.le_refl _) _⟩
set_option maxHeartbeats 1000000 in
theorem sindex_any (B : Nat) (A : Option Addr) (cap : Nat) (l : List En) (p : Nat) (key : Int) (w : World) (hs : Sees w B 2 A l.length (flat encE l)) (hB : B ≤ w.heap.size) (hp : Whole w p 3 #[.int .i64 key]) (hl : l.length ≤ 1000000) :
    Calls Tryz.prog 108 #[.slice A l.length cap, .func (.func 79) #[] #[ptr p]] w fun r w' => ∃ z : Int, r = .returned (.int .i64 z) ∧ decide (0 ≤ z) = (l.any fun e => e.1 == key) ∧ Below w.heap.size w w' := by
  have HS := Lib.hid hs
  have HP := Lib.hid hp
  clear hs hp
  go_enter Tryz.func108, Tryz.ntmps108
  go_wp2_with fail
  go_loopw [8] (fun i wr => ∃ k : Nat, k ≤ l.length ∧ i = .int .i64 (k : Int) ∧ Below w.heap.size w wr ∧ ∀ j e, j < k → l[j]? = some e → (e.1 == key) = false) (fun i _ => l.length - (intOf i).toNat)
  case atStart => exact ⟨0, by omega, rfl, Below.refl _ _, fun j e h => by omega⟩
  case round =>
    obtain ⟨k, hk, rfl, hb, hno⟩ := hrel
    have HB := Lib.hid hb
    have HNO := Lib.hid hno
    clear hb hno
    by_cases hlt : k < l.length
    · obtain ⟨v, hv⟩ : ∃ v, l[k]? = some v := ⟨_, List.getElem?_eq_getElem hlt⟩
      obtain ⟨b0, off, rfl, hb0, hcell⟩ := (HS.out.below (HB.out.mono hB)).item encE_len (by omega) k v hv
      have q0 := hcell 0 _ rfl
      have q1 := hcell 1 _ rfl
      rw [Nat.add_zero] at q0
      have HC := Lib.hid (why1_any p key v wr (HP.out.below HB.out HP.out.lt))
      have HV := Lib.hid hv
      have i1 : (k : Int) < (l.length : Int) := by omega
      clear hv hcell
      cases hkey : v.1 == key with
      | true =>
        rw [hkey] at HC
        have HA := Lib.hid hkey
        clear hkey
        go_wp2_with fail
        refine HC.out.mono ?_
        rintro r w1 ⟨rfl, hb1⟩
        have HB1 := Lib.hid (HB.out.trans (hb1.mono HB.out.size))
        clear hb1
        go_wp2_with fail
        go_ret
        refine ⟨_, rfl, ?_, HB1.out⟩
        rw [List.any_eq_true.2 ⟨v, List.mem_of_getElem? HV.out, HA.out⟩]
        simp
      | false =>
        rw [hkey] at HC
        have HA := Lib.hid hkey
        clear hkey
        go_wp2_with fail
        refine HC.out.mono ?_
        rintro r w1 ⟨rfl, hb1⟩
        have HB1 := Lib.hid (HB.out.trans (hb1.mono HB.out.size))
        clear hb1
        go_wp2_with fail
        go_roundw
        case rel =>
          refine ⟨k + 1, by omega, by go_num, HB1.out, fun j e hj he => ?_⟩
          by_cases hjk : j < k
          · exact HNO.out j e hjk he
          · have : j = k := by omega
            subst this
            have := HV.out.symm.trans he
            injection this with this
            subst this
            exact HA.out
        case measure => simp [intOf]; omega
    · obtain rfl : k = l.length := by omega
      go_wp2_with fail
      go_ret
      refine ⟨_, rfl, ?_, HB.out⟩
      have : (l.any fun e => e.1 == key) = false := by
        rw [List.any_eq_false]
        intro e he
        obtain ⟨j, hj⟩ := List.mem_iff_getElem?.1 he
        rw [HNO.out j e (List.getElem?_eq_some_iff.1 hj).1 hj]
        simp
      rw [this]
      simp
theorem scontains_any (B : Nat) (A : Option Addr) (cap : Nat) (l : List En) (p : Nat) (key : Int) (w : World) (hs : Sees w B 2 A l.length (flat encE l)) (hB : B ≤ w.heap.size) (hp : Whole w p 3 #[.int .i64 key]) (hl : l.length ≤ 1000000) :
    Calls Tryz.prog 78 #[.slice A l.length cap, .func (.func 79) #[] #[ptr p]] w fun r w' => r = .returned (.bool (l.any fun e => e.1 == key)) ∧ Below w.heap.size w w' := by
  have HI := Lib.hid (sindex_any B A cap l p key w hs hB hp hl)
  clear hs hp
  generalize (l.any fun e => e.1 == key) = b at *
  go_enter Tryz.func78, Tryz.ntmps78
  go_wp2_with fail
  refine HI.out.mono ?_
  rintro r w1 ⟨z, rfl, hz, hb⟩
  have HB := Lib.hid hb
  clear hb
  cases b with
  | true =>
    have h0 : 0 ≤ z := by simpa using hz
    clear hz
    go_wp2_with fail
    go_ret
    exact ⟨by first | rfl | (simp [*]; try omega), HB.out⟩
  | false =>
    have h0 : z < 0 := by simpa using hz
    clear hz
    go_wp2_with fail
    go_ret
    exact ⟨by first | rfl | (simp [*]; try omega), HB.out⟩
section
variable {g mb : Nat} {s : Sto} {rb : Int → Nat} {K : Int → Nat → Prop} {F : Nat → Prop}
set_option maxHeartbeats 4000000 in
theorem swhy_any (t k : Int) (hk64 : W64 k) (B : Nat) (A : Option Addr) (cap : Nat) (l : List En) (w : World) (x : Sx w g mb s rb K F) (hs : Sees w B 2 A l.length (flat encE l)) (hB : B ≤ w.heap.size) (hl : l.length ≤ 1000000) :
    Calls Tryz.prog 60 #[ptr g, .int .i64 t, .int .i64 k, .slice A l.length cap] w fun r w' => r = .returned (.int .i64 (whyE s t k l)) ∧ Below w.heap.size w w' := by
  have HB0 := Lib.hid ((Below.refl w.heap.size w).alloc (Nat.le_refl _) (.cells #[.int .i64 k] 3))
  have HX := Lib.hid (x.call HB0.out)
  have HP : Hid (Whole (w.alloc (.cells #[.int .i64 k] 3)) w.heap.size 3 #[.int .i64 k]) := Lib.hid (Whole.fresh w 3 #[.int .i64 k])
  have HK := Lib.hid (fun w0 => skey_any k w0)
  have HC := Lib.hid (scontains_any B A cap l w.heap.size k _ (hs.alloc hB _) (by simp; omega) HP.out hl)
  have p0 := HP.out.cell 0
  have pz := HP.out.lt
  simp only [List.getElem?_toArray, List.getElem?_cons_zero] at p0
  clear x hs
  rcases why_cases s t k l with ⟨h1, h2⟩ | ⟨h1, h3, h2⟩ | ⟨h1, h3, h4, h2⟩ | ⟨h1, h3, c, h4, h5⟩ <;> rw [h1] at HK
  · rw [h2]
    clear h1 h2
    go_enter Tryz.func60, Tryz.ntmps60
    go_wp2_with fail
    refine (HK.out _).mono ?_
    rintro r w1 ⟨rfl, e1⟩
    subst w1
    go_wp2_with fail
    go_ret
    exact ⟨rfl, HB0.out⟩
  · rw [h2]
    rw [h3] at HC
    clear h1 h2 h3
    go_enter Tryz.func60, Tryz.ntmps60
    go_wp2_with fail
    refine (HK.out _).mono ?_
    rintro r w1 ⟨rfl, e1⟩
    subst w1
    go_wp2_with fail
    refine HC.out.mono ?_
    rintro r w1 ⟨rfl, hb1⟩
    have HB1 := Lib.hid (HB0.out.trans (hb1.mono HB0.out.size))
    clear hb1
    go_wp2_with fail
    go_ret
    exact ⟨rfl, HB1.out⟩
  · rw [h2]
    rw [h3] at HC
    have H4 := Lib.hid h4
    clear h1 h2 h3 h4
    go_enter Tryz.func60, Tryz.ntmps60
    go_wp2_with fail
    refine (HK.out _).mono ?_
    rintro r w1 ⟨rfl, e1⟩
    subst w1
    go_wp2_with fail
    refine HC.out.mono ?_
    rintro r w1 ⟨rfl, hb1⟩
    have HB1 := Lib.hid (HB0.out.trans (hb1.mono HB0.out.size))
    have HX2 := Lib.hid (HX.out.call hb1)
    have HP2 := Lib.hid (HP.out.below hb1 HP.out.lt)
    clear hb1 HX HP p0 pz HC HK
    obtain ⟨C, hC, HCc, HCf⟩ := below_class w1
    go_wp2_with fail
    refine region_in C hC (by kernel_rfl) (by kernel_rfl) ?_
    iterate 11
      (refine WQ.step (fun K hK => ?_)
       go_simp
       first
         | (refine hK _ ?_; clear hK K)
         | (apply Exists.intro
            refine ⟨fun x hx => ?_, hK _ ?_⟩
            · first
                | rfl
                | (have HZ := HX2.out.call (HCf.out _ hx); obtain ⟨k0, k1, k2, kz⟩ := HZ.cells; have hl := HZ.lookN H4.out hk64; have q0 := (HP2.out.below (HCf.out _ hx) HP2.out.lt).cell 0; go_simp; rfl)
            clear hK K))
    refine WQ.nil ?_
    intro w2 hw
    have HBW := Lib.hid (HCf.out _ hw)
    clear hw hC HCc HCf C
    go_wp2_with fail
    go_ret
    exact ⟨rfl, HB1.out.trans (HBW.out.mono HB1.out.size)⟩
  · rw [h3] at HC
    have H4 := Lib.hid h4
    have HF := Lib.hid (HX.out.fine.ok k c h4)
    have hfew := HF.out.few
    have HL := Lib.hid (fun w0 cb A cap hr => clast_any cb A cap c w0 hr)
    generalize lastV c.l = v at *
    clear h1 h3 h4
    rcases h5 with ⟨h5, h2⟩ | ⟨h5, h6, h2⟩ | ⟨h5, h6, h2⟩ <;> rw [h2] <;> clear h2
    · skip
      go_enter Tryz.func60, Tryz.ntmps60
      go_wp2_with fail
      refine (HK.out _).mono ?_
      rintro r w1 ⟨rfl, e1⟩
      subst w1
      go_wp2_with fail
      refine HC.out.mono ?_
      rintro r w1 ⟨rfl, hb1⟩
      have HB1 := Lib.hid (HB0.out.trans (hb1.mono HB0.out.size))
      have HX2 := Lib.hid (HX.out.call hb1)
      have HP2 := Lib.hid (HP.out.below hb1 HP.out.lt)
      clear hb1 HX HP p0 pz HC HK
      obtain ⟨C, hC, HCc, HCf⟩ := below_class w1
      go_wp2_with fail
      refine region_in C hC (by kernel_rfl) (by kernel_rfl) ?_
      iterate 11
        (refine WQ.step (fun K hK => ?_)
         go_simp
         first
           | (refine hK _ ?_; clear hK K)
           | (apply Exists.intro
              refine ⟨fun x hx => ?_, hK _ ?_⟩
              · first
                  | rfl
                  | (have HZ := HX2.out.call (HCf.out _ hx); obtain ⟨k0, k1, k2, kz⟩ := HZ.cells; have hl := (HZ.lookS H4.out).1; have q0 := (HP2.out.below (HCf.out _ hx) HP2.out.lt).cell 0; go_simp; rfl)
              clear hK K))
      refine WQ.nil ?_
      intro w2 hw
      have HBW := Lib.hid (HCf.out _ hw)
      clear hw hC HCc HCf C
      have HX3 := Lib.hid (HX2.out.call HBW.out)
      have HB2 := Lib.hid (HB1.out.trans (HBW.out.mono HB1.out.size))
      obtain ⟨cb, A9, cap9, q0, q1, qz, hr⟩ := HX3.out.row H4.out
      have HL2 := Lib.hid (HL.out _ _ _ _ hr)
      clear hr HX2 HBW HB1 HP2 HL
      go_wp2_with fail
      refine HL2.out.mono ?_
      rintro r w3 ⟨rfl, hb3⟩
      have HB3 := Lib.hid ((HB2.out.trans (hb3.mono HB2.out.size)).alloc (Nat.le_trans HB2.out.size hb3.size) (.cells #[.int .i64 v.1, .int .i64 v.2] 81))
      have HX4 := (HX3.out.call hb3).alloc (.cells #[.int .i64 v.1, .int .i64 v.2] 81)
      clear q0 q1 qz
      obtain ⟨cb', A8, cap8, q0, q1, qz, -⟩ := HX4.row H4.out
      clear hb3 HX4
      go_wp2_with fail
      go_ret
      exact ⟨rfl, HB3.out⟩
    · skip
      have h7 : ¬ t ≤ v.1 := by omega
      go_enter Tryz.func60, Tryz.ntmps60
      go_wp2_with fail
      refine (HK.out _).mono ?_
      rintro r w1 ⟨rfl, e1⟩
      subst w1
      go_wp2_with fail
      refine HC.out.mono ?_
      rintro r w1 ⟨rfl, hb1⟩
      have HB1 := Lib.hid (HB0.out.trans (hb1.mono HB0.out.size))
      have HX2 := Lib.hid (HX.out.call hb1)
      have HP2 := Lib.hid (HP.out.below hb1 HP.out.lt)
      clear hb1 HX HP p0 pz HC HK
      obtain ⟨C, hC, HCc, HCf⟩ := below_class w1
      go_wp2_with fail
      refine region_in C hC (by kernel_rfl) (by kernel_rfl) ?_
      iterate 11
        (refine WQ.step (fun K hK => ?_)
         go_simp
         first
           | (refine hK _ ?_; clear hK K)
           | (apply Exists.intro
              refine ⟨fun x hx => ?_, hK _ ?_⟩
              · first
                  | rfl
                  | (have HZ := HX2.out.call (HCf.out _ hx); obtain ⟨k0, k1, k2, kz⟩ := HZ.cells; have hl := (HZ.lookS H4.out).1; have q0 := (HP2.out.below (HCf.out _ hx) HP2.out.lt).cell 0; go_simp; rfl)
              clear hK K))
      refine WQ.nil ?_
      intro w2 hw
      have HBW := Lib.hid (HCf.out _ hw)
      clear hw hC HCc HCf C
      have HX3 := Lib.hid (HX2.out.call HBW.out)
      have HB2 := Lib.hid (HB1.out.trans (HBW.out.mono HB1.out.size))
      obtain ⟨cb, A9, cap9, q0, q1, qz, hr⟩ := HX3.out.row H4.out
      have HL2 := Lib.hid (HL.out _ _ _ _ hr)
      clear hr HX2 HBW HB1 HP2 HL
      go_wp2_with fail
      refine HL2.out.mono ?_
      rintro r w3 ⟨rfl, hb3⟩
      have HB3 := Lib.hid ((HB2.out.trans (hb3.mono HB2.out.size)).alloc (Nat.le_trans HB2.out.size hb3.size) (.cells #[.int .i64 v.1, .int .i64 v.2] 81))
      have HX4 := (HX3.out.call hb3).alloc (.cells #[.int .i64 v.1, .int .i64 v.2] 81)
      clear q0 q1 qz
      obtain ⟨cb', A8, cap8, q0, q1, qz, -⟩ := HX4.row H4.out
      clear hb3 HX4
      rw [h6] at q1
      go_wp2_with fail
      go_ret
      exact ⟨rfl, HB3.out⟩
    · skip
      have h7 : ¬ t ≤ v.1 := by omega
      have h8 : ((c.l.length : Int) == 10000) = false := by simp; omega
      go_enter Tryz.func60, Tryz.ntmps60
      go_wp2_with fail
      refine (HK.out _).mono ?_
      rintro r w1 ⟨rfl, e1⟩
      subst w1
      go_wp2_with fail
      refine HC.out.mono ?_
      rintro r w1 ⟨rfl, hb1⟩
      have HB1 := Lib.hid (HB0.out.trans (hb1.mono HB0.out.size))
      have HX2 := Lib.hid (HX.out.call hb1)
      have HP2 := Lib.hid (HP.out.below hb1 HP.out.lt)
      clear hb1 HX HP p0 pz HC HK
      obtain ⟨C, hC, HCc, HCf⟩ := below_class w1
      go_wp2_with fail
      refine region_in C hC (by kernel_rfl) (by kernel_rfl) ?_
      iterate 11
        (refine WQ.step (fun K hK => ?_)
         go_simp
         first
           | (refine hK _ ?_; clear hK K)
           | (apply Exists.intro
              refine ⟨fun x hx => ?_, hK _ ?_⟩
              · first
                  | rfl
                  | (have HZ := HX2.out.call (HCf.out _ hx); obtain ⟨k0, k1, k2, kz⟩ := HZ.cells; have hl := (HZ.lookS H4.out).1; have q0 := (HP2.out.below (HCf.out _ hx) HP2.out.lt).cell 0; go_simp; rfl)
              clear hK K))
      refine WQ.nil ?_
      intro w2 hw
      have HBW := Lib.hid (HCf.out _ hw)
      clear hw hC HCc HCf C
      have HX3 := Lib.hid (HX2.out.call HBW.out)
      have HB2 := Lib.hid (HB1.out.trans (HBW.out.mono HB1.out.size))
      obtain ⟨cb, A9, cap9, q0, q1, qz, hr⟩ := HX3.out.row H4.out
      have HL2 := Lib.hid (HL.out _ _ _ _ hr)
      clear hr HX2 HBW HB1 HP2 HL
      go_wp2_with fail
      refine HL2.out.mono ?_
      rintro r w3 ⟨rfl, hb3⟩
      have HB3 := Lib.hid ((HB2.out.trans (hb3.mono HB2.out.size)).alloc (Nat.le_trans HB2.out.size hb3.size) (.cells #[.int .i64 v.1, .int .i64 v.2] 81))
      have HX4 := (HX3.out.call hb3).alloc (.cells #[.int .i64 v.1, .int .i64 v.2] 81)
      clear q0 q1 qz
      obtain ⟨cb', A8, cap8, q0, q1, qz, -⟩ := HX4.row H4.out
      clear hb3 HX4
      go_wp2_with fail
      go_ret
      exact ⟨rfl, HB3.out⟩
theorem WentS.step {w w1 w' : World} {g : Nat} {s' : Sto} {F F1 : Nat → Prop} (ho : Off F w w1) (hF : ∀ b, F1 b → F b ∨ w.heap.size ≤ b) (hn : WentS F1 w1 w' g s') : WentS F w w' g s' := by
  obtain ⟨ho2, F2, hF2, hd2⟩ := hn
  refine ⟨ho.then hF ho2, F2, fun b hb => ?_, hd2⟩
  rcases hF2 b hb with h | h
  · exact hF b h
  · exact .inr (Nat.le_trans ho.size h)
/-- A row whose chain has become another, and whose number was set then. -/
theorem Ux.went {w w2 w3 : World} {r cb : Nat} {z u : Value} {c' : Cs} {Fc Kf : Nat → Prop} (hrow : Whole w r 105 #[ptr cb, z]) (hnf : ¬ Fc r) (hKf : ∀ b, Kf b ↔ (b = r ∨ Fc b)) (hm : WentC Fc w w2 cb c') (hb : Below w2.heap.size w2 w3) (hu : u = .int .i64 (c'.l.length : Int)) :
    ∃ K', Ux (w3.setCell ⟨r, 1, none⟩ u) r c' K' ∧ Off Kf w (w3.setCell ⟨r, 1, none⟩ u) ∧ ∀ b, K' b → Kf b ∨ w.heap.size ≤ b := by
  subst hu
  obtain ⟨ho, F', hF', hd⟩ := hm
  have hr3 : Whole w3 r 105 #[ptr cb, z] := (ho.whole hrow hnf).below hb (ho.whole hrow hnf).lt
  have hnr : ¬ F' r := fun h => by
    rcases hF' r h with h | h
    · exact hnf h
    · have := hrow.lt; omega
  have hset : Off (fun b => b = r) w3 (w3.setCell ⟨r, 1, none⟩ (.int .i64 (c'.l.length : Int))) := (Off.refl (fun b => b = r) w3).set (p := ⟨r, 1, none⟩) (.inl rfl) _
  refine ⟨fun b => b = r ∨ F' b, ⟨cb, F', by simpa using hr3.set 1 (.int .i64 (c'.l.length : Int)), (hd.call hb).off hset fun b hb e => hnr (e ▸ hb), hnr, fun b => Iff.rfl⟩, ?_, fun b hb => ?_⟩
  · have h1 : Off Kf w w2 := ⟨ho.os, ho.tape, ho.output, ho.size, fun i hi hg => ho.block i hi fun h => hg ((hKf i).2 (.inr h))⟩
    exact (h1.call hb).set (p := ⟨r, 1, none⟩) (.inl ((hKf r).2 (.inl rfl))) _
  · rcases hb with h | h
    · exact .inl ((hKf b).2 (.inl h))
    · rcases hF' b h with h | h
      · exact .inl ((hKf b).2 (.inr h))
      · exact .inr h
theorem add_ch (s : Sto) (t k v : Int) : (addS s t (k, v)).ch k = some (put ((s.ch k).getD ⟨[], 0⟩) t v) ∧ ∀ j, j ≠ k → (addS s t (k, v)).ch j = s.ch j := by
  unfold addS
  exact ⟨by simp, fun j hj => by simp [hj]⟩
set_option maxHeartbeats 4000000 in
theorem sadd_any (t k v : Int) (hc : So.Can s t k) (ht : 1 ≤ t ∧ t ≤ 1125899906842624) (hcl : s.closed < t) (w : World) (x : Sx w g mb s rb K F) :
    Calls Tryz.prog 61 #[ptr g, .int .i64 t, .agg #[.int .i64 k, .int .i64 v]] w fun r w' => r = .returned (.tuple #[]) ∧ WentS F w w' g (addS s t (k, v)) := by
  have HX0 := Lib.hid x
  have HFN := Lib.hid (x.fine.add (e := (k, v)) hc ht hcl)
  obtain ⟨hp1, hp2⟩ := hc.put x.fine ht hcl v
  obtain ⟨ha1, ha2⟩ := add_ch s t k v
  have HA1 := Lib.hid ha1
  have HA2 := Lib.hid ha2
  have HP1 := Lib.hid hp1
  have HP2 := Lib.hid hp2
  have hk64 : W64 k := by have := hc.key; unfold W64; omega
  have HB0 := Lib.hid ((Below.refl w.heap.size w).alloc (Nat.le_refl _) (.cells #[.int .i64 k, .int .i64 v] 62))
  have HX2 := Lib.hid (x.call HB0.out)
  have HBX : Hid (Whole (w.alloc (.cells #[.int .i64 k, .int .i64 v] 62)) w.heap.size 62 #[.int .i64 k, .int .i64 v]) := Lib.hid (Whole.fresh w 62 #[.int .i64 k, .int .i64 v])
  have hmb0 := x.map.lt
  have hmbg := x.mg
  cases hch : s.ch k with
  | none =>
    have H4 := Lib.hid hch
    rw [hch] at ha1 hp1 hp2
    simp only [Option.getD_none] at hp1 hp2
    have HP1 := Lib.hid hp1
    have HP2 := Lib.hid hp2
    have HA1 := Lib.hid ha1
    simp only [Option.getD_none] at HA1
    clear x hc ha1 ha2 hp1 hp2 hch
    go_enter Tryz.func61, Tryz.ntmps61
    obtain ⟨C, hC, HCc, HCf⟩ := below_class (w.alloc (.cells #[.int .i64 k, .int .i64 v] 62))
    go_wp2_with fail
    refine region_in C hC (by kernel_rfl) (by kernel_rfl) ?_
    iterate 12
      (refine WQ.step (fun K hK => ?_)
       go_simp
       first
         | (refine hK _ ?_; clear hK K)
         | (apply Exists.intro
            refine ⟨fun x hx => ?_, hK _ ?_⟩
            · first
                | rfl
                | (have HZ := HX2.out.call (HCf.out _ hx); obtain ⟨k0, k1, k2, kz⟩ := HZ.cells; have hl := HZ.lookN H4.out hk64; have q0 := (HBX.out.below (HCf.out _ hx) HBX.out.lt).cell 0; have q1 := (HBX.out.below (HCf.out _ hx) HBX.out.lt).cell 1; go_simp; rfl)
            clear hK K))
    refine WQ.nil ?_
    intro w2 hw
    have HBW := Lib.hid (HCf.out _ hw)
    clear hw hC HCc HCf C
    have HB2 := Lib.hid (HB0.out.trans (HBW.out.mono HB0.out.size))
    replace HX2 := Lib.hid (HX2.out.call HBW.out)
    replace HBX := Lib.hid (HBX.out.below HBW.out HBX.out.lt)
    clear HBW
    go_wp2_with fail
    refine (cnew_any _).mono ?_
    rintro r w3 ⟨rfl, hb3, k3⟩
    have hs23 := hb3.size
    have hw2 := HB2.out.size
    have HB3 := Lib.hid ((HB2.out.trans (hb3.mono HB2.out.size)).alloc (Nat.le_trans hw2 hs23) (.cells #[ptr w2.heap.size, .int .i64 0] 105))
    replace HX2 := Lib.hid ((HX2.out.call hb3).alloc (.cells #[ptr w2.heap.size, .int .i64 0] 105))
    replace HBX := Lib.hid ((HBX.out.below hb3 HBX.out.lt).alloc (.cells #[ptr w2.heap.size, .int .i64 0] 105))
    have HROW := Lib.hid (Whole.fresh w3 105 #[ptr w2.heap.size, .int .i64 0])
    have HCH := Lib.hid (k3.alloc (.cells #[ptr w2.heap.size, .int .i64 0] 105))
    have hcb3 := k3.low w2.heap.size rfl
    clear hb3 k3
    generalize hcbe : w2.heap.size = cb at *
    have HE1 := Lib.hid hcbe
    have HE2 := Lib.hid hs23
    clear hcbe hs23
    obtain ⟨C, hC, HCc, HCf⟩ := below_class (w3.alloc (.cells #[ptr cb, .int .i64 0] 105))
    go_wp2_with fail
    refine region_inT 7 C hC (by kernel_rfl) (by kernel_rfl) ?_
    simp only [List.take_succ_cons, List.take_zero, List.drop_succ_cons, List.drop_zero]
    iterate 7
      (refine WQ.step (fun K hK => ?_)
       go_simp
       first
         | (refine hK _ ?_; clear hK K)
         | (apply Exists.intro
            refine ⟨fun x hx => ?_, hK _ ?_⟩
            · first
                | rfl
                | (have HZ := HX2.out.call (HCf.out _ hx); obtain ⟨k0, k1, k2, kz⟩ := HZ.cells; have q0 := (HBX.out.below (HCf.out _ hx) HBX.out.lt).cell 0; have q1 := (HBX.out.below (HCf.out _ hx) HBX.out.lt).cell 1; go_simp; rfl)
            clear hK K))
    refine WQ.nil ?_
    intro w5 hw
    have HBW := Lib.hid (HCf.out _ hw)
    clear hw hC HCc HCf C
    have HB5 := Lib.hid (HB3.out.trans (HBW.out.mono HB3.out.size))
    replace HX2 := Lib.hid (HX2.out.call HBW.out)
    replace HBX := Lib.hid (HBX.out.below HBW.out HBX.out.lt)
    replace HROW := Lib.hid (HROW.out.below HBW.out HROW.out.lt)
    replace HCH := Lib.hid (HCH.out.call HBW.out)
    obtain ⟨w6, hrun, hmp, hgr⟩ := HX2.out.map.put hk64 w3.heap.size (keysL s) (keysL_nodup s) (by have := keysL_len s; omega) (fun y => by rw [keysL_mem HX2.out.fine]; unfold rowAt; cases s.ch y <;> simp)
    have hmr : mb ≠ w3.heap.size := HX2.out.map.notCells HROW.out
    have hmc : mb ≠ cb := HX2.out.map.notCells HCH.out.face
    have hmx : mb ≠ w.heap.size := by omega
    have HO6 := Lib.hid ((Off.of HB5.out fun b => b = mb).grown hgr fun b hb => .inl (by injection hb with hb; exact hb.symm))
    have HMP := Lib.hid hmp
    replace HROW := Lib.hid (HROW.out.grown hgr (fun e => hmr (by injection e with e; exact e.symm)))
    replace HBX := Lib.hid (HBX.out.grown hgr (fun e => hmx (by injection e with e; exact e.symm)))
    replace HCH := Lib.hid (HCH.out.away hgr.size fun b hb => hgr.block b (HCH.out.low b hb) (fun e => hmc (by injection e with e; rw [← e]; exact hb)))
    clear HBW HX2 hgr hmp
    obtain ⟨C, hC, HCc, HCf⟩ := below_class w6
    go_wp2_with fail
    refine region_inT 7 C hC (by kernel_rfl) (by kernel_rfl) ?_
    simp only [List.take_succ_cons, List.take_zero, List.drop_succ_cons, List.drop_zero]
    iterate 7
      (refine WQ.step (fun K hK => ?_)
       go_simp
       first
         | (refine hK _ ?_; clear hK K)
         | (apply Exists.intro
            refine ⟨fun x hx => ?_, hK _ ?_⟩
            · first
                | rfl
                | (have q2 := (HROW.out.below (HCf.out _ hx) HROW.out.lt).cell 0; have q0 := (HBX.out.below (HCf.out _ hx) HBX.out.lt).cell 0; have q1 := (HBX.out.below (HCf.out _ hx) HBX.out.lt).cell 1; go_simp; rfl)
            clear hK K))
    refine WQ.nil ?_
    intro w7 hw
    have HBW := Lib.hid (HCf.out _ hw)
    clear hw hC HCc HCf C
    replace HO6 := Lib.hid (HO6.out.call HBW.out)
    replace HMP := Lib.hid (HMP.out.at (HBW.out.block mb HMP.out.lt))
    replace HROW := Lib.hid (HROW.out.below HBW.out HROW.out.lt)
    replace HCH := Lib.hid (HCH.out.call HBW.out)
    have hput := cput_any cb ⟨[], 0⟩ (fun b => b = cb) t v w7 ⟨Ok.new, _, HCH.out⟩
    rw [HP1.out, HP2.out] at hput
    simp only [List.nil_append] at hput
    have HPUT := Lib.hid hput
    clear hput hrun
    go_wp2_with fail
    refine HPUT.out.mono ?_
    rintro r w8 ⟨rfl, hm⟩
    have HM := Lib.hid hm
    have hbr : w3.heap.size ≠ cb := by omega
    have hw8 := hm.off.whole HROW.out (fun e => hbr e)
    have c1 := hw8.cell 1
    have f1 := hw8.free 1
    have z1 := hw8.lt
    clear hm hw8
    go_wp2_with fail
    go_end0
    refine ⟨rfl, ?_⟩
    have hwr : w.heap.size ≤ w3.heap.size := by have := HE1.out; have := HE2.out; omega
    have hwc : w.heap.size ≤ cb := by have := HE1.out; omega
    obtain ⟨K', hu, hok, hK'⟩ := Ux.went (Kf := fun b => b = w3.heap.size ∨ b = cb) (u := .int .i64 1) HROW.out (fun e => hbr e) (fun b => Iff.rfl) HM.out (Below.refl _ _) rfl
    have hnew : ∀ b, K' b → w.heap.size ≤ b := fun b hb => by
      rcases hK' b hb with h | h
      · rcases h with h | h <;> omega
      · have := HO6.out.size; omega
    have hall := HO6.out.then (fun b hb => .inr (by rcases hb with h | h <;> omega)) hok
    refine HX0.out.grow H4.out HFN.out (by rw [HA1.out, HP2.out]; rfl) HA2.out ⟨rfl, rfl⟩ hall (HMP.out.at (hok.block mb HMP.out.lt (fun h => by rcases h with h | h; exact hmr h; exact hmc h))) hu hnew
  | some c =>
    have H4 := Lib.hid hch
    rw [hch] at ha1 hp1 hp2
    simp only [Option.getD_some] at hp1 hp2
    have HP1 := Lib.hid hp1
    have HP2 := Lib.hid hp2
    have HA1 := Lib.hid ha1
    simp only [Option.getD_some] at HA1
    have hfew := (x.fine.ok k c hch).few
    clear x hc ha1 ha2 hp1 hp2 hch
    go_enter Tryz.func61, Tryz.ntmps61
    obtain ⟨C, hC, HCc, HCf⟩ := below_class (w.alloc (.cells #[.int .i64 k, .int .i64 v] 62))
    go_wp2_with fail
    refine region_in C hC (by kernel_rfl) (by kernel_rfl) ?_
    iterate 12
      (refine WQ.step (fun K hK => ?_)
       go_simp
       first
         | (refine hK _ ?_; clear hK K)
         | (apply Exists.intro
            refine ⟨fun x hx => ?_, hK _ ?_⟩
            · first
                | rfl
                | (have HZ := HX2.out.call (HCf.out _ hx); obtain ⟨k0, k1, k2, kz⟩ := HZ.cells; have hl := (HZ.lookS H4.out).1; have q0 := (HBX.out.below (HCf.out _ hx) HBX.out.lt).cell 0; have q1 := (HBX.out.below (HCf.out _ hx) HBX.out.lt).cell 1; go_simp; rfl)
            clear hK K))
    refine WQ.nil ?_
    intro w2 hw
    have HBW := Lib.hid (HCf.out _ hw)
    clear hw hC HCc HCf C
    have HB2 := Lib.hid (HB0.out.trans (HBW.out.mono HB0.out.size))
    replace HX2 := Lib.hid (HX2.out.call HBW.out)
    replace HBX := Lib.hid (HBX.out.below HBW.out HBX.out.lt)
    clear HBW
    obtain ⟨cb, Fc, hrow, hchn, hnf, hKf⟩ := HX2.out.rows k c H4.out
    have HROW := Lib.hid hrow
    have HCH := Lib.hid hchn
    have HNF := Lib.hid hnf
    have HKF := Lib.hid hKf
    clear hrow hchn hnf hKf
    obtain ⟨C, hC, HCc, HCf⟩ := below_class w2
    go_wp2_with fail
    refine region_inT 7 C hC (by kernel_rfl) (by kernel_rfl) ?_
    simp only [List.take_succ_cons, List.take_zero, List.drop_succ_cons, List.drop_zero]
    iterate 7
      (refine WQ.step (fun K hK => ?_)
       go_simp
       first
         | (refine hK _ ?_; clear hK K)
         | (apply Exists.intro
            refine ⟨fun x hx => ?_, hK _ ?_⟩
            · first
                | rfl
                | (have q2 := (HROW.out.below (HCf.out _ hx) HROW.out.lt).cell 0; have q0 := (HBX.out.below (HCf.out _ hx) HBX.out.lt).cell 0; have q1 := (HBX.out.below (HCf.out _ hx) HBX.out.lt).cell 1; go_simp; rfl)
            clear hK K))
    refine WQ.nil ?_
    intro w7 hw
    have HBW := Lib.hid (HCf.out _ hw)
    clear hw hC HCc HCf C
    have HB7 := Lib.hid (HB2.out.trans (HBW.out.mono HB2.out.size))
    replace HROW := Lib.hid (HROW.out.below HBW.out HROW.out.lt)
    replace HCH := Lib.hid (HCH.out.call HBW.out)
    replace HX2 := Lib.hid (HX2.out.call HBW.out)
    have hput := cput_any cb c Fc t v w7 HCH.out
    rw [HP1.out, HP2.out] at hput
    have HPUT := Lib.hid hput
    clear hput HBW
    go_wp2_with fail
    refine HPUT.out.mono ?_
    rintro r w8 ⟨rfl, hm⟩
    have HM := Lib.hid hm
    have hw8 := hm.off.whole HROW.out HNF.out
    have c1 := hw8.cell 1
    have f1 := hw8.free 1
    have z1 := hw8.lt
    clear hm hw8
    go_wp2_with fail
    go_end0
    refine ⟨rfl, WentS.before HB7.out ?_⟩
    obtain ⟨K', hu, hok, hK'⟩ := Ux.went (Kf := K k) (u := .int .i64 ((c.l.length : Int) + 1)) HROW.out HNF.out HKF.out HM.out (Below.refl _ _) (by simp)
    exact HX2.out.turn H4.out HFN.out (by rw [HA1.out, HP2.out]) HA2.out ⟨rfl, rfl⟩ hok hu hK'
end
end Go.Proofs.YtckhddndeojobaaGreat
