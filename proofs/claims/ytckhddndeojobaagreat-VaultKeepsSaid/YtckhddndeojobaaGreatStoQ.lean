/- Contracts at layer 12, of the program's calls that change a store: Put, Close, prune, Prune. (Written by gstoq.py.) -/
import Derived.Test.YtckhddndeojobaaGreatStoP
namespace Go.Proofs.YtckhddndeojobaaGreat
open Go.RowKit Go.Cn Go.So
set_option linter.unusedVariables false
set_option linter.unusedSimpArgs false
set_option maxRecDepth 100000

/-- What is shown outside of what has changed. -/
theorem sees_off {w w' : World} {G : Nat → Prop} {size n : Nat} {A : Option Addr} {xs : List Value} (h : Sees w w.heap.size size A n xs) (ho : Off G w w') (hf : 0 < n → ∀ a, A = some a → ¬ G a.block) : Sees w' w'.heap.size size A n xs := by
  refine ⟨h.1, fun hn => ?_⟩
  obtain ⟨b, off, e, hb, hc⟩ := h.2 hn
  refine ⟨b, off, e, Nat.lt_of_lt_of_le hb ho.size, fun j z hz => ?_⟩
  have e2 : w'.heap[b]? = w.heap[b]? := ho.block b hb (hf hn _ e)
  rw [← hc j z hz]
  simp only [World.cell?, e2]
section
variable {g mb : Nat} {s : Sto} {rb : Int → Nat} {K : Int → Nat → Prop} {F : Nat → Prop}
theorem sclose_any (t : Int) (w : World) (x0 : Stx w g s F) : Calls Tryz.prog 34 #[ptr g, .int .i64 t] w fun r w' => r = .returned (.int .i64 (closeSE t)) ∧ WentS F w w' g (closeS s t) := by
  obtain ⟨mb, rb, K, x⟩ := x0
  obtain ⟨c0, c1, c2, z⟩ := x.cells
  have f1 := x.face.free 1
  have HX := Lib.hid x
  have HT := Lib.hid (stime_any t w)
  have HF := Lib.hid (x.fine.close t)
  unfold closeSE
  unfold closeS at HF ⊢
  clear x
  cases h : isT t with
  | false =>
    rw [h] at HT
    simp only [Bool.false_eq_true, if_false]
    clear h
    go_enter Tryz.func34, Tryz.ntmps34
    go_wp2_with fail
    refine HT.out.mono ?_
    rintro e w1 ⟨rfl, e1⟩
    subst w1
    go_wp2_with fail
    go_ret
    exact ⟨rfl, WentS.same ⟨_, _, _, HX.out⟩ (Below.refl _ _)⟩
  | true =>
    rw [h] at HT HF
    simp only [if_true] at HF ⊢
    clear h
    go_enter Tryz.func34, Tryz.ntmps34
    go_wp2_with fail
    refine HT.out.mono ?_
    rintro e w1 ⟨rfl, e1⟩
    subst w1
    go_wp2_with fail
    go_ret
    exact ⟨rfl, WentS.set HX.out 1 _ rfl HF.out rfl⟩
theorem srprune_any (r : Nat) (c : Cs) (t : Int) (Kf : Nat → Prop) (w : World) (h : Ux w r c Kf) :
    Calls Tryz.prog 57 #[ptr r, .int .i64 t] w fun e w' => e = .returned (.tuple #[]) ∧ ∃ K', Ux w' r (prune c t) K' ∧ Off Kf w w' ∧ ∀ b, K' b → Kf b ∨ w.heap.size ≤ b := by
  obtain ⟨cb, Fc, hrow, hchn, hnf, hKf⟩ := h
  have HP := Lib.hid (cprune_any cb c Fc t w hchn)
  have HROW := Lib.hid hrow
  have HNF := Lib.hid hnf
  have HKF := Lib.hid hKf
  have r0 := hrow.cell 0
  have rz := hrow.lt
  clear hrow hchn hnf hKf
  go_enter Tryz.func57, Tryz.ntmps57
  go_wp2_with fail
  refine HP.out.mono ?_
  rintro e w1 ⟨rfl, hm⟩
  have HM := Lib.hid hm
  have hw1 := hm.off.whole HROW.out HNF.out
  obtain ⟨F', hF', hd⟩ := hm.chn
  obtain ⟨A, cap, hr⟩ := hd.read
  have HL := Lib.hid (clist_any cb A cap _ w1 hr)
  have HW1 := Lib.hid hw1
  clear r0 rz
  have r0 := hw1.cell 0
  have rz := hw1.lt
  clear hm hw1 hF' hd hr HP
  go_wp2_with fail
  refine HL.out.mono ?_
  rintro e w2 ⟨A2, cap2, rfl, hb2, -⟩
  have HB2 := Lib.hid hb2
  have hw2 := HW1.out.below hb2 HW1.out.lt
  clear r0 rz
  have r1 := hw2.cell 1
  have f1 := hw2.free 1
  have rz := hw2.lt
  clear hb2 hw2
  go_wp2_with fail
  go_end0
  refine ⟨rfl, ?_⟩
  exact Ux.went HROW.out HNF.out HKF.out HM.out HB2.out rfl
theorem prunes_step (s : Sto) (t : Int) (l : List Int) (k : Nat) (y : Int) (h : l[k]? = some y) (hn : l.Nodup) (c : Cs) (hc : s.ch y = some c) :
    (prunesS s t (l.take k)).ch y = some c ∧ (prunesS s t (l.take (k + 1))).ch y = some (prune c t) ∧ ∀ j, j ≠ y → (prunesS s t (l.take (k + 1))).ch j = (prunesS s t (l.take k)).ch j := by
  have hnot : y ∉ l.take k := fun hm => by
    obtain ⟨i, hi, e⟩ := List.mem_take_iff_getElem.1 hm
    have hk := (List.getElem?_eq_some_iff.1 h).1
    have := List.pairwise_iff_getElem.1 hn i k (by omega) hk (by omega)
    rw [(List.getElem?_eq_some_iff.1 h).2] at this
    exact this e
  have htk : l.take (k + 1) = l.take k ++ [y] := by rw [List.take_add_one, h]; rfl
  refine ⟨?_, ?_, fun j hj => ?_⟩
  · show (if y ∈ l.take k then (s.ch y).map (fun c => prune c t) else s.ch y) = some c
    rw [if_neg hnot, hc]
  · show (if y ∈ l.take (k + 1) then (s.ch y).map (fun c => prune c t) else s.ch y) = some (prune c t)
    rw [if_pos (by rw [htk]; simp), hc]
    rfl
  · show (if j ∈ l.take (k + 1) then (s.ch j).map (fun c => prune c t) else s.ch j) = (if j ∈ l.take k then (s.ch j).map (fun c => prune c t) else s.ch j)
    have : (j ∈ l.take (k + 1)) = (j ∈ l.take k) := by rw [htk, List.mem_append, List.mem_singleton]; apply propext; exact ⟨fun h => h.resolve_right hj, .inl⟩
    simp only [this]
theorem Fine.prunes {s : Sto} (hf : Fine s) {t : Int} (h1 : isT t = true) (h2 : t ≤ s.closed) (h3 : s.mark < t) (l : List Int) : Fine (prunesS s t l) := by
  have hr := hf.range
  have hcase : ∀ k c, (prunesS s t l).ch k = some c → ∃ c0, s.ch k = some c0 ∧ (c = c0 ∨ c = prune c0 t) := fun k c hk => by
    replace hk : (if k ∈ l then (s.ch k).map (fun c => prune c t) else s.ch k) = some c := hk
    split at hk
    · obtain ⟨c0, hc0, rfl⟩ := Option.map_eq_some_iff.1 hk
      exact ⟨c0, hc0, .inr rfl⟩
    · exact ⟨c, hk, .inl rfl⟩
  refine ⟨fun k c hk => ?_, fun k c hk => ?_, fun k c hk => ?_, fun k c hk => ?_, by show 0 ≤ t ∧ t ≤ s.closed ∧ s.closed ≤ 1125899906842624; omega⟩ <;> obtain ⟨c0, hc0, rfl | rfl⟩ := hcase k c hk
  · exact hf.key k _ hc0
  · exact hf.key k _ hc0
  · exact hf.ok k _ hc0
  · exact (hf.ok k _ hc0).prune t
  · exact hf.pos k _ hc0
  · exact prune_pos (hf.pos k _ hc0) t
  · have := hf.marks k _ hc0
    show c.mark ≤ t
    omega
  · exact prune_mark' (hf.marks k _ hc0) (by omega)
theorem prunes_all {s : Sto} (hf : Fine s) (t : Int) : prunesS s t (keysL s) = ⟨fun k => (s.ch k).map fun c => prune c t, s.closed, t⟩ := by
  unfold prunesS
  congr 1
  funext k
  by_cases h : k ∈ keysL s
  · rw [if_pos h]
  · rw [if_neg h]
    cases hk : s.ch k with
    | none => rfl
    | some c => exact absurd ((keysL_mem hf k).2 (by rw [hk]; rfl)) h
set_option maxHeartbeats 4000000 in
theorem sprune_any (t : Int) (w : World) (x0 : Stx w g s F) : Calls Tryz.prog 44 #[ptr g, .int .i64 t] w fun r w' => r = .returned (.int .i64 (pruneSE s t)) ∧ WentS F w w' g (pruneS s t) := by
  obtain ⟨mb, rb, K, x⟩ := x0
  obtain ⟨c0, c1, c2, z⟩ := x.cells
  have f2 := x.face.free 2
  have HX := Lib.hid x
  have HT := Lib.hid (stime_any t w)
  rcases pruneS_cases s t with ⟨h1, h2, h3⟩ | ⟨h1, h4, h2, h3⟩ | ⟨h1, h4, h5, h2, h3⟩ | ⟨h1, h4, h5, h2, h3⟩ <;> rw [h2, h3] <;> rw [h1] at HT
  · clear x h1 h2 h3
    go_enter Tryz.func44, Tryz.ntmps44
    go_wp2_with fail
    refine HT.out.mono ?_
    rintro e w1 ⟨rfl, e1⟩
    subst w1
    go_wp2_with fail
    go_ret
    exact ⟨rfl, WentS.same ⟨_, _, _, HX.out⟩ (Below.refl _ _)⟩
  · clear x h1 h2 h3
    go_enter Tryz.func44, Tryz.ntmps44
    go_wp2_with fail
    refine HT.out.mono ?_
    rintro e w1 ⟨rfl, e1⟩
    subst w1
    go_wp2_with fail
    go_ret
    exact ⟨rfl, WentS.same ⟨_, _, _, HX.out⟩ (Below.refl _ _)⟩
  · have i1 : ¬ s.closed < t := by omega
    have i2 : ¬ s.mark < t := by omega
    clear x h1 h2 h3
    go_enter Tryz.func44, Tryz.ntmps44
    go_wp2_with fail
    refine HT.out.mono ?_
    rintro e w1 ⟨rfl, e1⟩
    subst w1
    go_wp2_with fail
    go_ret
    exact ⟨rfl, WentS.same ⟨_, _, _, HX.out⟩ (Below.refl _ _)⟩
  · have i1 : ¬ s.closed < t := by omega
    have HFN := Lib.hid (fun l => Fine.prunes x.fine h1 h4 h5 l)
    have HEND := Lib.hid (prunes_all x.fine t)
    have hkeys : keysL (prunesS s t []) = keysL s := by unfold keysL prunesS; simp
    have HX1 := Lib.hid (x.set (s' := prunesS s t []) 2 (.int .i64 t) (by unfold prunesS; simp) (HFN.out []) rfl)
    have HO1 := Lib.hid ((Off.refl F w).set (p := ⟨g, 2, none⟩) (.inl x.mine.1) (.int .i64 t))
    have HK := skeys_any _ HX1.out
    rw [hkeys] at HK
    replace HK := Lib.hid HK
    have HNK := Lib.hid (keysL_nodup s)
    have HMK := Lib.hid (fun y => keysL_mem x.fine y)
    have hkl := keysL_len s
    clear x h1 h2 h3 hkeys
    go_enter Tryz.func44, Tryz.ntmps44
    go_wp2_with fail
    refine HT.out.mono ?_
    rintro e w1 ⟨rfl, e1⟩
    subst w1
    go_wp2_with fail
    refine HK.out.mono ?_
    rintro e w1 ⟨A, cap, rfl, hb1, ho1⟩
    have HS := Lib.hid (keys_sees ho1)
    have HFAR : Hid (0 < (keysL s).length → ∀ a, A = some a → ¬ F a.block) := Lib.hid fun hn a ha hf => by
      have h1 := ow_low ho1 ha (Nat.le_refl _)
      have h2 := HX1.out.low _ hf
      omega
    have HY := Lib.hid (HX1.out.call hb1)
    replace HO1 := Lib.hid (HO1.out.call hb1)
    obtain ⟨A0, cap0, he, r1, r2, r3⟩ := own_slice0 ho1
    injection he with e1 e2 e3
    subst e1 e3
    clear ho1 hb1 HK HX1 HX HT c0 c1 c2 f2 z
    generalize keysL s = ks at *
    go_wp2_with fail
    go_loopw [31] (fun i wr => ∃ k : Nat, k ≤ ks.length ∧ i = .int .i64 (k : Int) ∧ WentS F w1 wr g (prunesS s t (ks.take k))) (fun i _ => ks.length - (intOf i).toNat)
    case atStart => exact ⟨0, by omega, rfl, by rw [List.take_zero]; exact WentS.same ⟨_, _, _, HY.out⟩ (Below.refl _ _)⟩
    case round =>
      obtain ⟨k, hk, rfl, hm⟩ := hrel
      have HM := Lib.hid hm
      clear hm
      by_cases hlt : k < ks.length
      · obtain ⟨y, hy⟩ : ∃ y, ks[k]? = some y := ⟨_, List.getElem?_eq_getElem hlt⟩
        have hmem := (HMK.out y).1 (List.mem_of_getElem? hy)
        obtain ⟨c, hc⟩ := Option.isSome_iff_exists.1 hmem
        obtain ⟨q1, q2, q3⟩ := prunes_step s t ks k y hy HNK.out c hc
        obtain ⟨F1, hF1, mb1, rb1, K1, x1⟩ := HM.out.sto
        obtain ⟨b0, off, rfl, hb0, hcell⟩ := (sees_off HS.out HM.out.off HFAR.out).item (fun _ => rfl) (by omega) k y hy
        have k0 := hcell 0 _ rfl
        rw [Nat.add_zero, Nat.mul_one] at k0
        obtain ⟨c0, c1, c2, cz⟩ := x1.cells
        have hl := (x1.lookS q1).2
        have HU := Lib.hid (srprune_any (rb1 y) c t (K1 y) wr (x1.rows y c q1))
        have HT2 := Lib.hid (fun w' (K' : Nat → Prop) (hu : Ux w' (rb1 y) (prune c t) K') (ho : Off (K1 y) wr w') (hK : ∀ b, K' b → K1 y b ∨ wr.heap.size ≤ b) => x1.turn q1 (HFN.out (ks.take (k + 1))) q2 q3 ⟨rfl, rfl⟩ ho hu hK)
        have HF1 := Lib.hid hF1
        have i2 : (k : Int) < (ks.length : Int) := by omega
        clear hcell hy hmem hc q1 q2 q3 x1 hF1
        go_wp2_with fail
        refine HU.out.mono ?_
        rintro e w3 ⟨rfl, K', hu, ho, hK⟩
        have HW := Lib.hid (WentS.step HM.out.off HF1.out (HT2.out w3 K' hu ho hK))
        clear hu ho hK
        go_wp2_with fail
        go_roundw
        case rel => exact ⟨k + 1, by omega, by go_num, HW.out⟩
        case measure => simp [intOf]; omega
      · obtain rfl : k = ks.length := by omega
        rw [List.take_length] at HM
        go_wp2_with fail
        go_ret
        refine ⟨rfl, ?_⟩
        have := WentS.step HO1.out (fun b hb => .inl hb) HM.out
        rw [HEND.out] at this
        exact this
set_option maxHeartbeats 8000000 in
theorem sput_any (t : Int) (A : Option Addr) (cap : Nat) (l : List En) (w : World) (x0 : Stx w g s F) (hs : Sees w w.heap.size 2 A l.length (flat encE l)) (hroom : l.length ≤ cap) (hcap : cap ≤ 9223372036854775807) (h64 : ∀ e ∈ l, W64 e.1) (hfar : 0 < l.length → ∀ a, A = some a → ¬ F a.block) :
    Calls Tryz.prog 48 #[ptr g, .int .i64 t, .slice A l.length cap] w fun r w' => r = .returned (.int .i64 (putSE s t l)) ∧ WentS F w w' g (putS s t l) := by
  have HX0 := Lib.hid x0
  obtain ⟨mb, rb, K, x⟩ := x0
  obtain ⟨c0, c1, c2, z⟩ := x.cells
  have HX := Lib.hid x
  have HT := Lib.hid (stime_any t w)
  have HS := Lib.hid hs
  have HFAR := Lib.hid hfar
  have H64 := Lib.hid h64
  have hfn := x.fine
  clear x hs hfar h64
  by_cases ht : 1 ≤ t ∧ t ≤ 1125899906842624
  · obtain ⟨t1, t2⟩ := ht
    have hT : isT t = true := (isT_iff t).2 (by omega)
    have t3 : ¬ t < 1 := by omega
    rw [hT] at HT
    clear hT
    by_cases hc : t ≤ s.closed
    · have HE : Hid (putSE s t l = 121 ∧ putS s t l = s) := Lib.hid (by
        rcases putS_cases s t l with ⟨h1, _⟩ | ⟨_, _, h2, h3⟩ | ⟨_, h1, _⟩ | ⟨_, h1, _⟩ | ⟨_, h1, _⟩
        · omega
        · exact ⟨h2, h3⟩
        · omega
        · omega
        · omega)
      rw [HE.out.1, HE.out.2]
      go_enter Tryz.func48, Tryz.ntmps48
      go_wp2_with fail
      refine HT.out.mono ?_
      rintro e w1 ⟨rfl, e1⟩
      subst w1
      go_wp2_with fail
      go_ret
      exact ⟨rfl, WentS.same HX0.out (Below.refl _ _)⟩
    · have hc2 : s.closed < t := by omega
      by_cases hn : 100 < l.length
      · have HE : Hid (putSE s t l = 122 ∧ putS s t l = s) := Lib.hid (by
          rcases putS_cases s t l with ⟨h1, _⟩ | ⟨_, h1, _⟩ | ⟨_, _, _, h2, h3⟩ | ⟨_, _, h1, _⟩ | ⟨_, _, h1, _⟩
          · omega
          · omega
          · exact ⟨h2, h3⟩
          · omega
          · omega)
        rw [HE.out.1, HE.out.2]
        have i1 : (100 : Int) < (l.length : Int) := by omega
        go_enter Tryz.func48, Tryz.ntmps48
        go_wp2_with fail
        refine HT.out.mono ?_
        rintro e w1 ⟨rfl, e1⟩
        subst w1
        go_wp2_with fail
        go_ret
        exact ⟨rfl, WentS.same HX0.out (Below.refl _ _)⟩
      · have hn2 : l.length ≤ 100 := by omega
        have HNO : Hid (∀ k e, l[k]? = some e → (∀ j a, j < k → l[j]? = some a → whyE s t a.1 (l.take j) = 0) → whyE s t e.1 (l.take k) ≠ 0 → putSE s t l = whyE s t e.1 (l.take k) ∧ putS s t l = s) := Lib.hid fun k e hk h0 hne => by
          have hsc := scan_at s t l [] k e hk (by simpa using h0) (by simpa using hne)
          rw [List.nil_append] at hsc
          rcases putS_cases s t l with ⟨h1, _⟩ | ⟨_, h1, _⟩ | ⟨_, _, h1, _⟩ | ⟨_, _, _, _, h2, h3⟩ | ⟨_, _, _, h1, _⟩
          · omega
          · omega
          · omega
          · exact ⟨h2.trans hsc, h3⟩
          · rw [scan_can.2 h1] at hsc; exact absurd hsc.symm hne
        have HYES : Hid ((∀ j a, l[j]? = some a → whyE s t a.1 (l.take j) = 0) → Cans s t l ∧ putSE s t l = 0 ∧ putS s t l = addsS s t l) := Lib.hid fun h0 => by
          have hsc : scanE s t [] l = 0 := (scan_all s t l []).2 (by simpa using h0)
          rcases putS_cases s t l with ⟨h1, _⟩ | ⟨_, h1, _⟩ | ⟨_, _, h1, _⟩ | ⟨_, _, _, h1, _⟩ | ⟨_, _, _, h1, h2, h3⟩
          · omega
          · omega
          · omega
          · exact absurd hsc h1
          · exact ⟨h1, h2, h3⟩
        have HFN := Lib.hid hfn
        clear hfn
        have i1 : ¬ (100 : Int) < (l.length : Int) := by omega
        generalize putSE s t l = E at *
        generalize putS s t l = S' at *
        go_enter Tryz.func48, Tryz.ntmps48
        go_wp2_with fail
        refine HT.out.mono ?_
        rintro e w1 ⟨rfl, e1⟩
        subst w1
        go_wp2_with fail
        go_loopw [33] (fun i wr => ∃ k : Nat, k ≤ l.length ∧ i = .int .i64 (k : Int) ∧ Below w.heap.size w wr ∧ ∀ j a, j < k → l[j]? = some a → whyE s t a.1 (l.take j) = 0) (fun i _ => l.length - (intOf i).toNat)
        case atStart => exact ⟨0, by omega, rfl, Below.refl _ _, fun j a h => by omega⟩
        case round =>
          obtain ⟨k, hk, rfl, hb, hz0⟩ := hrel
          have HB := Lib.hid hb
          have HZ0 := Lib.hid hz0
          clear hb hz0
          by_cases hlt : k < l.length
          · obtain ⟨v, hv⟩ : ∃ v, l[k]? = some v := ⟨_, List.getElem?_eq_getElem hlt⟩
            have HV := Lib.hid hv
            obtain ⟨b0, off, rfl, hb0, hcell⟩ := (HS.out.below HB.out).item encE_len (by omega) k v hv
            have q0 := hcell 0 _ rfl
            have q1 := hcell 1 _ rfl
            rw [Nat.add_zero] at q0
            have hwr := HB.out.size
            have i2 : (k : Int) < (l.length : Int) := by omega
            have i3 : (k : Int) ≤ (cap : Int) := by omega
            have HB1 := Lib.hid (HB.out.alloc hwr (.cells #[.int .i64 v.1, .int .i64 v.2] 62))
            have HBX := Lib.hid (Whole.fresh wr 62 #[.int .i64 v.1, .int .i64 v.2])
            have htl : (l.take k).length = k := by rw [List.length_take]; omega
            have HW := Lib.hid (fun w0 (hb : Below w.heap.size w w0) => by
              have := swhy_any t v.1 (H64.out v (List.mem_of_getElem? hv)) w0.heap.size (some ⟨b0, off, none⟩) cap (l.take k) w0 (HX.out.call hb) (by
                have hq := ((HS.out.below hb).more hb.size).first (k := k) (by omega)
                rw [flat_take encE_len] at hq
                rw [htl]
                exact hq) (Nat.le_refl _) (by omega)
              rw [htl] at this
              exact this)
            clear hv hcell
            obtain ⟨C, hC, HCc, HCf⟩ := below_class (wr.alloc (.cells #[.int .i64 v.1, .int .i64 v.2] 62))
            go_wp2_with fail
            refine region_inT 7 C hC (by kernel_rfl) (by kernel_rfl) ?_
            simp only [List.take_succ_cons, List.take_zero, List.drop_succ_cons, List.drop_zero]
            iterate 7
              (refine WQ.step (fun K hK => ?_)
               go_simp
               first
                 | (refine hK _ ?_; clear hK K)
                 | (apply Exists.intro
                    refine ⟨fun x hx => ?_, hK _ ?_⟩
                    · first
                        | rfl
                        | (have p0 := (HBX.out.below (HCf.out _ hx) HBX.out.lt).cell 0; go_simp; rfl)
                    clear hK K))
            refine WQ.nil ?_
            intro w5 hw
            have HBW := Lib.hid (HCf.out _ hw)
            clear hw hC HCc HCf C
            have HB5 := Lib.hid (HB1.out.trans (HBW.out.mono HB1.out.size))
            have HW5 := Lib.hid (HW.out w5 HB5.out)
            clear HBW q0 q1
            by_cases hy0 : whyE s t v.1 (l.take k) = 0
            · have HZ : Hid (∀ j a, j < k + 1 → l[j]? = some a → whyE s t a.1 (l.take j) = 0) := Lib.hid fun j a hj ha => by
                by_cases hjk : j < k
                · exact HZ0.out j a hjk ha
                · have : j = k := by omega
                  subst this
                  have := HV.out.symm.trans ha
                  injection this with this
                  subst this
                  exact hy0
              rw [hy0] at HW5
              clear hy0
              go_wp2_with fail
              refine HW5.out.mono ?_
              rintro e w6 ⟨rfl, hb6⟩
              have HB6 := Lib.hid (HB5.out.trans (hb6.mono HB5.out.size))
              clear hb6
              go_wp2_with fail
              go_roundw
              case rel => exact ⟨k + 1, by omega, by go_num, HB6.out, HZ.out⟩
              case measure => simp [intOf]; omega
            · obtain ⟨he1, he2⟩ := HNO.out k v HV.out HZ0.out hy0
              have HE1 := Lib.hid he1
              have HE2 := Lib.hid he2
              have hy1 : (whyE s t v.1 (l.take k) == 0) = false := by simpa using hy0
              clear he1 he2 hy0
              generalize whyE s t v.1 (l.take k) = Y at *
              go_wp2_with fail
              refine HW5.out.mono ?_
              rintro e w6 ⟨rfl, hb6⟩
              have HB6 := Lib.hid (HB5.out.trans (hb6.mono HB5.out.size))
              clear hb6
              go_wp2_with fail
              go_ret
              rw [HE1.out, HE2.out]
              exact ⟨rfl, WentS.same HX0.out HB6.out⟩
          · obtain rfl : k = l.length := by omega
            obtain ⟨hcan, he1, he2⟩ := HYES.out fun j a ha => HZ0.out j a (List.getElem?_eq_some_iff.1 ha).1 ha
            have HCAN := Lib.hid hcan
            have HE1 := Lib.hid he1
            have HE2 := Lib.hid he2
            clear hcan he1 he2 HT
            go_wp2_with fail
            go_loopw [52] (fun i wr => ∃ k : Nat, k ≤ l.length ∧ i = .int .i64 (k : Int) ∧ WentS F w wr g (addsS s t (l.take k))) (fun i _ => l.length - (intOf i).toNat)
            case atStart => exact ⟨0, by omega, rfl, by rw [List.take_zero]; exact WentS.same HX0.out HB.out⟩
            case round =>
              obtain ⟨k, hk, rfl, hm⟩ := hrel
              have HM := Lib.hid hm
              clear hm
              by_cases hlt : k < l.length
              · obtain ⟨v, hv⟩ : ∃ v, l[k]? = some v := ⟨_, List.getElem?_eq_getElem hlt⟩
                obtain ⟨b0, off, rfl, hb0, hcell⟩ := (sees_off HS.out HM.out.off HFAR.out).item encE_len (by omega) k v hv
                have q0 := hcell 0 _ rfl
                have q1 := hcell 1 _ rfl
                rw [Nat.add_zero] at q0
                obtain ⟨F1, hF1, mb1, rb1, K1, x1⟩ := HM.out.sto
                have HF1 := Lib.hid hF1
                have HST := Lib.hid (addsS_take s t l k v hv)
                have HA := Lib.hid (sadd_any t v.1 v.2 (HCAN.out.step k v hv) ⟨t1, t2⟩ (by rw [(adds_keeps s t _).1]; exact hc2) _ (x1.alloc (.cells #[.int .i64 v.1, .int .i64 v.2] 62)))
                have HO1 := Lib.hid (HM.out.off.alloc (.cells #[.int .i64 v.1, .int .i64 v.2] 62))
                have i2 : (k : Int) < (l.length : Int) := by omega
                clear hv hcell x1 hF1 HB
                go_wp2_with fail
                refine HA.out.mono ?_
                rintro e w6 ⟨rfl, hw⟩
                have HW := Lib.hid (WentS.step HO1.out HF1.out hw)
                clear hw
                go_wp2_with fail
                go_roundw
                case rel => exact ⟨k + 1, by omega, by go_num, by rw [HST.out]; exact HW.out⟩
                case measure => simp [intOf]; omega
              · obtain rfl : k = l.length := by omega
                rw [List.take_length] at HM
                go_wp2_with fail
                go_ret
                rw [HE1.out, HE2.out]
                exact ⟨rfl, HM.out⟩
  · have HE : Hid (putSE s t l = 120 ∧ putS s t l = s) := Lib.hid (by
      rcases putS_cases s t l with ⟨_, h2, h3⟩ | ⟨h1, _⟩ | ⟨h1, _⟩ | ⟨h1, _⟩ | ⟨h1, _⟩
      · exact ⟨h2, h3⟩
      · omega
      · omega
      · omega
      · omega)
    rw [HE.out.1, HE.out.2]
    by_cases t3 : t < 1
    · clear HT
      go_enter Tryz.func48, Tryz.ntmps48
      go_wp2_with fail
      go_ret
      exact ⟨rfl, WentS.same HX0.out (Below.refl _ _)⟩
    · have hT : isT t = false := (isT_no t).2 (by omega)
      rw [hT] at HT
      clear hT
      go_enter Tryz.func48, Tryz.ntmps48
      go_wp2_with fail
      refine HT.out.mono ?_
      rintro e w1 ⟨rfl, e1⟩
      subst w1
      go_wp2_with fail
      go_ret
      exact ⟨rfl, WentS.same HX0.out (Below.refl _ _)⟩
end
end Go.Proofs.YtckhddndeojobaaGreat
