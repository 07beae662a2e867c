/- Contracts at layer 13: the table's give. -/
import Derived.Test.YtcjefigcaifmeaaLokY
namespace Go.Proofs.Ytcjefigcaifmeaa
open Go.RowKit Go.Lk
set_option linter.unusedVariables false
set_option linter.unusedSimpArgs false
set_option maxRecDepth 100000
theorem size_zero {f : Lk.Fn} (hf : Fin1 f) : ((supp f).length = 0) ↔ ¬ ∃ x, (f x).isSome = true := by
  constructor
  · rintro h ⟨x, hx⟩
    have := (supp_mem hf x).2 hx
    rw [List.eq_nil_of_length_eq_zero h] at this
    cases this
  · intro h
    rcases hs : supp f with _ | ⟨a, l⟩
    · rfl
    · exact absurd ⟨a, (supp_mem hf a).1 (by rw [hs]; exact List.mem_cons_self ..)⟩ h
theorem own_cell {w : World} {B g n cap : Nat} {e : TypeId} {l : List Int} (h : w.ownsRow B e 1 (.slice (some ⟨g, 0, none⟩) n cap) n (l.map (Value.int .i64))) {j : Nat} {x : Int} (hj : l[j]? = some x) : w.cell? ⟨g, j, none⟩ = some (.int .i64 x) := by
  have hl := (List.getElem?_eq_some_iff.1 hj).1
  have := h.1
  rw [List.length_map] at this
  rw [h.cellAt j (by omega), List.getElem?_map, hj]
  rfl
theorem whole_own_ne {w : World} {B n size g : Nat} {e t : TypeId} {v : Value} {xs : List Value} {cs : Array Value} (h : Whole w g t cs) (ho : w.ownsRow B e size v n xs) (ht : t ≠ e) : ¬ v.ownBlock = some g := fun e2 => by
  rcases ho.2 with ⟨h0, _⟩ | ⟨g', cap, cur, h0, _, hh, _⟩
  · rw [h0] at e2; simp [Value.ownBlock] at e2
  · rw [h0] at e2
    have h1 : g' = g := by simpa [Value.ownBlock] using e2
    subst h1
    have h2 := (show w.heap[g']? = _ from h).symm.trans hh
    injection h2 with h2
    injection h2 with _ h2
    exact ht h2
open Classical in
set_option maxHeartbeats 16000000 in
theorem lgive_any {s : Tb} {loc : Nm → Nat} (l : List Int) (B gk cap : Nat) (but : Int) (w : World) (T : Tm w s loc) (m : Mid s fun j => j ∈ l) (hn : cntT s ≤ 1000000)
    (hk : w.ownsRow B 3 1 (.slice (some ⟨gk, 0, none⟩) l.length cap) l.length (l.map (Value.int .i64))) (hgf0 : ¬ Foot s loc gk) (hl : l.length ≤ 1000000000) (hgw : gk < w.heap.size) :
    Calls Try.prog 22 #[ptr (loc .face), .slice (some ⟨gk, 0, none⟩) l.length cap, .int .i64 but] w fun e w' => ∃ A' cap' K, Rises K ∧ (∀ j, j ∈ K ↔ j ∈ l) ∧ e = .returned (.slice A' (wokeL s K but).length cap') ∧
      Tm w' (giveS s K) loc ∧ Off (fun b => Foot s loc b ∨ b = gk) w w' ∧ w'.ownsRow w.heap.size 57 2 (.slice A' (wokeL s K but).length cap') (wokeL s K but).length (flat encG (wokeL s K but)) := by
  have HT := Lib.hid T
  have HMI := Lib.hid m
  have HN := Lib.hid hn
  have HLOW : Hid (∀ b, Foot s loc b → b < w.heap.size) := Lib.hid fun b hb => T.low hb
  have HPIN : Hid (∀ a, live s a = true → Foot s loc (loc a)) := Lib.hid fun a ha => ⟨a, ha, rfl⟩
  have HSORT := Lib.hid (sortI_own B gk l.length cap l w rfl hk hl)
  have HPERM : Hid (∀ x, x ∈ (l.mergeSort fun x y => decide (x ≤ y)) ↔ x ∈ l) := Lib.hid fun x => (List.mergeSort_perm l _).mem_iff
  have HSL : Hid ((l.mergeSort fun x y => decide (x ≤ y)).Pairwise fun a b => a ≤ b) := Lib.hid (sorted_le l)
  have hsl : (l.mergeSort fun x y => decide (x ≤ y)).length = l.length := List.length_mergeSort _
  generalize (l.mergeSort fun x y => decide (x ≤ y)) = l2 at *
  clear T m hn hk
  go_enter Try.func22, Try.ntmps22
  go_wp2_with fail
  refine HSORT.out.mono ?_
  rintro e w1 ⟨rfl, ho1, hg1⟩
  have hof1 := off_of_grown hg1
  have HCO := Lib.hid (compactI_own B gk l.length cap l2 w1 hsl ho1 hl)
  have hgf := hgf0
  have HGF := Lib.hid hgf
  have HT1 := Lib.hid (HT.out.off hof1 fun b hb e => hgf (by injection e with e; exact e ▸ hb))
  have HOF1 : Hid (Off (fun b => Foot s loc b ∨ b = gk) w w1) := Lib.hid (off_more hof1 fun i hi => by injection hi with hi; exact .inr hi.symm)
  obtain ⟨hkr, hkm⟩ := compact_rises HSL.out
  have HKR := Lib.hid hkr
  have HKM : Hid (∀ x, x ∈ Lib.compact l2 ↔ x ∈ l) := Lib.hid fun x => (hkm x).trans (HPERM.out x)
  clear ho1 hg1 hof1 HSORT HSL HPERM hkr hkm hgf hgf0
  generalize Lib.compact l2 = K at *
  have hKl : K.length ≤ 8192 := by
    have := len_sub HKR.out.nodup (m := (List.range 8192).map fun (n : Nat) => (n : Int)) fun k hk => by
      have h1 := (isK_iff k).1 (HMI.out.rowk k (HMI.out.kr k ((HKM.out k).1 hk))).1
      exact List.mem_map.2 ⟨k.toNat, List.mem_range.2 (by omega), by omega⟩
    simpa using this
  go_wp2_with fail
  refine HCO.out.mono ?_
  rintro e w2 ⟨rfl, ho2, hg2⟩
  have hof2 := off_of_grown hg2
  have HOF2 := Lib.hid (HOF1.out.trans (off_more hof2 fun i hi => by injection hi with hi; exact .inr hi.symm))
  have HK2 := Lib.hid ho2
  have HT2 := Lib.hid (HT1.out.off hof2 fun b hb e => HGF.out (by injection e with e; exact e ▸ hb))
  clear ho2 hg2 hof2 HOF1 HCO HT1
  go_wp2_with fail
  go_loopw [7, 18] (fun v i wr => ∃ j : Nat, j ≤ K.length ∧ i = .int .i64 (j : Int) ∧ Tm wr (giveS s (K.take j)) loc ∧ Off (fun b => Foot s loc b ∨ b = gk) w wr ∧
      wr.ownsRow w.heap.size 57 2 v (wokeL s (K.take j) but).length (flat encG (wokeL s (K.take j) but)) ∧ wr.ownsRow B 3 1 (.slice (some ⟨gk, 0, none⟩) K.length cap) K.length (K.map (Value.int .i64)))
    (fun _ i _ => K.length - (intOf i).toNat)
  case atStart => exact ⟨0, by omega, rfl, HT2.out, HOF2.out, World.ownsRow_nil _ _ _ _, HK2.out⟩
  case round =>
    obtain ⟨j, hj, rfl, hT, hof, hwk, hkk⟩ := hrel
    have HTR := Lib.hid hT
    have HOF := Lib.hid hof
    have HWK := Lib.hid hwk
    have HKK := Lib.hid hkk
    have hws := hof.size
    clear hT hof hwk hkk HT2 HOF2 HK2
    by_cases hlt : j < K.length
    · obtain ⟨k, hkj⟩ : ∃ k, K[j]? = some k := ⟨_, List.getElem?_eq_getElem hlt⟩
      have hkmem : k ∈ K := List.mem_of_getElem? hkj
      have hnot : k ∉ K.take j := fun h => by
        obtain ⟨i, hi, e⟩ := List.mem_take_iff_getElem.1 h
        have e2 := (List.getElem?_eq_some_iff.1 hkj).2
        have := List.pairwise_iff_getElem.1 HKR.out i j (by omega) hlt (by omega)
        omega
      have hmid : Mid (giveS s (K.take j)) fun i => i ∈ l ∧ i ∉ K.take j := HMI.out.gives (K.take j) ((HKR.out.nodup).sublist (List.take_sublist _ _)) fun i hi => (HKM.out i).1 (List.mem_of_mem_take hi)
      have HTK : Hid (K.take (j + 1) = K.take j ++ [k]) := Lib.hid (by rw [List.take_add_one, hkj]; rfl)
      have HG1 : Hid (G1 (giveS s (K.take j)) k = G1 s k) := Lib.hid (G1_gives s _ hnot)
      have HWS : Hid (wokeL s (K.take (j + 1)) but = wokeL s (K.take j) but ++ partL s k but (G1 s k).length) := Lib.hid (by rw [HTK.out]; exact woke_snoc s _ k but)
      have HGS : Hid (giveS s (K.take (j + 1)) = giveK (giveS s (K.take j)) k) := Lib.hid (by rw [HTK.out]; exact giveS_snoc s _ k)
      have hinn : (giveS s (K.take j)).inn = s.inn := (gives_same _ s).1
      have hrowk : (giveS s (K.take j)).row k = true := hmid.kr k ⟨(HKM.out k).1 hkmem, hnot⟩
      have hrow0 : s.row k = true := HMI.out.kr k ((HKM.out k).1 hkmem)
      have hcnt : cntT (giveS s (K.take j)) = cntT s := by unfold cntT innF; rw [hinn]
      have hwl := woke_len HMI.out but (K.take j)
      have hgl := G1_len HMI.out k
      have hnn := HN.out
      have hwl2 : (wokeL s (K.take j) but).length ≤ 8192 * 1000000 := by
        refine Nat.le_trans hwl (Nat.mul_le_mul ?_ hnn)
        rw [List.length_take]; omega
      have hk64 : W64 k := by have := (isK_iff k).1 (hmid.rowk k hrowk).1; unfold W64; omega
      have HINN := Lib.hid hinn
      have HLS : Hid (∀ n, live (giveS s (K.take j)) n = true → live s n = true) := Lib.hid (by
        have hrw9 : ∀ i, (giveS s (K.take j)).row i = true → s.row i = true := fun i hi => by
          by_cases e : i ∈ K.take j
          · exact HMI.out.kr i ((HKM.out i).1 (List.mem_of_mem_take e))
          · rw [← (gives_out _ s e).2.2]; exact hi
        intro n hn9
        cases n with
        | h i => exact hrw9 i hn9
        | w i => exact hrw9 i hn9
        | p i => show s.inn i = true; rw [← hinn]; exact hn9
        | ks i => show s.inn i = true; rw [← hinn]; exact hn9
        | _ => rfl)
      have HRW := Lib.hid hrowk
      have HRW0 := Lib.hid hrow0
      have HMID := Lib.hid hmid
      have HKJ := Lib.hid hkj
      obtain ⟨S, hS⟩ : ∃ S, giveS s (K.take j) = S := ⟨_, rfl⟩
      rw [hS] at HTR HMID HRW HINN HGS HG1 hcnt HLS
      clear hmid hinn hrowk hrow0 hkj hwl hS hnot hkmem
      have kc := own_cell HKK.out HKJ.out
      have hcap : K.length ≤ cap := by
        obtain ⟨_, _, e, h, -⟩ := own_slice0 HKK.out
        injection e with _ _ e
        omega
      obtain ⟨c0, c1, cz⟩ := HTR.out.face
      have hl := (HTR.out.rows hk64).2
      rw [rowV_in HRW.out] at hl
      have hb1 := (Below.refl wr.heap.size wr).alloc (Nat.le_refl _) (.cells #[.map (some (loc (.h k))), .map (some (loc (.w k)))] 63)
      have HB1 := Lib.hid hb1
      have HTA := Lib.hid (HTR.out.call hb1)
      have HRB : Hid (Whole (wr.alloc (.cells #[.map (some (loc (.h k))), .map (some (loc (.w k)))] 63)) wr.heap.size 63 #[.map (some (loc (.h k))), .map (some (loc (.w k)))]) := Lib.hid (Whole.fresh wr _ _)
      have hne : loc (.h k) ≠ loc (.w k) := fun e => by have := HTR.out.inj (.h k) (.w k) HRW.out HRW.out e; cases this
      have HRG := Lib.hid (rgive_any (loc (.h k)) (loc (.w k)) (S.h k) (S.w k) _ hne (HTA.out.has (.h k) HRW.out) (HTA.out.has (.w k) HRW.out) (fun x hx => (HMID.out.inn64 x (HMID.out.winn hx)).1) (supp (innF S))
        (fun x hx => (supp_mem HMID.out.fin x).2 ((innF_iff S x).2 (hx.elim (fun h => HMID.out.hinn h) fun h => HMID.out.winn h))) (by show cntT S ≤ _; omega))
      rw [show gl (S.h k) (rowOf (S.w k)) = G1 S k from rfl, HG1.out] at HRG
      have HGX : Hid (∀ x b, (x, b) ∈ G1 s k → S.inn x = true) := Lib.hid fun x b h => by
        rw [← HG1.out] at h
        exact HMID.out.winn (by rw [(HMID.out.g1 k).2 x b h]; rfl)
      clear hb1
      go_wp2_with fail
      refine HRG.out.mono ?_
      rintro e w3 ⟨A2, cp2, rfl, hof3, hmh3, hmw3, hgv3⟩
      have HS3 := Lib.hid hof3
      have HT3 : Hid (Tm w3 (hwS S k) loc) := Lib.hid (by
        unfold hwS
        rw [HG1.out]
        exact HTA.out.sethw HRW.out hmh3 hmw3 hof3)
      have HMH3 := Lib.hid hmh3
      have HGV3 := Lib.hid hgv3
      have hA2 : (G1 s k).length ≤ cp2 := by
        obtain ⟨_, _, e, h, -⟩ := own_slice0 hgv3
        injection e with _ _ e
        omega
      have hfh : Foot s loc (loc (.h k)) := HPIN.out (.h k) HRW0.out
      have hfw : Foot s loc (loc (.w k)) := HPIN.out (.w k) HRW0.out
      have HFH := Lib.hid hfh
      have HFW := Lib.hid hfw
      have hlh := HLOW.out _ hfh
      have hlw := HLOW.out _ hfw
      have HRB3 := Lib.hid (hof3.whole HRB.out (by omega))
      have HOF3 : Hid (Off (fun b => Foot s loc b ∨ b = gk) w w3) := Lib.hid ((HOF.out.call HB1.out).trans (off_more hof3 fun i hi => by
        rcases hi with rfl | rfl
        · exact .inl hfh
        · exact .inl hfw))
      have HWK3 := Lib.hid (own_off (own_keep HWK.out HB1.out (Nat.le_refl _)) hof3 fun b hb e => by
        have := (HWK.out.lt b hb).1
        rcases e with rfl | rfl <;> omega)
      have HKK3 := Lib.hid (own_off (own_keep HKK.out HB1.out (Nat.le_refl _)) hof3 fun b hb e => by
        have : gk = b := by simpa [Value.ownBlock] using hb
        subst this
        rcases e with e | e
        · exact HGF.out (e ▸ hfh)
        · exact HGF.out (e ▸ hfw))
      have hws3 := HOF3.out.size
      clear HRG hof3 hmh3 hmw3 hgv3 HRB HTA HTR HWK HKK c0 c1 cz hl kc hfh hfw
      obtain ⟨W, hW⟩ : ∃ W, wokeL s (K.take j) but = W := ⟨_, rfl⟩
      rw [hW] at HWK3 HWS hwl2
      have HW := Lib.hid hW
      have HMH9 := Lib.hid HMH3.out
      clear hW
      go_wp2_with fail
      obtain ⟨wr9, hwr9⟩ : ∃ z, z = wr := ⟨_, rfl⟩
      subst hwr9
      have hgi := HGV3.out
      go_loopw [7, 31] (fun v i wq => ∃ n : Nat, n ≤ (G1 s k).length ∧ i = .int .i64 (n : Int) ∧ Tm wq (wtS (hwS S k) (((G1 s k).map fun p => p.1).take n)) loc ∧ Off (fun b => Foot s loc b ∨ b = gk) w wq ∧
          wq.ownsRow w.heap.size 57 2 v (W ++ partL s k but n).length (flat encG (W ++ partL s k but n)) ∧ wq.ownsRow B 3 1 (.slice (some ⟨gk, 0, none⟩) K.length cap) K.length (K.map (Value.int .i64)) ∧
          wq.ownsRow w.heap.size 3 1 (.slice A2 (G1 s k).length cp2) (G1 s k).length (((G1 s k).map fun p => p.1).map (Value.int .i64)) ∧ Whole wq wr9.heap.size 63 #[.map (some (loc (.h k))), .map (some (loc (.w k)))])
        (fun _ i _ => (G1 s k).length - (intOf i).toNat)
      case atStart => exact ⟨0, by omega, rfl, HT3.out, HOF3.out, by simpa [partL] using HWK3.out, HKK3.out, ⟨hgi.1, hgi.2.imp_right fun ⟨g, cap, cur, h1, h2, h3⟩ => ⟨g, cap, cur, h1, Nat.le_trans (Nat.le_trans hws HB1.out.size) h2, h3⟩⟩, HRB3.out⟩
      case round =>
        obtain ⟨n, hn2, rfl, hT, hof, hwk, hkk, hgv, hrb⟩ := hrel
        have HTQ := Lib.hid hT
        have HOQ := Lib.hid hof
        have HWQ := Lib.hid hwk
        have HKQ := Lib.hid hkk
        have HGQ := Lib.hid hgv
        have HRQ := Lib.hid hrb
        have hwr := hof.size
        clear hT hof hwk hkk hgv hrb hgi HT3 HOF3 HWK3 HKK3 HGV3 HRB3 HMH3
        by_cases hlt2 : n < (G1 s k).length
        · obtain ⟨x, hxn⟩ : ∃ x, ((G1 s k).map fun p => p.1)[n]? = some x := ⟨_, List.getElem?_eq_getElem (by rw [List.length_map]; exact hlt2)⟩
          have hxmem : ∃ b, (x, b) ∈ G1 s k := by
            obtain ⟨p, hp, e⟩ := List.mem_map.1 (List.mem_of_getElem? hxn)
            exact ⟨p.2, by rw [← e]; exact hp⟩
          obtain ⟨bb, hxb⟩ := hxmem
          have hxi : S.inn x = true := HGX.out x bb hxb
          have hx64 : W64 x := by have := HMID.out.inn64 x hxi; unfold W64; omega
          obtain ⟨b2, off2, hA2, -, hc2⟩ := (Sees.own HGQ.out).2 (by omega)
          subst hA2
          have q0 := hc2 n (.int .i64 x) (by rw [List.getElem?_map, hxn]; rfl)
          have HXI : Hid ((wtS (hwS S k) (((G1 s k).map fun p => p.1).take n)).inn x = true) := Lib.hid hxi
          have HTS : Hid (((G1 s k).map fun p => p.1).take (n + 1) = ((G1 s k).map fun p => p.1).take n ++ [x]) := Lib.hid (by rw [List.take_add_one, hxn]; rfl)
          have HPS := Lib.hid (part_step s k but n x hxn)
          have hpl := part_len s k but n
          obtain ⟨c0, c1, cz⟩ := HTQ.out.face
          have hl := (HTQ.out.pars hx64).2
          rw [parF_in HXI.out] at hl
          obtain ⟨p0, p1, p2, pf1, pf2, pz⟩ := HTQ.out.pcells HXI.out
          have hfp : Foot s loc (loc (.p x)) := HPIN.out (.p x) (by show s.inn x = true; rw [← HINN.out]; exact hxi)
          have hlp := HLOW.out _ hfp
          have ho5 : Off (fun b => b = loc (.p x)) wr (wr.setCell ⟨loc (.p x), 1, none⟩ (.bool false)) := (Off.refl (fun b => b = loc (.p x)) wr).set (p := ⟨loc (.p x), 1, none⟩) (.inl rfl) (.bool false)
          have HT5 := Lib.hid (HTQ.out.setwt HXI.out false)
          have HO5 := Lib.hid (HOQ.out.trans (off_more ho5 fun i hi => by subst hi; exact .inl hfp))
          have HW5 := Lib.hid (own_off HWQ.out ho5 fun b hb e => by have := (HWQ.out.lt b hb).1; omega)
          have HK5 := Lib.hid (own_off HKQ.out ho5 fun b hb e => by
            have : gk = b := by simpa [Value.ownBlock] using hb
            subst this
            exact HGF.out (e ▸ hfp))
          have HG5 := Lib.hid (own_off HGQ.out ho5 fun b hb e => by have := (HGQ.out.lt b hb).1; omega)
          have HR5 := Lib.hid (ho5.whole HRQ.out (by omega))
          have hws5 := HO5.out.size
          have hlw9 : (W ++ partL s k but n).length ≤ 8192 * 1000000 + 1000000 := by rw [List.length_append]; omega
          clear hxn hxb hxi hc2 ho5 hfp
          by_cases hbu : x = but
          · have q1 : (x != but) = false := by simpa using hbu
            rw [q1] at HPS
            subst hbu
            clear q1
            go_wp2_with fail
            go_roundw
            case rel => exact ⟨n + 1, by omega, by go_num, by rw [HTS.out, wtS_snoc]; exact HT5.out, HO5.out, by rw [HPS.out]; simpa using HW5.out, HK5.out, HG5.out, HR5.out⟩
            case measure => simp [intOf]; omega
          · have q1 : (x != but) = true := by simpa using hbu
            rw [q1] at HPS
            obtain ⟨WP, hWP⟩ : ∃ WP, W ++ partL s k but n = WP := ⟨_, rfl⟩
            have HWP : Hid (W ++ partL s k but (n + 1) = WP ++ [(x, k)]) := Lib.hid (by rw [HPS.out, ← hWP]; simp)
            rw [hWP] at HW5 hlw9
            clear hWP HPS HWQ
            have HBA := Lib.hid ((Below.refl (wr.setCell ⟨loc (.p x), 1, none⟩ (.bool false)).heap.size (wr.setCell ⟨loc (.p x), 1, none⟩ (.bool false))).alloc (Nat.le_refl _) (.cells #[.int .i64 x, .int .i64 k] 57))
            have HW6 := Lib.hid (HW5.out.alloc (.cells #[.int .i64 x, .int .i64 k] 57))
            have HSE : Hid (Sees ((wr.setCell ⟨loc (.p x), 1, none⟩ (.bool false)).alloc (.cells #[.int .i64 x, .int .i64 k] 57)) (wr.heap.size + 1) 2 (some ⟨wr.heap.size, 0, none⟩) 1 (flat encG [(x, k)])) := Lib.hid (by
              have := sees_grant (wr.setCell ⟨loc (.p x), 1, none⟩ (.bool false)) (wr.setCell ⟨loc (.p x), 1, none⟩ (.bool false)).heap.size rfl x k
              simpa using this)
            obtain ⟨A7, cp7, hv7, r71, r72, r73⟩ := own_slice0 HW6.out
            rw [hv7] at HW6
            subst hv7
            go_wp2_with (at_builtin; refine wpList_appG rfl (.tmp 46) (.tmp 50) _ 57 _ 2 16 rfl info_grant Try.underlying32 rfl (by decide) w.heap.size (.slice A7 (WP).length cp7) (WP).length (flat encG (WP)) rfl HW6.out _ _ 1 1 (flat encG [(x, k)]) rfl HSE.out (fun h => by cases h) (encG_one _) (by omega) (by omega) (by simp; omega) ?_)
            intro v8 y8 ho8 hg8
            have hof8 := off_of_grown hg8
            have HT8 := Lib.hid ((HT5.out.call HBA.out).off hof8 fun b hb e => by
              have h9 := (HW6.out.lt b e).1
              have h10 : Foot s loc b := by
                obtain ⟨a, ha, rfl⟩ := hb
                exact ⟨a, HLS.out a (by cases a <;> exact ha), rfl⟩
              have := HLOW.out b h10
              omega)
            have HO8 := Lib.hid ((HO5.out.call HBA.out).grown hg8 fun g hg => .inr ((HW6.out.lt g hg).1))
            have HK8 := Lib.hid (own_unlike (own_keep HK5.out HBA.out (Nat.le_refl _)) HW6.out (by decide) hg8)
            have HG8 := Lib.hid (own_unlike (own_keep HG5.out HBA.out (Nat.le_refl _)) HW6.out (by decide) hg8)
            have HR8 := Lib.hid (hof8.whole (HR5.out.below HBA.out HR5.out.lt) (whole_own_ne (HR5.out.below HBA.out HR5.out.lt) HW6.out (by decide)))
            have HW8 := Lib.hid ho8
            clear ho8 hg8 hof8
            go_wp2_with fail
            go_roundw
            case rel => exact ⟨n + 1, by omega, by go_num, by rw [HTS.out, wtS_snoc]; exact HT8.out, HO8.out, by rw [HWP.out, List.length_append, flat_append]; exact HW8.out, HK8.out, HG8.out, HR8.out⟩
            case measure => simp [intOf]; omega
        · obtain rfl : n = (G1 s k).length := by omega
          have HFIN : Hid (((G1 s k).map fun p => p.1).take (G1 s k).length = (G1 s k).map fun p => p.1) := Lib.hid (List.take_of_length_le (by rw [List.length_map]; exact Nat.le_refl _))
          have HT9 : Hid (Tm wr (wtS (hwS S k) ((G1 s k).map fun p => p.1)) loc) := Lib.hid (by have := HTQ.out; rwa [HFIN.out] at this)
          have HRW9 : Hid ((wtS (hwS S k) ((G1 s k).map fun p => p.1)).row k = true) := Lib.hid HRW.out
          have hmh : Mh wr (loc (.h k)) (setL (S.h k) (G1 s k)) := by
            have : Mh wr (loc (.h k)) ((wtS (hwS S k) ((G1 s k).map fun p => p.1)).h k) := HT9.out.has (.h k) HRW9.out
            have e : (wtS (hwS S k) ((G1 s k).map fun p => p.1)).h k = setL (S.h k) (G1 s k) := by
              show upd S.h k (setL (S.h k) (G1 S k)) k = _
              rw [upd_same, HG1.out]
            rwa [e] at this
          have hmo : Moh wr (some (loc (.h k))) (setL (S.h k) (G1 s k)) := .inr ⟨_, rfl, hmh⟩
          have hfs := fin_hF hmh.fin
          have hsz := size_zero hfs
          have HSP := Lib.hid (supp_hF _ hfs)
          have hrq := HRQ.out.cell 0
          have hrz := HRQ.out.lt
          simp only [List.getElem?_toArray, List.getElem?_cons_zero] at hrq
          have HGK : Hid (∀ bd : Bool, (decide (∃ x, (setL (S.h k) (G1 s k) x).isSome = true)) = bd → giveS s (K.take (j + 1)) = { wtS (hwS S k) ((G1 s k).map fun p => p.1) with row := upd S.row k bd }) := Lib.hid fun bd hbd => by
            rw [HGS.out, giveK_eq, HG1.out, hbd]
          have HWR : Hid (wokeL s (K.take (j + 1)) but = W ++ partL s k but (G1 s k).length) := Lib.hid HWS.out
          clear HTQ hfs hmh
          have HROWS : Hid (Mv rE wr (loc .rows) (rowF (wtS (hwS S k) ((G1 s k).map fun p => p.1)) loc)) := Lib.hid (HT9.out.has .rows rfl)
          obtain ⟨c0, c1, cz⟩ := HT9.out.face
          by_cases hz : (supp (setL (S.h k) (G1 s k))).length = 0
          · have HZ := Lib.hid (hsz.1 hz)
            have hz2 : (((supp (hF (setL (S.h k) (G1 s k)))).length : Nat) : Int) = 0 := by rw [HSP.out, hz]; rfl
            have hz3 : ((((supp (hF (setL (S.h k) (G1 s k)))).length : Nat) : Int) == 0) = true := by rw [hz2]; rfl
            clear hz hz2 hsz
            go_wp2_with (first
              | (at_len; refine wpList_len_mo _ rfl _ 61 rfl 60 Try.underlying61 rfl hmo ?_)
              | (at_delete; refine wpList_delete_mv _ rfl _ _ 50 rfl 63 Try.underlying50 (loc .rows) _ rfl HROWS.out k rfl hk64 ?_))
            intro w4 hm4 ho4 hs4
            clear hs4
            have HT10 := Lib.hid (HT9.out.delRow hm4 ho4)
            have hfr : Foot s loc (loc .rows) := ⟨.rows, rfl, rfl⟩
            have hlr := HLOW.out _ hfr
            have HO10 := Lib.hid (HOQ.out.trans (off_more ho4 fun i hi => by subst hi; exact .inl hfr))
            have HW10 := Lib.hid (own_off HWQ.out ho4 fun b hb e => by have := (HWQ.out.lt b hb).1; omega)
            have HK10 := Lib.hid (own_off HKQ.out ho4 fun b hb e => by
              have : gk = b := by simpa [Value.ownBlock] using hb
              subst this
              exact HGF.out (e ▸ hfr))
            clear hm4 ho4 hfr
            go_wp2_with fail
            go_roundw
            case rel => exact ⟨j + 1, by omega, by go_num, by rw [HGK.out false (decide_eq_false HZ.out)]; exact HT10.out, HO10.out, by rw [HWR.out]; exact HW10.out, HK10.out⟩
            case measure => simp [intOf]; omega
          · have HZ : Hid (∃ x, (setL (S.h k) (G1 s k) x).isSome = true) := Lib.hid (Classical.byContradiction fun h => hz (hsz.2 h))
            have hz3 : ((((supp (hF (setL (S.h k) (G1 s k)))).length : Nat) : Int) == 0) = false := by
              rw [HSP.out, beq_eq_false_iff_ne]
              intro h
              exact hz (by omega)
            clear hz hsz
            have HT10 : Hid (Tm wr { wtS (hwS S k) ((G1 s k).map fun p => p.1) with row := upd S.row k true } loc) := Lib.hid (by
              have e : upd S.row k true = S.row := by rw [← HRW.out]; exact upd_id _ _
              rw [e]
              exact HT9.out)
            go_wp2_with (at_len; refine wpList_len_mo _ rfl _ 61 rfl 60 Try.underlying61 rfl hmo ?_)
            go_wp2_with fail
            go_roundw
            case rel => exact ⟨j + 1, by omega, by go_num, by rw [HGK.out true (decide_eq_true HZ.out)]; exact HT10.out, HOQ.out, by rw [HWR.out]; exact HWQ.out, HKQ.out⟩
            case measure => simp [intOf]; omega
    · obtain rfl : j = K.length := by omega
      rw [List.take_length] at HTR HWK
      obtain ⟨A9, cp9, hv9, -, -, -⟩ := own_slice0 HWK.out
      rw [hv9] at HWK
      subst hv9
      go_wp2_with fail
      go_ret
      exact ⟨A9, cp9, K, HKR.out, HKM.out, rfl, HTR.out, HOF.out, HWK.out⟩
end Go.Proofs.Ytcjefigcaifmeaa
