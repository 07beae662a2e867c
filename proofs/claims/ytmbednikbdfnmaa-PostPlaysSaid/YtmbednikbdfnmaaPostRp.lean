/- Contracts of the document's net: Purge. -/
import Derived.Test.YtmbednikbdfnmaaPostRw
namespace Go.Proofs.Ytmbednikbdfnmaa
open Go.RowKit Go.Po Go.Maps
set_option linter.unusedVariables false
set_option linter.unusedSimpArgs false
set_option maxRecDepth 100000

set_option maxHeartbeats 1000000 in
theorem rpurge_any (n : Nt (List UInt8)) (hn : Fine n) (v : Value) (i : Int) (hi : W64 i) (w : World) (hv : Rs w v n.under) :
    Calls Try.prog 51 #[.agg (rn n.nodes n.sent n.off v), .int .i64 i] w fun e w' => ∃ v', e = .returned (.tuple #[.agg (rn n.nodes n.sent n.off v'), .int .i64 (n.purge i).2]) ∧ Rg w w' v v' n.under (n.purge i).1.under ∧ Below w.heap.size w w' := by
  have hz := rzero
  have hfew := hn.few
  unfold W64 at hi
  obtain ⟨Z, hZ⟩ : ∃ Z, rn 0 0 (fun _ => false) (.slice none 0 0) = Z := ⟨_, rfl⟩
  have hZs : Z.size = 67 := by rw [← hZ]; exact rn_size
  rw [hZ] at hz
  clear hZ
  obtain ⟨A, cap, rfl, hs, h1, h2, h3⟩ := hv.lies
  have hR66 := rn_66 (nodes := n.nodes) (sent := n.sent) (off := n.off) (v := .slice A n.under.length cap)
  have hR0 := rn_0 (nodes := n.nodes) (sent := n.sent) (off := n.off) (v := .slice A n.under.length cap)
  have hRs := rn_size (nodes := n.nodes) (sent := n.sent) (off := n.off) (v := .slice A n.under.length cap)
  have hR1 := rone (nodes := n.nodes) (sent := n.sent) (off := n.off) (v := .slice A n.under.length cap) rfl
  have HV := Lib.hid hv
  have hnd := hn.nodes
  by_cases hh : n.has i
  · have HE : Hid (n.purge i = ({ n with under := n.under.filter fun l => decide (l.to ≠ i) }, 0)) := Lib.hid (by unfold Nt.purge; rw [if_pos hh])
    rw [HE.out]
    have ht := Two2.start w (rn n.nodes n.sent n.off (.slice A n.under.length cap)) Z
    have c0 := (ht.box.cell 0).trans hR0
    have HR66 := Lib.hid hR66
    have g1 := hh.1
    have g2 := hh.2
    have HS := Lib.hid (fun (w3 : World) (hb : Below w.heap.size w w3) => hs.below hb)
    have HS2 : Hid (∀ u, (rn n.nodes n.sent n.off u).size = 67) := Lib.hid fun u => rn_size
    have HO2 : Hid (∀ u, u.oneCell' = true → (rn n.nodes n.sent n.off u).all (·.oneCell') = true) := Lib.hid fun u hu => rone hu
    have HRN : Hid (∀ w3, Two2 w w3 (rn n.nodes n.sent n.off (.slice A n.under.length cap)) Z → ∀ v', Two2 w (w3.setCell ⟨w.heap.size, 66, none⟩ v') (rn n.nodes n.sent n.off v') Z) := Lib.hid fun w3 h v' => h.row
    obtain ⟨R, hR⟩ : ∃ R, rn n.nodes n.sent n.off (.slice A n.under.length cap) = R := ⟨_, rfl⟩
    rw [hR] at hRs hR1 ht HR66 HRN c0 ⊢
    have HT := Lib.hid ht
    generalize hus : n.under = us at *
    have HUS := Lib.hid hus
    clear ht hh hR hv hs hR66 hR0 hus
    generalize n.nodes = nd at *
    go_enter Try.func51, Try.ntmps51
    go_wp2_with fail
    go_loopw [6, 7] (fun o j wr => ∃ c : Nat, c ≤ us.length ∧ j = .int .i64 (c : Int) ∧ wr.ownsRow (w.heap.size + 2) 85 4 o ((us.take c).filter fun l => decide (l.to ≠ i)).length (flat (encL sP) ((us.take c).filter fun l => decide (l.to ≠ i))) ∧ Two2 w wr R Z) (fun _ j _ => us.length - (intOf j).toNat)
    case atStart =>
      refine ⟨0, by omega, rfl, ?_, HT.out.call ((Below.refl _ _).alloc (Nat.le_refl _) _)⟩
      have := own_empty ((w.alloc (.cells R 38)).alloc (.cells Z 38)) 85 4
      simpa [flat] using this
    case round =>
      obtain ⟨c, hc, rfl, ho, ht⟩ := hrel
      have HO := Lib.hid ho
      have HTR := Lib.hid ht
      have d0 := (ht.box.cell 66).trans HR66.out
      have hbs : w.heap.size + 2 ≤ wr.heap.size := by have := ht.res.lt; omega
      have hle := filter_le (fun l : Lt (List UInt8) => decide (l.to ≠ i)) us c
      obtain ⟨A5, cap5, hv5, -, -, -⟩ := own_slice0 ho
      subst hv5
      by_cases hlt : c < us.length
      · obtain ⟨y, hy⟩ : ∃ y, us[c]? = some y := ⟨_, List.getElem?_eq_getElem hlt⟩
        obtain ⟨b0, off, rfl, hbb, hcc⟩ := (HS.out wr ht.below).item (encL_len sP) (by omega) c y hy
        have q0 := hcc 0 _ rfl
        have q1 := hcc 1 _ rfl
        have q2 := hcc 2 _ rfl
        have q3 := hcc 3 _ rfl
        rw [Nat.add_zero] at q0
        have i1 : (c : Int) < (us.length : Int) := by omega
        have HN := Lib.hid (filter_next (fun l => decide (l.to ≠ i)) us c y hy)
        clear hcc hy hbb ho ht
        by_cases hyi : y.to = i
        · rw [hyi] at q2
          generalize hks : ((us.take c).filter fun l => decide (l.to ≠ i)) = ks at *
          have HKS := Lib.hid hks
          clear hks
          have hne2 : (i != i) = false := by simp
          go_wp2_with fail
          go_roundw
          case rel => exact ⟨c + 1, by omega, by go_num, by rw [HN.out, if_neg (by simp [hyi])]; exact HO.out, HTR.out⟩
          case measure => simp [intOf]; omega
        · have hne2 : (y.to != i) = true := by simpa using hyi
          have HYI := Lib.hid hyi
          clear hyi
          generalize hks : ((us.take c).filter fun l => decide (l.to ≠ i)) = ks at *
          have HKS := Lib.hid hks
          clear hks
          go_wp2_with (at_builtin; refine wpList_appG rfl (.tmp 33) (.tmp 39) _ 85 _ 4 40 rfl rinfo68 Try.underlying36 rfl (by decide) (w.heap.size + 2) _ ks.length (flat (encL sP) ks) rfl (own_keep HO.out ((Below.refl wr.heap.size wr).alloc (Nat.le_refl _) (.cells #[.int .i64 y.id, .int .i64 y.frm, .int .i64 y.to, sP y.m] 85)) (Nat.le_refl _)) (wr.heap.size + 1) (some ⟨wr.heap.size, 0, none⟩) 1 1 (encL sP y) rfl (sees_new wr wr.heap.size rfl 4 85 (encL sP y) rfl) (by intro h; cases h) (by intro u hu; exact encL_one sone [y] u (by rw [flat_one]; exact hu)) (by omega) (by omega) (by simp; omega) ?_)
          intro v7 w7 ho7 hg7
          have HO7 := Lib.hid ho7
          have HT7 : Hid (Two2 w w7 R Z) := Lib.hid (by
            have h8 := HTR.out.call ((Below.refl wr.heap.size wr).alloc (Nat.le_refl _) (.cells #[.int .i64 y.id, .int .i64 y.frm, .int .i64 y.to, sP y.m] 85))
            refine ⟨h8.box.grown hg7 fun e => ?_, h8.res.grown hg7 fun e => ?_, h8.below.grown hg7 h8.below.size fun k hk => ?_⟩
            · have := (own_lt HO.out e.symm).1; omega
            · have := (own_lt HO.out e.symm).1; omega
            · have := (own_lt HO.out hk).1; omega)
          clear ho7 hg7
          go_wp2_with fail
          go_roundw
          case rel => exact ⟨c + 1, by omega, by go_num, by rw [HN.out, if_pos (by simp [HYI.out]), List.length_append, flat_append, flat_one]; exact HO7.out, HT7.out⟩
          case measure => simp [intOf]; omega
      · have hce : c = us.length := by omega
        subst hce
        have d1 := ht.box.free 66
        have HTK : Hid ((us.take us.length).filter (fun l => decide (l.to ≠ i)) = us.filter fun l => decide (l.to ≠ i)) := Lib.hid (by rw [List.take_length])
        rw [HTK.out] at HO hle ⊢
        generalize hks : (us.filter fun l => decide (l.to ≠ i)) = ks at *
        have HKS := Lib.hid hks
        have HT3 := Lib.hid (HRN.out wr ht (.slice A5 ks.length cap5))
        have HSZ := Lib.hid (HS2.out (.slice A5 ks.length cap5))
        have HON := Lib.hid (HO2.out (.slice A5 ks.length cap5) rfl)
        generalize hm3 : ks.length = m3 at *
        have HM3 := Lib.hid hm3
        generalize hR3 : rn nd n.sent n.off (.slice A5 m3 cap5) = R3 at *
        have HR3 := Lib.hid hR3
        clear ho ht hks hm3 hR3 HS2 HO2 HRN
        go_wp2_with (first | refine wpList_loadN rfl (.tmp 2) rfl w.heap.size rfl R3 HT3.out.box HSZ.out ?_ | refine wpList_storeN rfl (.tmp 4) _ rfl (w.heap.size + 1) rfl R3 rfl Z HT3.out.res hZs HSZ.out HON.out ?_)
        refine bodyPost_ret (ret_net rfl rfl (HT3.out.res.setRow R3) HSZ.out) rfl ?_
        have hb3 := below_setRow HT3.out.below (Nat.le_succ w.heap.size) R3
        refine ⟨_, by rw [HR3.out]; rfl, ?_, hb3⟩
        have hfin := own_net (w := w) (u := .slice A5 m3 cap5) (R := R3) HO.out (Nat.le_refl _)
        have hfin2 := own_less (B' := w.heap.size) hfin (by omega)
        rw [HKS.out]
        exact .inr (by rw [HM3.out]; exact hfin2)
  · have HE : Hid (n.purge i = (n, 90)) := Lib.hid (by unfold Nt.purge; rw [if_neg hh])
    rw [HE.out]
    obtain ⟨R, hR⟩ : ∃ R, rn n.nodes n.sent n.off (.slice A n.under.length cap) = R := ⟨_, rfl⟩
    have HR := Lib.hid hR
    rw [hR] at hR66 hRs hR1 hR0 ⊢
    have ht := Two2.start w R Z
    have HT := Lib.hid ht
    have c0 := (ht.box.cell 0).trans hR0
    have hno : i < 0 ∨ (0 ≤ i ∧ n.nodes ≤ i) := by unfold Nt.has at hh; omega
    clear ht hh hR hv hs
    generalize n.nodes = nd at *
    go_enter Try.func51, Try.ntmps51
    rcases hno with hno | ⟨hno1, hno⟩
    all_goals
      go_wp2_with (first | refine wpList_loadN rfl (.tmp 2) rfl w.heap.size rfl R HT.out.box hRs ?_ | refine wpList_storeN rfl (.tmp 4) _ rfl (w.heap.size + 1) rfl R rfl Z HT.out.res hZs hRs hR1 ?_)
      refine bodyPost_ret (ret_net rfl rfl (HT.out.res.setRow R) hRs) rfl ?_
      have hb := below_setRow HT.out.below (Nat.le_succ w.heap.size) R
      exact ⟨_, by rw [HR.out]; rfl, .inl ⟨rfl, rfl⟩, hb⟩
end Go.Proofs.Ytmbednikbdfnmaa
