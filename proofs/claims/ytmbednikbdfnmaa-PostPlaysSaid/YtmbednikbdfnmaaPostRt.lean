/- Contracts of the document's net: Take. -/
import Derived.Test.YtmbednikbdfnmaaPostRw
namespace Go.Proofs.Ytmbednikbdfnmaa
open Go.RowKit Go.Po Go.Maps
set_option linter.unusedVariables false
set_option linter.unusedSimpArgs false
set_option maxRecDepth 100000

theorem wpList_storeL {ops : Array Oper} {rest : List Oper} {o : Oper} {a : Act} {w : World} {Q : Exit → Act → World → Prop} (hgd : o.guard = none) (x y : Operand) (ho : o.op = .store 85 x y)
    (b : Nat) (hx : a.eval x = .pointer (some ⟨b, 0, none⟩)) (cs : Array Value) (hy : a.eval y = .agg cs) (old : Array Value) (hw : Whole w b 85 old) (ho' : old.size = 4) (hs : cs.size = 4) (h1 : cs.all (·.oneCell') = true)
    (h : wpList Try.prog ops Q rest (a.put o.dst undef) (w.setRow b cs)) : wpList Try.prog ops Q (o :: rest) a w :=
  wpList_plain hgd fun _ hK => wp_store_row 85 x y ho b cs hx hy 85 old hw (by rw [hs]; kernel_rfl) (by rw [ho', hs]) h1 (hK _ _ h)
theorem ret_take {fn : Func} {p q u : Tmp} (h : fn.results = #[.cell p 38, .cell q 85, .tmp u]) {tmps : Array Value} {w : World} {b c : Nat} {R cs : Array Value} (hp : tmps.getD p undef = .pointer (some ⟨b, 0, none⟩)) (hw : Whole w b 38 R) (hs : R.size = 67)
    (hq : tmps.getD q undef = .pointer (some ⟨c, 0, none⟩)) (hw2 : Whole w c 85 cs) (hs2 : cs.size = 4) : (results fn tmps).run Try.prog w = .ok (.tuple #[.agg R, .agg cs, tmps.getD u undef]) w := by
  have hl : (loadVar 85 ⟨c, 0, none⟩).run Try.prog w = .ok (.agg cs) w :=
    run_loadVar_row w c 85 85 cs (0, 0) _ hw2 Try.underlying85 rfl (by rw [hs2]; kernel_rfl)
  simp only [results, h]
  simp [Sem.run_bind, Result.andThen, asAddr, hp, hq, rload hw hs, hl]
  simp at hp hq
  simp [hp, hq, rload hw hs, hl]
/-- A net is stored into a block, and a letter into another one. -/
theorem two_stored {w3 : World} {b c B : Nat} {w : World} {R Z cs : Array Value} (hb : Whole w3 b 38 Z) (hc : Whole w3 c 85 cs) (hne : b ≠ c) (hs : cs.size = 4) (a0 a1 a2 a3 : Value) (hbl : Below B w w3) (hB : B ≤ b) (hC : B ≤ c) :
    Whole (((((w3.setRow b R).setCell ⟨c, 0, none⟩ a0).setCell ⟨c, 1, none⟩ a1).setCell ⟨c, 2, none⟩ a2).setCell ⟨c, 3, none⟩ a3) b 38 R ∧
    Whole (((((w3.setRow b R).setCell ⟨c, 0, none⟩ a0).setCell ⟨c, 1, none⟩ a1).setCell ⟨c, 2, none⟩ a2).setCell ⟨c, 3, none⟩ a3) c 85 #[a0, a1, a2, a3] ∧
    Below B w (((((w3.setRow b R).setCell ⟨c, 0, none⟩ a0).setCell ⟨c, 1, none⟩ a1).setCell ⟨c, 2, none⟩ a2).setCell ⟨c, 3, none⟩ a3) := by
  refine ⟨((((hb.setRow R).away (p := ⟨c, 0, none⟩) hne a0).away (p := ⟨c, 1, none⟩) hne a1).away (p := ⟨c, 2, none⟩) hne a2).away (p := ⟨c, 3, none⟩) hne a3, ?_, ((((below_setRow hbl hB R).setCell (p := ⟨c, 0, none⟩) hC a0).setCell (p := ⟨c, 1, none⟩) hC a1).setCell (p := ⟨c, 2, none⟩) hC a2).setCell (p := ⟨c, 3, none⟩) hC a3⟩
  have h := ((((hc.rowAway (Ne.symm hne) R).set 0 a0).set 1 a1).set 2 a2).set 3 a3
  have e : (((cs.setIfInBounds 0 a0).setIfInBounds 1 a1).setIfInBounds 2 a2).setIfInBounds 3 a3 = #[a0, a1, a2, a3] := by
    obtain ⟨l⟩ := cs
    match l, hs with
    | [x0, x1, x2, x3], _ => rfl
  rw [e] at h
  exact h
set_option maxHeartbeats 4000000 in
theorem rtake_any (n : Nt (List UInt8)) (hn : Fine n) (v : Value) (i : Int) (hi : W64 i) (w : World) (hv : Rs w v n.under) :
    Calls Try.prog 47 #[.agg (rn n.nodes n.sent n.off v), .int .i64 i] w fun e w' => ∃ v', e = .returned (.tuple #[.agg (rn n.nodes n.sent n.off v'), .agg (encO (n.take i).2.1).toArray, .int .i64 (n.take i).2.2]) ∧ Rg w w' v v' n.under (n.take i).1.under ∧ Below w.heap.size w w' := by
  have hz := rzero
  have hfew := hn.few
  unfold W64 at hi
  obtain ⟨Z, hZ⟩ : ∃ Z, rn 0 0 (fun _ => false) (.slice none 0 0) = Z := ⟨_, rfl⟩
  have hZs : Z.size = 67 := by rw [← hZ]; exact rn_size
  rw [hZ] at hz
  clear hZ
  obtain ⟨A, cap, rfl, hs, h1, h2, h3⟩ := hv.lies
  have hR66 := rn_66 (nodes := n.nodes) (sent := n.sent) (off := n.off) (v := .slice A n.under.length cap)
  have hRs := rn_size (nodes := n.nodes) (sent := n.sent) (off := n.off) (v := .slice A n.under.length cap)
  have hR1 := rone (nodes := n.nodes) (sent := n.sent) (off := n.off) (v := .slice A n.under.length cap) rfl
  have HV := Lib.hid hv
  rcases n.number i with ⟨hh, hor⟩ | ⟨k, l, rfl, hk, hl, hh⟩
  · have HE : Hid (n.take i = (n, none, 92)) := Lib.hid (by
      unfold Nt.take
      rcases hor with h | h
      · split
        · rw [if_pos h]
        · rfl
      · rw [h])
    rw [HE.out]
    obtain ⟨R, hR⟩ : ∃ R, rn n.nodes n.sent n.off (.slice A n.under.length cap) = R := ⟨_, rfl⟩
    have HR := Lib.hid hR
    rw [hR] at hR66 hRs hR1 ⊢
    have ht := (Two2.start w R Z).call ((Below.refl _ _).alloc (Nat.le_refl _) (.cells #[.int .i64 0, .int .i64 0, .int .i64 0, .string ⟨#[]⟩] 85))
    have hlz : Whole (((w.alloc (.cells R 38)).alloc (.cells Z 38)).alloc (.cells #[.int .i64 0, .int .i64 0, .int .i64 0, .string ⟨#[]⟩] 85)) (w.heap.size + 2) 85 #[.int .i64 0, .int .i64 0, .int .i64 0, .string ⟨#[]⟩] := by simpa using Whole.fresh ((w.alloc (.cells R 38)).alloc (.cells Z 38)) 85 #[.int .i64 0, .int .i64 0, .int .i64 0, .string ⟨#[]⟩]
    have HT := Lib.hid ht
    have HLZ := Lib.hid hlz
    have c0 := (ht.box.cell 66).trans hR66
    have hz3 := hlz.rowAway (show w.heap.size + 2 ≠ w.heap.size + 1 by omega) R
    obtain ⟨z0, z1, z2, z3⟩ := (show _ ∧ _ ∧ _ ∧ _ from ⟨hz3.cell 0, hz3.cell 1, hz3.cell 2, hz3.cell 3⟩)
    obtain ⟨y0, y1, y2, y3⟩ := (show _ ∧ _ ∧ _ ∧ _ from ⟨hz3.free 0, hz3.free 1, hz3.free 2, hz3.free 3⟩)
    have hno : i < 0 ∨ (0 ≤ i ∧ (n.under.length : Int) ≤ i) := by unfold Nt.holds at hh; omega
    clear ht hh hR hv hs hlz hz3 hor
    generalize hun : n.under.length = m at *
    have HUN := Lib.hid hun
    clear hun
    go_enter Try.func47, Try.ntmps47
    rcases hno with hno | ⟨hno1, hno⟩
    all_goals
      go_wp2_with (first | refine wpList_loadN rfl (.tmp 2) rfl w.heap.size rfl R HT.out.box hRs ?_ | refine wpList_storeN rfl (.tmp 4) _ rfl (w.heap.size + 1) rfl R rfl Z HT.out.res hZs hRs hR1 ?_)
      obtain ⟨f1, f2, f3⟩ := two_stored (R := R) HT.out.res HLZ.out (show w.heap.size + 1 ≠ w.heap.size + 2 by omega) rfl (.int .i64 0) (.int .i64 0) (.int .i64 0) (.string ⟨#[]⟩) HT.out.below (Nat.le_succ _) (Nat.le_add_right _ _)
      refine bodyPost_ret (ret_take rfl rfl f1 hRs rfl f2 rfl) rfl ?_
      exact ⟨_, by rw [HR.out]; rfl, .inl ⟨rfl, rfl⟩, f3⟩
  · have hg := hn.good l (List.mem_of_getElem? hl)
    have hnd := hn.nodes
    obtain ⟨id, fr, to, m⟩ := l
    obtain ⟨f, rfl⟩ : ∃ f : Nat, fr = (f : Int) := ⟨fr.toNat, by have := hg.frm; simp only at this; omega⟩
    obtain ⟨t, rfl⟩ : ∃ t : Nat, to = (t : Int) := ⟨to.toNat, by have := hg.to; simp only at this; omega⟩
    have f64 : f < 64 := by have := hg.frm; simp only at this; omega
    have t64 : t < 64 := by have := hg.to; simp only at this; omega
    have hRf := rn_off (nodes := n.nodes) (sent := n.sent) (off := n.off) (v := .slice A n.under.length cap) f64
    have hRt := rn_off (nodes := n.nodes) (sent := n.sent) (off := n.off) (v := .slice A n.under.length cap) t64
    have HE0 : Hid (n.off (f : Int) = true → n.take k = (n, none, 93)) := Lib.hid (fun h => by unfold Nt.take; rw [show ((k : Int)).toNat = k by omega, hl]; simp only []; rw [if_neg (by omega), if_pos (by rw [h]; rfl)])
    have HE1 : Hid (n.off (f : Int) = false → n.off (t : Int) = true → n.take k = (n, none, 93)) := Lib.hid (fun h h2 => by unfold Nt.take; rw [show ((k : Int)).toNat = k by omega, hl]; simp only []; rw [if_neg (by omega), if_pos (by rw [h, h2]; rfl)])
    have HE2 : Hid (n.off (f : Int) = false → n.off (t : Int) = false → n.take k = (n.drop k, some ⟨id, f, t, m⟩, 0)) := Lib.hid (fun h h2 => by unfold Nt.take; rw [show ((k : Int)).toNat = k by omega, hl]; simp only []; rw [if_neg (by omega), if_neg (by rw [h, h2]; simp)])
    obtain ⟨b0, off0, rfl, hbb, hcc⟩ := hs.item (encL_len sP) (by omega) k _ hl
    have HRN : Hid (∀ w3, Two2 w w3 (rn n.nodes n.sent n.off (.slice (some ⟨b0, off0, none⟩) n.under.length cap)) Z → ∀ v', Two2 w (w3.setCell ⟨w.heap.size, 66, none⟩ v') (rn n.nodes n.sent n.off v') Z) := Lib.hid fun w3 h v' => h.row
    have HS2 : Hid (∀ u, (rn n.nodes n.sent n.off u).size = 67) := Lib.hid fun u => rn_size
    have HO2 : Hid (∀ u, u.oneCell' = true → (rn n.nodes n.sent n.off u).all (·.oneCell') = true) := Lib.hid fun u hu => rone hu
    obtain ⟨R, hR⟩ : ∃ R, rn n.nodes n.sent n.off (.slice (some ⟨b0, off0, none⟩) n.under.length cap) = R := ⟨_, rfl⟩
    have HR := Lib.hid hR
    rw [hR] at hR66 hRs hR1 hRf hRt HRN ⊢
    have ht3 := (Two2.start w R Z).call ((Below.refl _ _).alloc (Nat.le_refl _) (.cells #[.int .i64 0, .int .i64 0, .int .i64 0, .string ⟨#[]⟩] 85))
    have hlz3 : Whole (((w.alloc (.cells R 38)).alloc (.cells Z 38)).alloc (.cells #[.int .i64 0, .int .i64 0, .int .i64 0, .string ⟨#[]⟩] 85)) (w.heap.size + 2) 85 #[.int .i64 0, .int .i64 0, .int .i64 0, .string ⟨#[]⟩] := by simpa using Whole.fresh ((w.alloc (.cells R 38)).alloc (.cells Z 38)) 85 #[.int .i64 0, .int .i64 0, .int .i64 0, .string ⟨#[]⟩]
    have ht := ht3.call ((Below.refl _ _).alloc (Nat.le_refl _) (.cells #[.int .i64 id, .int .i64 (f : Int), .int .i64 (t : Int), .string (txt m)] 85))
    have hlz := hlz3.alloc (.cells #[.int .i64 id, .int .i64 (f : Int), .int .i64 (t : Int), .string (txt m)] 85)
    have hx4 : Whole ((((w.alloc (.cells R 38)).alloc (.cells Z 38)).alloc (.cells #[.int .i64 0, .int .i64 0, .int .i64 0, .string ⟨#[]⟩] 85)).alloc (.cells #[.int .i64 id, .int .i64 (f : Int), .int .i64 (t : Int), .string (txt m)] 85)) (w.heap.size + 3) 85 #[.int .i64 id, .int .i64 (f : Int), .int .i64 (t : Int), .string (txt m)] := by simpa using Whole.fresh (((w.alloc (.cells R 38)).alloc (.cells Z 38)).alloc (.cells #[.int .i64 0, .int .i64 0, .int .i64 0, .string ⟨#[]⟩] 85)) 85 #[.int .i64 id, .int .i64 (f : Int), .int .i64 (t : Int), .string (txt m)]
    have HT := Lib.hid ht
    have HLZ := Lib.hid hlz
    have HX4 := Lib.hid hx4
    have hbel := ht3.below
    have q0 := (hbel.cell (p := ⟨b0, off0 + k * 4 + 0, none⟩) hbb).trans (hcc 0 _ rfl)
    have q1 := (hbel.cell (p := ⟨b0, off0 + k * 4 + 1, none⟩) hbb).trans (hcc 1 _ rfl)
    have q2 := (hbel.cell (p := ⟨b0, off0 + k * 4 + 2, none⟩) hbb).trans (hcc 2 _ rfl)
    have q3 := (hbel.cell (p := ⟨b0, off0 + k * 4 + 3, none⟩) hbb).trans (hcc 3 _ rfl)
    rw [Nat.add_zero] at q0
    have p0 := (ht3.box.cell 66).trans hR66
    have c0 := (ht.box.cell 66).trans hR66
    have c1 := (ht.box.cell (2 + f)).trans hRf
    have c2 := (ht.box.cell (2 + t)).trans hRt
    have HR66 := Lib.hid hR66
    have HWI := Lib.hid (without_any (.slice (some ⟨b0, off0, none⟩) n.under.length cap) n.under k hk hfew _ (hv.call ht.below))
    have k1 : (k : Int) < (n.under.length : Int) := by omega
    have k2 : ¬ ((n.under.length : Int) ≤ (k : Int)) := by omega
    have k3 : (f : Int) < 64 := by omega
    have k4 : (t : Int) < 64 := by omega
    have kn : decide ((k : Int) < 0) = false := decide_eq_false (by omega)
    generalize hof : n.off (f : Int) = of at *
    generalize hot : n.off (t : Int) = ot at *
    clear hof hot ht ht3 hh hR hs hl hR66 hlz hlz3 hx4 hcc hbel hv hg
    have arms : of = true ∨ (of = false ∧ ot = true) ∨ (of = false ∧ ot = false) := by cases of <;> cases ot <;> simp
    rcases arms with rfl | ⟨rfl, rfl⟩ | ⟨rfl, rfl⟩
    · rw [HE0.out rfl]
      have hz3 := HLZ.out.rowAway (show w.heap.size + 2 ≠ w.heap.size + 1 by omega) R
      obtain ⟨z0, z1, z2, z3⟩ := (show _ ∧ _ ∧ _ ∧ _ from ⟨hz3.cell 0, hz3.cell 1, hz3.cell 2, hz3.cell 3⟩)
      obtain ⟨y0, y1, y2, y3⟩ := (show _ ∧ _ ∧ _ ∧ _ from ⟨hz3.free 0, hz3.free 1, hz3.free 2, hz3.free 3⟩)
      have hx4 := HX4.out
      obtain ⟨x0, x1, x2, x3⟩ := (show _ ∧ _ ∧ _ ∧ _ from ⟨hx4.cell 0, hx4.cell 1, hx4.cell 2, hx4.cell 3⟩)
      clear hz3 hx4 HWI
      go_enter Try.func47, Try.ntmps47
      go_wp2_with (first | refine wpList_loadN rfl (.tmp 2) rfl w.heap.size rfl R HT.out.box hRs ?_ | refine wpList_storeN rfl (.tmp 4) _ rfl (w.heap.size + 1) rfl R rfl Z HT.out.res hZs hRs hR1 ?_)
      obtain ⟨f1, f2, f3⟩ := two_stored (R := R) HT.out.res HLZ.out (show w.heap.size + 1 ≠ w.heap.size + 2 by omega) rfl (.int .i64 0) (.int .i64 0) (.int .i64 0) (.string ⟨#[]⟩) HT.out.below (Nat.le_succ _) (Nat.le_add_right _ _)
      refine bodyPost_ret (ret_take rfl rfl f1 hRs rfl f2 rfl) rfl ?_
      exact ⟨_, by rw [HR.out]; rfl, .inl ⟨rfl, rfl⟩, f3⟩
    · rw [HE1.out rfl rfl]
      have hz3 := HLZ.out.rowAway (show w.heap.size + 2 ≠ w.heap.size + 1 by omega) R
      obtain ⟨z0, z1, z2, z3⟩ := (show _ ∧ _ ∧ _ ∧ _ from ⟨hz3.cell 0, hz3.cell 1, hz3.cell 2, hz3.cell 3⟩)
      obtain ⟨y0, y1, y2, y3⟩ := (show _ ∧ _ ∧ _ ∧ _ from ⟨hz3.free 0, hz3.free 1, hz3.free 2, hz3.free 3⟩)
      have hx4 := HX4.out
      obtain ⟨x0, x1, x2, x3⟩ := (show _ ∧ _ ∧ _ ∧ _ from ⟨hx4.cell 0, hx4.cell 1, hx4.cell 2, hx4.cell 3⟩)
      clear hz3 hx4 HWI
      go_enter Try.func47, Try.ntmps47
      go_wp2_with (first | refine wpList_loadN rfl (.tmp 2) rfl w.heap.size rfl R HT.out.box hRs ?_ | refine wpList_storeN rfl (.tmp 4) _ rfl (w.heap.size + 1) rfl R rfl Z HT.out.res hZs hRs hR1 ?_)
      obtain ⟨f1, f2, f3⟩ := two_stored (R := R) HT.out.res HLZ.out (show w.heap.size + 1 ≠ w.heap.size + 2 by omega) rfl (.int .i64 0) (.int .i64 0) (.int .i64 0) (.string ⟨#[]⟩) HT.out.below (Nat.le_succ _) (Nat.le_add_right _ _)
      refine bodyPost_ret (ret_take rfl rfl f1 hRs rfl f2 rfl) rfl ?_
      exact ⟨_, by rw [HR.out]; rfl, .inl ⟨rfl, rfl⟩, f3⟩
    · rw [HE2.out rfl rfl]
      go_enter Try.func47, Try.ntmps47
      go_wp2_with fail
      refine HWI.out.mono ?_
      rintro e w5 ⟨v', rfl, ho, hb⟩
      have ht5 := HT.out.call hb
      have d0 := (ht5.box.cell 66).trans HR66.out
      have d1 := ht5.box.free 66
      obtain ⟨A3, cap3, rfl, g1, g2, g3⟩ := own_slice0 ho
      have HT3 := Lib.hid (HRN.out w5 ht5 (.slice A3 (n.under.take k ++ n.under.drop (k + 1)).length cap3))
      have HO3 := Lib.hid ho
      have HSZ := Lib.hid (HS2.out (.slice A3 (n.under.take k ++ n.under.drop (k + 1)).length cap3))
      have HON := Lib.hid (HO2.out (.slice A3 (n.under.take k ++ n.under.drop (k + 1)).length cap3) rfl)
      have HLZ5 := Lib.hid (HLZ.out.below hb HLZ.out.lt)
      have HX5 := Lib.hid (HX4.out.below hb HX4.out.lt)
      generalize hl3 : (n.under.take k ++ n.under.drop (k + 1)).length = m3 at *
      have HL3 := Lib.hid hl3
      generalize hR3 : rn n.nodes n.sent n.off (.slice A3 m3 cap3) = R3 at *
      have HR3 := Lib.hid hR3
      clear ht5 ho hb HWI HS2 HO2 hl3 hR3 q0 q1 q2 q3 p0 c0 c1 c2
      go_wp2_with fail
      -- REG
      have HT6 : Hid (Two2 w (w5.setCell ⟨w.heap.size, 66, none⟩ (.slice A3 m3 cap3)) R3 Z) := Lib.hid HT3.out
      have HX6 : Hid (Whole _ (w.heap.size + 1 + 1 + 1) _ _) := Lib.hid (HX5.out.away (p := ⟨w.heap.size, 66, none⟩) (show w.heap.size + 3 ≠ w.heap.size by omega) (.slice A3 m3 cap3))
      have HLZ6 : Hid (Whole _ (w.heap.size + 1 + 1) _ _) := Lib.hid (HLZ5.out.away (p := ⟨w.heap.size, 66, none⟩) (show w.heap.size + 2 ≠ w.heap.size by omega) (.slice A3 m3 cap3))
      have HO6 : Hid ((w5.setCell ⟨w.heap.size, 66, none⟩ (.slice A3 m3 cap3)).ownsRow _ 85 4 (.slice A3 m3 cap3) m3 (flat (encL sP) (n.under.take k ++ n.under.drop (k + 1)))) := Lib.hid (own_at HO3.out fun b hb => Below.heap_setCell w5 ⟨w.heap.size, 66, none⟩ _ b (show b ≠ w.heap.size by have := (own_lt HO3.out hb).1; simp at this; omega))
      generalize w5.setCell ⟨w.heap.size, 66, none⟩ (.slice A3 m3 cap3) = w6 at *
      clear HT3 HX5 HLZ5
      generalize hxb : w.heap.size + 1 + 1 + 1 = xb at *
      generalize hlb : w.heap.size + 1 + 1 = lb at *
      have HXB := Lib.hid hxb
      have HLB := Lib.hid hlb
      clear hxb hlb
      refine Iv.region (fun fl aa y => aa = ⟨#[.agg R, .int .i64 (k : Int), .pointer (some ⟨w.heap.size, 0, none⟩), undef, .pointer (some ⟨w.heap.size + 1, 0, none⟩), .pointer (some ⟨lb, 0, none⟩), .int .i64 0, .pointer (some ⟨xb, 0, none⟩), .int .i64 (k : Int), .bool false, .bool false, .int .i64 (k : Int), .pointer (some ⟨w.heap.size, 66, none⟩), .slice (some ⟨b0, off0, none⟩) n.under.length cap, .int .i64 (n.under.length : Int), .bool false, .bool false, undef, undef, .pointer (some ⟨w.heap.size, 66, none⟩), .slice (some ⟨b0, off0, none⟩) n.under.length cap, .int .i64 (k : Int), .pointer (some ⟨b0, off0 + k * 4, none⟩), .agg #[.int .i64 id, .int .i64 (f : Int), .int .i64 (t : Int), sP m], .pointer (some ⟨xb, 1, none⟩), .int .i64 (f : Int), .pointer (some ⟨w.heap.size, 2, none⟩), .pointer (some ⟨w.heap.size, 2 + f, none⟩), .bool false, .bool false, .pointer (some ⟨xb, 2, none⟩), .int .i64 (t : Int), .pointer (some ⟨w.heap.size, 2, none⟩), .pointer (some ⟨w.heap.size, 2 + t, none⟩), .bool false, .bool false, undef, undef, .pointer (some ⟨w.heap.size, 66, none⟩), .slice (some ⟨b0, off0, none⟩) n.under.length cap, .int .i64 (k : Int), .slice A3 m3 cap3, .pointer (some ⟨w.heap.size, 66, none⟩), sl (fl 0) (.agg R3), sl (fl 1) (.agg #[.int .i64 id, .int .i64 (f : Int), .int .i64 (t : Int), .string (txt m)])], []⟩ ∧ y = (if fl 3 = true then ((w6.drew.setRow (w.heap.size + 1) R3).setRow lb #[.int .i64 id, .int .i64 (f : Int), .int .i64 (t : Int), .string (txt m)]) else if fl 2 = true then (w6.drew.setRow (w.heap.size + 1) R3) else w6.drew) ∧ (fl 2 = true → fl 0 = true) ∧ (fl 3 = true → fl 2 = true ∧ fl 1 = true)) (by kernel_rfl) (by kernel_rfl) ?_ ?_ ?_
      · exact ⟨rfl, by simp⟩
      · refine ⟨?_, ?_, ?_, ?_, ?_, trivial⟩
        · rintro fl a0 y Q' ⟨rfl, hw⟩ hi hd hQ
          replace hQ := Lib.hid hQ
          simp [Iv.depsB, Region.binds] at hd
          try simp only [hi, hd, sl_true, sl_false]
          try simp only [hi, sl_true, sl_false]
          have e2 : fl 2 = false := by
            cases e : fl 2 with
            | false => rfl
            | true => have := hw.2.1 e; simp [hi] at this
          have e3 : fl 3 = false := by
            cases e : fl 3 with
            | false => rfl
            | true => have := (hw.2.2 e).1; rw [e2] at this; cases this
          have hy : y = w6.drew := by simpa [e2, e3] using hw.1
          subst hy
          refine wpList_loadN rfl (.tmp 2) rfl w.heap.size rfl R3 (HT6.out.box.drewN 1) HSZ.out ?_
          go_wp2_with fail
          refine hQ.out _ _ ⟨?_, ?_⟩
          · first | (simp [Iv.upd, hi, hd, e2, e3, sl_true, sl_false]; done) | (simp [Iv.upd, hi, hd, e2, e3, sl_true, sl_false]; rfl)
          · simp [Iv.upd, hi, hd, e2, e3]
        · rintro fl a0 y Q' ⟨rfl, hw⟩ hi hd hQ
          replace hQ := Lib.hid hQ
          simp [Iv.depsB, Region.binds] at hd
          try simp only [hi, hd, sl_true, sl_false]
          try simp only [hi, sl_true, sl_false]
          have e3 : fl 3 = false := by
            cases e : fl 3 with
            | false => rfl
            | true => have := (hw.2.2 e).2; simp [hi] at this
          cases e2 : fl 2 with
          | false =>
            have hy : y = w6.drew := by simpa [e2, e3] using hw.1
            subst hy
            have hx : Whole _ xb _ _ := HX6.out.drewN 1
            refine wpList_load_row rfl 85 (.tmp 7) rfl xb rfl 85 #[.int .i64 id, .int .i64 (f : Int), .int .i64 (t : Int), .string (txt m)] (0, 0) _ hx Try.underlying85 rfl (by kernel_rfl) ?_
            go_wp2_with fail
            refine hQ.out _ _ ⟨?_, ?_⟩
            · first | (simp [Iv.upd, hi, hd, e2, e3, sl_true, sl_false]; done) | (simp [Iv.upd, hi, hd, e2, e3, sl_true, sl_false]; rfl)
            · simp [Iv.upd, hi, hd, e2, e3]
          | true =>
            have d0 := hw.2.1 e2
            have hy : y = (w6.drew.setRow (w.heap.size + 1) R3) := by simpa [e2, e3] using hw.1
            subst hy
            have hx : Whole _ xb _ _ := (HX6.out.drewN 1).rowAway (show xb ≠ w.heap.size + 1 by have := HXB.out; have := HLB.out; omega) R3
            refine wpList_load_row rfl 85 (.tmp 7) rfl xb rfl 85 #[.int .i64 id, .int .i64 (f : Int), .int .i64 (t : Int), .string (txt m)] (0, 0) _ hx Try.underlying85 rfl (by kernel_rfl) ?_
            go_wp2_with fail
            refine hQ.out _ _ ⟨?_, ?_⟩
            · first | (simp [Iv.upd, hi, hd, e2, e3, d0, sl_true, sl_false]; done) | (simp [Iv.upd, hi, hd, e2, e3, d0, sl_true, sl_false]; rfl)
            · simp [Iv.upd, hi, hd, e2, e3, d0]
        · rintro fl a0 y Q' ⟨rfl, hw⟩ hi hd hQ
          replace hQ := Lib.hid hQ
          simp [Iv.depsB, Region.binds] at hd
          try simp only [hi, hd, sl_true, sl_false]
          try simp only [hi, sl_true, sl_false]
          have e3 : fl 3 = false := by
            cases e : fl 3 with
            | false => rfl
            | true => have := (hw.2.2 e).1; simp [hi] at this
          have d0 : fl 0 = true := by simp [hd]
          have hy : y = w6.drew := by simpa [hi, e3] using hw.1
          subst hy
          try simp only [d0, sl_true]
          refine wpList_storeN rfl (.tmp 4) (.tmp 43) rfl (w.heap.size + 1) rfl R3 rfl Z (HT6.out.res.drewN 1) hZs HSZ.out HON.out ?_
          go_wp2_with fail
          refine hQ.out _ _ ⟨?_, ?_⟩
          · first | (simp [Iv.upd, hi, hd, e3, d0, sl_true, sl_false]; done) | (simp [Iv.upd, hi, hd, e3, d0, sl_true, sl_false]; rfl)
          · simp [Iv.upd, hi, hd, e3, d0]
        · rintro fl a0 y Q' ⟨rfl, hw⟩ hi hd hQ
          replace hQ := Lib.hid hQ
          simp [Iv.depsB, Region.binds] at hd
          try simp only [hi, hd, sl_true, sl_false]
          try simp only [hi, sl_true, sl_false]
          have d1 : fl 1 = true := by simp [hd]
          have d2 : fl 2 = true := by simp [hd]
          have d0 := hw.2.1 d2
          have hy : y = (w6.drew.setRow (w.heap.size + 1) R3) := by simpa [hi, d2] using hw.1
          subst hy
          try simp only [d1, sl_true]
          have hz : Whole _ lb _ _ := (HLZ6.out.drewN 1).rowAway (show lb ≠ w.heap.size + 1 by have := HLB.out; omega) R3
          refine wpList_storeL rfl (.tmp 5) (.tmp 44) rfl lb rfl #[.int .i64 id, .int .i64 (f : Int), .int .i64 (t : Int), .string (txt m)] rfl _ hz rfl rfl (by rw [Array.all_eq_true_iff_forall_mem]; intro u hu; simp at hu; rcases hu with rfl | rfl | rfl | rfl <;> rfl) ?_
          go_wp2_with fail
          refine hQ.out _ _ ⟨?_, ?_⟩
          · first | (simp [Iv.upd, hi, hd, d0, d1, d2, sl_true, sl_false]; done) | (simp [Iv.upd, hi, hd, d0, d1, d2, sl_true, sl_false]; rfl)
          · simp [Iv.upd, hi, hd, d0, d1, d2]
        · rintro fl a0 y Q' ⟨rfl, hw⟩ hi hd hQ
          replace hQ := Lib.hid hQ
          simp [Iv.depsB, Region.binds] at hd
          try simp only [hi, hd, sl_true, sl_false]
          try simp only [hi, sl_true, sl_false]
          have d3 : fl 3 = true := by simp [hd]
          have d12 := hw.2.2 d3
          have d0 := hw.2.1 d12.1
          go_wp2_with fail
          refine hQ.out _ _ ⟨?_, ?_⟩
          · simp [Iv.upd, hi, hd, d0, d12.1, d12.2, d3, sl_true, sl_false]
          · simp [Iv.upd, hi, hd, d0, d12.1, d12.2, d3]
      · rintro fl a0 y ⟨rfl, hw⟩ hall
        simp only [hall 0 (by decide), hall 1 (by decide), hall 2 (by decide), hall 3 (by decide), hall 4 (by decide), sl_true, ↓reduceIte] at hw ⊢
        clear hall
        obtain ⟨rfl, -⟩ := hw
        go_wp2_with fail
        have f1 : Whole ((w6.drew.setRow (w.heap.size + 1) R3).setRow lb #[.int .i64 id, .int .i64 (f : Int), .int .i64 (t : Int), .string (txt m)]) (w.heap.size + 1) 38 R3 := ((HT6.out.res.drewN 1).setRow R3).rowAway (show w.heap.size + 1 ≠ lb by have := HLB.out; omega) _
        have f2 : Whole ((w6.drew.setRow (w.heap.size + 1) R3).setRow lb #[.int .i64 id, .int .i64 (f : Int), .int .i64 (t : Int), .string (txt m)]) lb 85 #[.int .i64 id, .int .i64 (f : Int), .int .i64 (t : Int), .string (txt m)] := ((HLZ6.out.drewN 1).rowAway (show lb ≠ w.heap.size + 1 by have := HLB.out; omega) R3).setRow _
        have f3 : Below w.heap.size w ((w6.drew.setRow (w.heap.size + 1) R3).setRow lb #[.int .i64 id, .int .i64 (f : Int), .int .i64 (t : Int), .string (txt m)]) := below_setRow (below_setRow (below_drewN HT6.out.below 1) (Nat.le_succ _) _) (by have := HLB.out; omega) _
        refine bodyPost_ret (ret_take rfl rfl f1 HSZ.out rfl f2 rfl) rfl ?_
        refine ⟨_, by rw [HR3.out]; rfl, ?_, f3⟩
        have hfin := own_at (w' := ((w6.drew.setRow (w.heap.size + 1) R3).setRow lb #[.int .i64 id, .int .i64 (f : Int), .int .i64 (t : Int), .string (txt m)])) HO6.out fun b hb => by
          have hlow := (own_lt HO6.out hb).1
          have hlow2 : w.heap.size + 4 ≤ b := by simpa using hlow
          rw [setRow_other _ _ b _ (show b ≠ lb by have := HLB.out; omega), setRow_other _ _ b _ (by omega)]
          rfl
        have hfin2 := own_less (B' := w.heap.size) hfin (by simp <;> omega)
        show Rg w _ _ (.slice A3 m3 cap3) _ (n.under.take k ++ n.under.drop (k + 1))
        exact .inr (by rw [HL3.out]; exact hfin2)
      -- GER
end Go.Proofs.Ytmbednikbdfnmaa
