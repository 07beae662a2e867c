/- Contracts of the document's net: without, Lose. -/
import Derived.Test.YtmbednikbdfnmaaPostR
namespace Go.Proofs.Ytmbednikbdfnmaa
open Go.RowKit Go.Po Go.Maps
set_option linter.unusedVariables false
set_option linter.unusedSimpArgs false
set_option maxRecDepth 100000

/-- Of the first c those that aren't at a place. -/
def wo (l : List (Lt (List UInt8))) (i c : Nat) : List (Lt (List UInt8)) := (l.take c).take i ++ (l.take c).drop (i + 1)
theorem wo_all (l : List (Lt (List UInt8))) (i : Nat) : wo l i l.length = l.take i ++ l.drop (i + 1) := by unfold wo; rw [List.take_length]
theorem wo_le (l : List (Lt (List UInt8))) (i c : Nat) : (wo l i c).length ≤ l.length := by unfold wo; simp; omega
theorem wo_same {l : List (Lt (List UInt8))} {c : Nat} (h : c < l.length) : wo l c (c + 1) = wo l c c := by
  unfold wo
  rw [List.take_take, List.take_take, Nat.min_eq_left (Nat.le_succ _), Nat.min_self, List.drop_take, List.drop_take, show c + 1 - (c + 1) = 0 by omega, show c - (c + 1) = 0 by omega]
  try simp
theorem put_last {α : Type} (A : List α) (y : α) (i : Nat) (h : A.length ≠ i) : (A ++ [y]).take i ++ (A ++ [y]).drop (i + 1) = A.take i ++ A.drop (i + 1) ++ [y] := by
  rcases (show A.length < i ∨ i < A.length by omega) with h | h
  · rw [List.take_of_length_le (by simp; omega), List.drop_of_length_le (by simp; omega), List.take_of_length_le (by omega), List.drop_of_length_le (by omega)]
    simp
  · rw [List.take_append_of_le_length (by omega), List.drop_append_of_le_length (by omega), List.append_assoc]
theorem wo_next {l : List (Lt (List UInt8))} {i c : Nat} {y : Lt (List UInt8)} (hy : l[c]? = some y) (h : c ≠ i) : wo l i (c + 1) = wo l i c ++ [y] := by
  have hlt := (List.getElem?_eq_some_iff.1 hy).1
  unfold wo
  rw [show l.take (c + 1) = l.take c ++ [y] by rw [List.take_add_one, hy]; rfl]
  exact put_last _ y i (by rw [List.length_take]; omega)
theorem rinfo68 : (Try.prog.info? 85).map (fun i => (i.zero, i.size, i.bytes)) = some (some (.agg #[.int .i64 0, .int .i64 0, .int .i64 0, .string ⟨#[]⟩]), 4, 40) := by kernel_rfl
set_option maxHeartbeats 1000000 in
theorem without_any (v : Value) (l : List (Lt (List UInt8))) (i : Nat) (hi : i < l.length) (hl : l.length ≤ 1000) (w : World) (hv : Rs w v l) :
    Calls Try.prog 78 #[v, .int .i64 i] w fun e w' => ∃ v', e = .returned v' ∧ w'.ownsRow w.heap.size 85 4 v' (l.take i ++ l.drop (i + 1)).length (flat (encL sP) (l.take i ++ l.drop (i + 1))) ∧ Below w.heap.size w w' := by
  obtain ⟨A, cap, rfl, hs, h1, h2, h3⟩ := hv.lies
  have HS := Lib.hid hs
  have HALL := Lib.hid (wo_all l i)
  have hi' : (i : Int) < (l.length : Int) := by omega
  clear hv hs
  go_enter Try.func78, Try.ntmps78
  go_wp2_with fail
  go_loopw [5, 6] (fun o j wr => ∃ c : Nat, c ≤ l.length ∧ j = .int .i64 (c : Int) ∧ wr.ownsRow w.heap.size 85 4 o (wo l i c).length (flat (encL sP) (wo l i c)) ∧ Below w.heap.size w wr) (fun _ j _ => l.length - (intOf j).toNat)
  case atStart => exact ⟨0, by omega, rfl, by simpa [wo, flat] using own_empty w 85 4, (Below.refl _ _).alloc (Nat.le_refl _) _⟩
  case round =>
    obtain ⟨c, hc, rfl, ho, hb⟩ := hrel
    have HO := Lib.hid ho
    have HB := Lib.hid hb
    have hbs := hb.size
    have hwl := wo_le l i c
    clear ho hb
    by_cases hlt : c < l.length
    · obtain ⟨y, hy⟩ : ∃ y, l[c]? = some y := ⟨_, List.getElem?_eq_getElem hlt⟩
      obtain ⟨b0, off, rfl, hbb, hcc⟩ := (HS.out.below HB.out).item (encL_len sP) (by omega) c y hy
      have q0 := hcc 0 _ rfl
      have q1 := hcc 1 _ rfl
      have q2 := hcc 2 _ rfl
      have q3 := hcc 3 _ rfl
      rw [Nat.add_zero] at q0
      have i1 : (c : Int) < (l.length : Int) := by omega
      by_cases hci : c = i
      · subst hci
        have HW := Lib.hid (wo_same hlt)
        clear hcc hy hbb
        go_wp2_with fail
        go_roundw
        case rel => exact ⟨c + 1, by omega, by simp, by rw [HW.out]; exact HO.out, HB.out⟩
        case measure => simp [intOf]; omega
      · have HW := Lib.hid (wo_next hy hci)
        have hne : (c : Int) ≠ (i : Int) := by omega
        have hne2 : ((c : Int) != (i : Int)) = true := by simpa using hne
        obtain ⟨A5, cap5, hv5, -, -, -⟩ := own_slice0 HO.out
        subst hv5
        clear hcc hy hbb
        generalize hwn : wo l i c = us at *
        have HWN := Lib.hid hwn
        clear hwn
        go_wp2_with (at_builtin; refine wpList_appG rfl (.tmp 17) (.tmp 22) _ 85 _ 4 40 rfl rinfo68 Try.underlying36 rfl (by decide) w.heap.size _ us.length (flat (encL sP) us) rfl (own_keep HO.out ((Below.refl wr.heap.size wr).alloc (Nat.le_refl _) (.cells #[.int .i64 y.id, .int .i64 y.frm, .int .i64 y.to, sP y.m] 85)) (Nat.le_refl _)) (wr.heap.size + 1) (some ⟨wr.heap.size, 0, none⟩) 1 1 (encL sP y) rfl (sees_new wr wr.heap.size rfl 4 85 (encL sP y) rfl) (by intro h; cases h) (by intro u hu; exact encL_one sone [y] u (by rw [flat_one]; exact hu)) (by omega) (by omega) (by simp; omega) ?_)
        intro v7 w7 ho7 hg7
        have HO7 := Lib.hid ho7
        have HB7 : Hid (Below w.heap.size w w7) := Lib.hid ((HB.out.alloc hbs _).grown hg7 (by simp; omega) fun k hk => (own_lt HO.out hk).1)
        clear ho7 hg7
        go_wp2_with fail
        go_roundw
        case rel => exact ⟨c + 1, by omega, by simp, by rw [HW.out, List.length_append, flat_append, flat_one]; exact HO7.out, HB7.out⟩
        case measure => simp [intOf]; omega
    · have hce : c = l.length := by omega
      subst hce
      go_wp2_with fail
      go_ret
      exact ⟨_, rfl, by rw [← HALL.out]; exact HO.out, HB.out⟩
/-- The net's letters are another row. -/
theorem Two2.row {w w3 : World} {nodes sent : Int} {off : Int → Bool} {v v' : Value} {Z : Array Value} (h : Two2 w w3 (rn nodes sent off v) Z) : Two2 w (w3.setCell ⟨w.heap.size, 66, none⟩ v') (rn nodes sent off v') Z := by
  have := h.set 66 v'
  rwa [rn_set66] at this
/-- A row of one's own, behind what was done to the net's own blocks. -/
theorem own_net {w w3 : World} {k : Nat} {v u : Value} {xs : List Value} {R : Array Value} {B : Nat} {e : TypeId} (ho : w3.ownsRow B e 4 v k xs) (hB : w.heap.size + 2 ≤ B) : ((w3.setCell ⟨w.heap.size, 66, none⟩ u).setRow (w.heap.size + 1) R).ownsRow B e 4 v k xs :=
  own_at ho fun b hb => by
    have := (own_lt ho hb).1
    rw [setRow_other _ _ b _ (by omega)]
    exact Below.heap_setCell w3 ⟨w.heap.size, 66, none⟩ _ b (show b ≠ w.heap.size by omega)
/-- A net's letters' row behind a call: the same slice, and nothing has come or gone; or one of the call's own. -/
def Rg (w w' : World) (v v' : Value) (l l' : List (Lt (List UInt8))) : Prop := (v' = v ∧ l' = l) ∨ w'.ownsRow w.heap.size 85 4 v' l'.length (flat (encL sP) l')
set_option maxHeartbeats 1000000 in
theorem rlose_any (n : Nt (List UInt8)) (hn : Fine n) (v : Value) (i : Int) (hi : W64 i) (w : World) (hv : Rs w v n.under) :
    Calls Try.prog 49 #[.agg (rn n.nodes n.sent n.off v), .int .i64 i] w fun e w' => ∃ v', e = .returned (.tuple #[.agg (rn n.nodes n.sent n.off v'), .int .i64 (n.lose i).2]) ∧ Rg w w' v v' n.under (n.lose i).1.under ∧ Below w.heap.size w w' := by
  have hz := rzero
  have hfew := hn.few
  unfold W64 at hi
  obtain ⟨Z, hZ⟩ : ∃ Z, rn 0 0 (fun _ => false) (.slice none 0 0) = Z := ⟨_, rfl⟩
  have hZs : Z.size = 67 := by rw [← hZ]; exact rn_size
  rw [hZ] at hz
  clear hZ
  obtain ⟨A, cap, rfl, hs, h1, h2, h3⟩ := hv.lies
  have hR66 := rn_66 (nodes := n.nodes) (sent := n.sent) (off := n.off) (v := .slice A n.under.length cap)
  have hRs := rn_size (nodes := n.nodes) (sent := n.sent) (off := n.off) (v := .slice A n.under.length cap)
  have hR1 := rone (nodes := n.nodes) (sent := n.sent) (off := n.off) (v := .slice A n.under.length cap) rfl
  have HV := Lib.hid hv
  rcases n.number i with ⟨hh, -⟩ | ⟨k, l, rfl, hk, hl, hh⟩
  · have HE : Hid (n.lose i = (n, 92)) := Lib.hid (by unfold Nt.lose; rw [if_neg hh])
    rw [HE.out]
    obtain ⟨R, hR⟩ : ∃ R, rn n.nodes n.sent n.off (.slice A n.under.length cap) = R := ⟨_, rfl⟩
    have HR := Lib.hid hR
    rw [hR] at hR66 hRs hR1 ⊢
    have ht := Two2.start w R Z
    have HT := Lib.hid ht
    have c0 := (ht.box.cell 66).trans hR66
    have hno : i < 0 ∨ (0 ≤ i ∧ (n.under.length : Int) ≤ i) := by unfold Nt.holds at hh; omega
    clear ht hh hR hv hs
    generalize hun : n.under.length = m at *
    have HUN := Lib.hid hun
    clear hun
    go_enter Try.func49, Try.ntmps49
    rcases hno with hno | ⟨hno1, hno⟩
    all_goals
      go_wp2_with (first | refine wpList_loadN rfl (.tmp 2) rfl w.heap.size rfl R HT.out.box hRs ?_ | refine wpList_storeN rfl (.tmp 4) _ rfl (w.heap.size + 1) rfl R rfl Z HT.out.res hZs hRs hR1 ?_)
      refine bodyPost_ret (ret_net rfl rfl (HT.out.res.setRow R) hRs) rfl ?_
      have hb := below_setRow HT.out.below (Nat.le_succ w.heap.size) R
      exact ⟨_, by rw [HR.out]; rfl, .inl ⟨rfl, rfl⟩, hb⟩
  · have HE : Hid (n.lose k = (n.drop k, 0)) := Lib.hid (by unfold Nt.lose; rw [if_pos hh]; rfl)
    rw [HE.out]
    have ht := Two2.start w (rn n.nodes n.sent n.off (.slice A n.under.length cap)) Z
    have HT := Lib.hid ht
    have HWI := Lib.hid (without_any (.slice A n.under.length cap) n.under k hk hfew _ (hv.call ht.below))
    have c0 := (ht.box.cell 66).trans hR66
    have HR66 := Lib.hid hR66
    have k1 : (k : Int) < (n.under.length : Int) := by omega
    have k2 : ¬ ((n.under.length : Int) ≤ (k : Int)) := by omega
    have HS2 : Hid (∀ u, (rn n.nodes n.sent n.off u).size = 67) := Lib.hid fun u => rn_size
    have HO2 : Hid (∀ u, u.oneCell' = true → (rn n.nodes n.sent n.off u).all (·.oneCell') = true) := Lib.hid fun u hu => rone hu
    have HRN : Hid (∀ w3, Two2 w w3 (rn n.nodes n.sent n.off (.slice A n.under.length cap)) Z → ∀ v', Two2 w (w3.setCell ⟨w.heap.size, 66, none⟩ v') (rn n.nodes n.sent n.off v') Z) := Lib.hid fun w3 h v' => h.row
    obtain ⟨R, hR⟩ : ∃ R, rn n.nodes n.sent n.off (.slice A n.under.length cap) = R := ⟨_, rfl⟩
    rw [hR] at hRs hR1 HT HWI HR66 HRN c0 ⊢
    clear ht hh hR hv hs hl hR66
    go_enter Try.func49, Try.ntmps49
    go_wp2_with fail
    refine HWI.out.mono ?_
    rintro e w3 ⟨v', rfl, ho, hb⟩
    have ht3 := HT.out.call hb
    have d0 := (ht3.box.cell 66).trans HR66.out
    have d1 := ht3.box.free 66
    obtain ⟨A3, cap3, rfl, g1, g2, g3⟩ := own_slice0 ho
    have HT3 := Lib.hid (HRN.out w3 ht3 (.slice A3 (n.under.take k ++ n.under.drop (k + 1)).length cap3))
    have HO3 := Lib.hid ho
    have HSZ := Lib.hid (HS2.out (.slice A3 (n.under.take k ++ n.under.drop (k + 1)).length cap3))
    have HON := Lib.hid (HO2.out (.slice A3 (n.under.take k ++ n.under.drop (k + 1)).length cap3) rfl)
    generalize hl3 : (n.under.take k ++ n.under.drop (k + 1)).length = m3 at *
    have HL3 := Lib.hid hl3
    generalize hR3 : rn n.nodes n.sent n.off (.slice A3 m3 cap3) = R3 at *
    have HR3 := Lib.hid hR3
    clear ht3 ho hb HWI HS2 HO2 hl3 hR3
    go_wp2_with (first | refine wpList_loadN rfl (.tmp 2) rfl w.heap.size rfl R3 HT3.out.box HSZ.out ?_ | refine wpList_storeN rfl (.tmp 4) _ rfl (w.heap.size + 1) rfl R3 rfl Z HT3.out.res hZs HSZ.out HON.out ?_)
    refine bodyPost_ret (ret_net rfl rfl (HT3.out.res.setRow R3) HSZ.out) rfl ?_
    have hb3 := below_setRow HT3.out.below (Nat.le_succ w.heap.size) R3
    refine ⟨_, by rw [HR3.out]; rfl, ?_, hb3⟩
    have hfin := own_net (w := w) (u := .slice A3 m3 cap3) (R := R3) HO3.out (by simp)
    have hfin2 := own_less (B' := w.heap.size) hfin (by simp <;> omega)
    show Rg w _ _ (.slice A3 m3 cap3) _ (n.under.take k ++ n.under.drop (k + 1))
    exact .inr (by rw [HL3.out]; exact hfin2)
end Go.Proofs.Ytmbednikbdfnmaa
