/- Contracts of the document's net: Cut, New. -/
import Derived.Test.YtmbednikbdfnmaaPostR
namespace Go.Proofs.Ytmbednikbdfnmaa
open Go.RowKit Go.Po Go.Maps
set_option linter.unusedVariables false
set_option linter.unusedSimpArgs false
set_option maxRecDepth 100000

set_option maxHeartbeats 1000000 in
theorem rcut_any (n : Nt (List UInt8)) (hn : Fine n) (v : Value) (a : Int) (ha : W64 a) (off : Bool) (hv : v.oneCell' = true) (w : World) :
    Calls Try.prog 50 #[.agg (rn n.nodes n.sent n.off v), .int .i64 a, .bool off] w fun e w' => e = .returned (.tuple #[.agg (rn n.nodes n.sent (n.cut a off).1.off v), .int .i64 (n.cut a off).2]) ∧ Below w.heap.size w w' := by
  have hz := rzero
  have hn1 := hn.nodes
  unfold W64 at ha
  obtain ⟨Z, hZ⟩ : ∃ Z, rn 0 0 (fun _ => false) (.slice none 0 0) = Z := ⟨_, rfl⟩
  have hZs : Z.size = 67 := by rw [← hZ]; exact rn_size
  rw [hZ] at hz
  clear hZ
  have hR0 := rn_0 (nodes := n.nodes) (sent := n.sent) (off := n.off) (v := v)
  have hRs := rn_size (nodes := n.nodes) (sent := n.sent) (off := n.off) (v := v)
  have hR1 := rone (nodes := n.nodes) (sent := n.sent) (off := n.off) hv
  by_cases hh : n.has a
  · obtain ⟨k, rfl⟩ : ∃ k : Nat, a = (k : Int) := ⟨a.toNat, by have := hh.1; omega⟩
    have hk : k < 64 := by have := hh.2; omega
    have HE : Hid (n.cut k off = ({ n with off := fun y => if y = (k : Int) then off else n.off y, puts := n.puts + 1 }, 0)) := Lib.hid (by unfold Nt.cut; rw [if_pos hh])
    rw [HE.out]
    have hRk := rn_off (nodes := n.nodes) (sent := n.sent) (off := n.off) (v := v) hk
    have hset := rn_setOff (nodes := n.nodes) (sent := n.sent) (off := n.off) (v := v) hk off
    obtain ⟨R2, hR2⟩ : ∃ R2, rn n.nodes n.sent (fun y => if y = (k : Int) then off else n.off y) v = R2 := ⟨_, rfl⟩
    have hR2s : R2.size = 67 := by rw [← hR2]; exact rn_size
    have hR21 : R2.all (·.oneCell') = true := by rw [← hR2]; exact rone hv
    obtain ⟨R, hR⟩ : ∃ R, rn n.nodes n.sent n.off v = R := ⟨_, rfl⟩
    rw [hR2] at hset
    rw [hR] at hR0 hRs hR1 hRk hset
    show Calls Try.prog _ _ w fun e w' => e = .returned (.tuple #[.agg (rn n.nodes n.sent (fun y => if y = (k : Int) then off else n.off y) v), .int .i64 0]) ∧ _
    rw [hR2, hR]
    have ht := Two2.start w R Z
    have HT := Lib.hid (Two2.start w (R.setIfInBounds (2 + k) (.bool off)) Z)
    have HS2 : Hid ((R.setIfInBounds (2 + k) (.bool off)).size = 67) := Lib.hid (by rw [hset]; exact hR2s)
    have HO2 : Hid ((R.setIfInBounds (2 + k) (.bool off)).all (·.oneCell') = true) := Lib.hid (by rw [hset]; exact hR21)
    have HSET := Lib.hid hset
    have c0 := (ht.box.cell 0).trans hR0
    have c1 := (ht.box.cell (2 + k)).trans hRk
    have f1 := ht.box.free (2 + k)
    have h1 : (k : Int) < n.nodes := hh.2
    have h2 : ¬ (n.nodes ≤ (k : Int)) := by omega
    have h3 : (k : Int) < 64 := by omega
    generalize n.off (k : Int) = ob at *
    generalize n.nodes = nd at *
    clear ht hh hR hR2 hset
    go_enter Try.func50, Try.ntmps50
    go_wp2_with (first | refine wpList_loadN rfl (.tmp 3) rfl w.heap.size rfl (R.setIfInBounds (2 + k) (.bool off)) HT.out.box HS2.out ?_ | refine wpList_storeN rfl (.tmp 6) _ rfl (w.heap.size + 1) rfl (R.setIfInBounds (2 + k) (.bool off)) rfl Z HT.out.res hZs HS2.out HO2.out ?_)
    refine bodyPost_ret (ret_net rfl rfl (HT.out.res.setRow (R.setIfInBounds (2 + k) (.bool off))) HS2.out) rfl ?_
    refine ⟨?_, below_setRow HT.out.below (by omega) _⟩
    rw [HSET.out]
    rfl
  · have HE : Hid (n.cut a off = (n, 90)) := Lib.hid (by unfold Nt.cut; rw [if_neg hh])
    rw [HE.out]
    obtain ⟨R, hR⟩ : ∃ R, rn n.nodes n.sent n.off v = R := ⟨_, rfl⟩
    rw [hR] at hR0 hRs hR1
    rw [show (n, (90 : Int)).1.off = n.off from rfl, hR]
    have ht := Two2.start w R Z
    have HT := Lib.hid ht
    have c0 := (ht.box.cell 0).trans hR0
    have hno : a < 0 ∨ (0 ≤ a ∧ n.nodes ≤ a) := by unfold Nt.has at hh; omega
    generalize n.nodes = nd at *
    clear ht hh hR
    go_enter Try.func50, Try.ntmps50
    rcases hno with hno | ⟨hno1, hno⟩
    all_goals
      go_wp2_with (first | refine wpList_loadN rfl (.tmp 3) rfl w.heap.size rfl R HT.out.box hRs ?_ | refine wpList_storeN rfl (.tmp 6) _ rfl (w.heap.size + 1) rfl R rfl Z HT.out.res hZs hRs hR1 ?_)
      refine bodyPost_ret (ret_net rfl rfl (HT.out.res.setRow R) hRs) rfl ?_
      exact ⟨rfl, below_setRow HT.out.below (by omega) _⟩
theorem wpList_buildN {ops : Array Oper} {rest : List Oper} {o : Oper} {a : Act} {w : World} {Q : Exit → Act → World → Prop} (hg : o.guard = none) (x : Operand) (ho : o.op = .build 38 #[(0, x)]) (m : Int) (hx : a.eval x = .int .i64 m)
    (h : wpList Try.prog ops Q rest (a.put o.dst (.agg (rn m 0 (fun _ => false) (.slice none 0 0)))) w) : wpList Try.prog ops Q (o :: rest) a w := by
  have hb : Try.prog.built 38 [(0, .int .i64 m)] = some (rn m 0 (fun _ => false) (.slice none 0 0)) := by kernel_rfl
  refine wpList_build hg 38 #[(0, x)] ho ?_ ?_
  · simp [hx, hb]
  · simpa [hx, hb] using h
set_option maxHeartbeats 1000000 in
theorem rnew_any (m : Int) (hm : W64 m) (w : World) : Calls Try.prog 18 #[.int .i64 m] w fun e w' => e = .returned (.tuple #[.agg (rn m 0 (fun _ => false) (.slice none 0 0)), .bool (decide (1 ≤ m ∧ m ≤ 64))]) ∧ Below w.heap.size w w' := by
  have hz := rzero
  unfold W64 at hm
  obtain ⟨Z, hZ⟩ : ∃ Z, rn 0 0 (fun _ => false) (.slice none 0 0) = Z := ⟨_, rfl⟩
  have hZs : Z.size = 67 := by rw [← hZ]; exact rn_size
  rw [hZ] at hz
  clear hZ
  have hRs := rn_size (nodes := m) (sent := 0) (off := fun _ => false) (v := .slice none 0 0)
  have hR1 := rone (nodes := m) (sent := 0) (off := fun _ => false) (v := .slice none 0 0) rfl
  have HB : Hid (∀ (ops : Array Oper) (rest : List Oper) (o : Oper) (a : Act) (w : World) (Q : Exit → Act → World → Prop), o.guard = none → ∀ x, o.op = .build 38 #[(0, x)] → a.eval x = .int .i64 m → wpList Try.prog ops Q rest (a.put o.dst (.agg (rn m 0 (fun _ => false) (.slice none 0 0)))) w → wpList Try.prog ops Q (o :: rest) a w) :=
    Lib.hid fun ops rest o a w Q hg x ho hx h => wpList_buildN hg x ho m hx h
  obtain ⟨R, hR⟩ : ∃ R, rn m 0 (fun _ => false) (.slice none 0 0) = R := ⟨_, rfl⟩
  rw [hR] at hRs hR1 HB ⊢
  clear hR
  have HW := Lib.hid (Whole.fresh w 38 Z)
  have HBL := Lib.hid ((Below.refl w.heap.size w).alloc (Nat.le_refl _) (.cells Z 38))
  rcases (show m < 1 ∨ (1 ≤ m ∧ m ≤ 64) ∨ 64 < m by omega) with h | ⟨h, h'⟩ | h
  case' inl => have hd : decide (1 ≤ m ∧ m ≤ 64) = false := decide_eq_false (by omega)
  case' inr.inl => have hd : decide (1 ≤ m ∧ m ≤ 64) = true := decide_eq_true (by omega)
  case' inr.inr => have hd : decide (1 ≤ m ∧ m ≤ 64) = false := decide_eq_false (by omega)
                   have h9 : decide (m ≤ 64) = false := decide_eq_false (by omega)
  all_goals
    rw [hd]
    clear hd
    go_enter Try.func18, Try.ntmps18
    go_wp2_with (first | refine HB.out _ _ _ _ _ _ rfl _ rfl rfl ?_ | refine wpList_storeN rfl (.tmp 2) _ rfl w.heap.size rfl R rfl Z HW.out hZs hRs hR1 ?_)
    refine bodyPost_ret (ret_net rfl rfl (HW.out.setRow R) hRs) rfl ?_
    exact ⟨rfl, below_setRow HBL.out (Nat.le_refl _) _⟩
end Go.Proofs.Ytmbednikbdfnmaa
