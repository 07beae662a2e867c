/- Contracts of the program's calls at layer 9, of a net that says a string: has, holds, isOff, slices.Clone, slices.Delete. -/
import Derived.Test.YtmbednikbdfnmaaPostW
import Derived.Test.YtmbednikbdfnmaaTxt
namespace Go.Proofs.Ytmbednikbdfnmaa
open Go.RowKit Go.Po Go.Maps
set_option linter.unusedVariables false
set_option linter.unusedSimpArgs false
set_option maxRecDepth 100000

abbrev sP : (List UInt8) → Value := (fun m : List UInt8 => Value.string (txt m))
abbrev sNx (w : World) (g mb : Nat) (v : Value) (n : Nt (List UInt8)) (F : Nat → Prop) := Nx 82 54 sP w g mb v n F
abbrev sNet (w : World) (g : Nat) (n : Nt (List UInt8)) (F : Nat → Prop) := Net 82 54 sP w g n F
abbrev sWent (F : Nat → Prop) (w w' : World) (g : Nat) (n : Nt (List UInt8)) := Went 82 54 sP F w w' g n
theorem sone : ∀ m : (List UInt8), (sP m).oneCell' = true := fun _ => rfl
theorem sunlike : 82 ≠ 54 := by decide
theorem sinfo : (Try.prog.info? 54).map (fun i => (i.zero, i.size, i.bytes)) = some (some (.agg #[.int .i64 0, .int .i64 0, .int .i64 0, .string ⟨#[]⟩]), 4, 40) := by kernel_rfl
theorem szero (w : World) : (zeroValue 54).run Try.prog w = .ok (.agg #[.int .i64 0, .int .i64 0, .int .i64 0, .string ⟨#[]⟩]) w := by kernel_rfl

theorem shas_any (g mb : Nat) (v : Value) (n : Nt (List UInt8)) (F : Nat → Prop) (a : Int) (ha : W64 a) (w : World) (x : sNx w g mb v n F) :
    Calls Try.prog 53 #[ptr g, .int .i64 a] w fun e w' => e = .returned (.bool (decide (n.has a))) ∧ w' = w := by
  obtain ⟨c0, c1, c2, c3⟩ := x.cells
  obtain ⟨n1, n2⟩ := x.fine.nodes
  unfold W64 at ha
  rw [show decide (n.has a) = decide (0 ≤ a ∧ a < n.nodes) from rfl]
  clear x
  generalize n.nodes = m at *
  go_enter Try.func53, Try.ntmps53
  go_wp2_with fail
  all_goals
    go_ret
    refine ⟨ret_bool ?_, rfl⟩
    rw [Bool.eq_iff_iff]
    simp
    omega
theorem sholds_any (g mb : Nat) (v : Value) (n : Nt (List UInt8)) (F : Nat → Prop) (a : Int) (ha : W64 a) (w : World) (x : sNx w g mb v n F) :
    Calls Try.prog 55 #[ptr g, .int .i64 a] w fun e w' => e = .returned (.bool (decide (n.holds a))) ∧ w' = w := by
  obtain ⟨A, cap, hv, h1, h2, h3⟩ := x.slice
  obtain ⟨c0, c1, c2, c3⟩ := x.cells
  rw [hv] at c2
  have hf := x.fine.few
  unfold W64 at ha
  rw [show decide (n.holds a) = decide (0 ≤ a ∧ a < n.under.length) from rfl]
  clear x
  generalize n.under.length = m at *
  go_enter Try.func55, Try.ntmps55
  go_wp2_with fail
  all_goals
    go_ret
    refine ⟨ret_bool ?_, rfl⟩
    rw [Bool.eq_iff_iff]
    simp
    omega
theorem zero_unit (w : World) : (zeroValue 95).run Try.prog w = .ok (.agg #[]) w := by kernel_rfl
theorem sisOff_any (g mb : Nat) (v : Value) (n : Nt (List UInt8)) (F : Nat → Prop) (a : Int) (ha : W64 a) (w : World) (x : sNx w g mb v n F) :
    Calls Try.prog 56 #[ptr g, .int .i64 a] w fun e w' => e = .returned (.bool (n.off a)) ∧ Below w.heap.size w w' := by
  obtain ⟨c0, c1, c2, c3⟩ := x.cells
  obtain ⟨D, hD, hat⟩ := x.set
  rw [← hat a]
  have hkey := key_of ha
  clear x hat
  go_enter Try.func56, Try.ntmps56
  go_wp2_with (at_lookup; refine wpList_lookup_own_unit _ rfl _ _ 80 rfl 3 95 key_law Try.underlying80 (zero_unit _) mb n.puts D rfl hD _ _ rfl hkey ?_)
  go_ret
  exact ⟨rfl, (Below.refl _ _).alloc (Nat.le_refl _) _⟩
/-- slices.Clone: letters of one's own. -/
theorem sclone_any (B : Nat) (A : Option Addr) (cap : Nat) (l : List (Lt (List UInt8))) (w : World) (hs : Sees w B 4 A l.length (flat (encL sP) l)) (hB : B ≤ w.heap.size) (hl : l.length ≤ 1000000) (hn : A = none → cap = 0) :
    Calls Try.prog 52 #[.slice A l.length cap] w fun e w' => ∃ v, e = .returned v ∧ w'.ownsRow w.heap.size 54 4 v l.length (flat (encL sP) l) ∧ Below w.heap.size w w' := by
  have HONE := Lib.hid (encL_one sone l)
  have qT : ∀ (w : World) (a : Option Addr) (n c n' c' : Nat), (binOp .eql 46 (.slice a n c) (.slice none n' c')).run Try.prog w = .ok (.bool a.isNone) w := fun w a n c n' c' => Lib.run_eql_slice_nil w _ _ a n c n' c' Try.underlying46
  cases A with
  | none =>
    obtain rfl := hn rfl
    have h0 : l.length = 0 := by
      rcases Nat.eq_zero_or_pos l.length with h | h
      · exact h
      · obtain ⟨b, off, h, -⟩ := hs.2 h
        cases h
    have hl0 : l = [] := List.eq_nil_of_length_eq_zero h0
    subst hl0
    clear hs HONE
    go_enter Try.func52, Try.ntmps52
    go_wp2_with fail
    go_ret
    exact ⟨_, rfl, World.ownsRow_nil w _ _ _, Below.refl _ _⟩
  | some ad =>
    have HS := Lib.hid hs
    have hlen := hl
    generalize flat (encL sP) l = xs at *
    generalize l.length = m at *
    clear hs
    go_enter Try.func52, Try.ntmps52
    go_wp2_with (at_builtin; refine wpList_appG rfl (.tmp 5) (.tmp 6) _ 54 _ 4 40 rfl sinfo Try.underlying46 rfl (by decide) w.heap.size _ 0 [] rfl (own_empty w 54 4) B (some ad) m cap xs rfl (HS.out.alloc hB _) hn HONE.out (by omega) (by omega) (by simp) ?_)
    intro v' w' ho hg
    have HB : Hid (Below w.heap.size w w') := Lib.hid (((Below.refl w.heap.size w).alloc (Nat.le_refl _) _).grown hg (by simp) fun k hk => by
      have : some w.heap.size = some k := hk
      injection this with this; omega)
    have HO : Hid (w'.ownsRow w.heap.size 54 4 v' m xs) := Lib.hid (by simpa using ho)
    clear ho hg
    go_wp2_with fail
    go_ret
    exact ⟨v', rfl, HO.out, HB.out⟩
theorem flat_drop {α : Type} (p : α → Value) (l : List (Lt α)) (i : Nat) : (flat (encL p) l).drop (i * 4) = flat (encL p) (l.drop i) := by
  induction l generalizing i with
  | nil => simp [flat]
  | cons a l ih =>
    cases i with
    | zero => simp
    | succ i =>
      rw [List.drop_succ_cons, ← ih i, show a :: l = [a] ++ l from rfl, flat_append, flat_one, show (i + 1) * 4 = (encL p a).length + i * 4 by rw [encL_len]; omega, List.drop_append]
      simp [encL_len]
theorem flat_take {α : Type} (p : α → Value) (l : List (Lt α)) (i : Nat) : (flat (encL p) l).take (i * 4) = flat (encL p) (l.take i) := by
  induction l generalizing i with
  | nil => simp [flat]
  | cons a l ih =>
    cases i with
    | zero => simp [flat]
    | succ i =>
      rw [List.take_succ_cons, show a :: l = [a] ++ l from rfl, flat_append, flat_one, show a :: l.take i = [a] ++ l.take i from rfl, flat_append, flat_one, ← ih i, show (i + 1) * 4 = (encL p a).length + i * 4 by rw [encL_len]; omega, List.take_append, List.take_of_length_le (by omega)]
      simp [encL_len]
theorem own_cut {w : World} {B size k n cap g : Nat} {e : TypeId} {xs : List Value} (h : w.ownsRow B e size (.slice (some ⟨g, 0, none⟩) n cap) n xs) (hk : k ≤ n) : w.ownsRow B e size (.slice (some ⟨g, 0, none⟩) k cap) k (xs.take (k * size)) := by
  have h1 : k * size ≤ n * size := Nat.mul_le_mul_right _ hk
  refine ⟨by rw [List.length_take, h.1]; omega, ?_⟩
  rcases h.2 with ⟨hn, h0⟩ | ⟨g', cap', cur, hv, hb, hg, h2, h3, h4, h5⟩
  · simp at hn
  · simp only [Value.slice.injEq, Option.some.injEq, Addr.mk.injEq, and_true, true_and] at hv
    obtain ⟨rfl, rfl⟩ := hv
    refine .inr ⟨g, cap, cur, rfl, hb, hg, by omega, h3, h4, ?_⟩
    rw [← h5, List.take_take, Nat.min_eq_left h1]
set_option maxHeartbeats 1000000 in
/-- slices.Delete of one letter, in its own row. -/
theorem sdelete_any (g cap : Nat) (l : List (Lt (List UInt8))) (i : Nat) (hi : i < l.length) (hl : l.length ≤ 1000000) (w : World) (hown : w.ownsRow 0 54 4 (.slice (some ⟨g, 0, none⟩) l.length cap) l.length (flat (encL sP) l)) :
    Calls Try.prog 79 #[.slice (some ⟨g, 0, none⟩) l.length cap, .int .i64 i, .int .i64 ((i : Int) + 1)] w fun e w' =>
      e = .returned (.slice (some ⟨g, 0, none⟩) (l.length - 1) cap) ∧ w'.ownsRow 0 54 4 (.slice (some ⟨g, 0, none⟩) (l.length - 1) cap) (l.length - 1) (flat (encL sP) (l.take i ++ l.drop (i + 1))) ∧ w.grownBy w' (some g) := by
  obtain ⟨A', cap', hv, h1, h2, -⟩ := own_slice0 hown
  simp only [Value.slice.injEq, true_and] at hv
  obtain ⟨rfl, rfl⟩ := hv
  have HC := Lib.hid (own_cut hown (k := i) (by omega))
  have HS := Lib.hid ((Sees.own hown).part (i + 1) l.length cap (by omega) (Nat.le_refl _) h1)
  have HE : Hid ((flat (encL sP) l).take (i * 4) ++ ((flat (encL sP) l).drop ((i + 1) * 4)).take ((l.length - (i + 1)) * 4) = flat (encL sP) (l.take i ++ l.drop (i + 1))) := Lib.hid (by
    rw [flat_take, flat_drop, flat_append, List.take_of_length_le (l := flat (encL sP) (l.drop (i + 1)))]
    rw [flat_length (encL_len _)]
    simp)
  have HONE : Hid (∀ u ∈ ((flat (encL sP) l).drop ((i + 1) * 4)).take ((l.length - (i + 1)) * 4), u.oneCell' = true) := Lib.hid fun u hu => encL_one sone l u (List.mem_of_mem_drop (List.mem_of_mem_take hu))
  clear hown
  generalize flat (encL sP) (l.take i ++ l.drop (i + 1)) = ys at *
  generalize ((flat (encL sP) l).drop ((i + 1) * 4)).take ((l.length - (i + 1)) * 4) = news at *
  generalize (flat (encL sP) l).take (i * 4) = xs at *
  generalize l.length = n at *
  go_enter Try.func79, Try.ntmps79
  go_wp2_with fail
  obtain ⟨C, hC, HCC⟩ := one_class w
  refine region_inT 6 C hC (by kernel_rfl) (by kernel_rfl) ?_
  simp only [List.take_succ_cons, List.take_zero, List.drop_succ_cons, List.drop_zero]
  iterate 6
    (refine WQ.step (fun K hK => ?_)
     go_simp
     first
       | (refine hK _ ?_; clear hK K)
       | (apply Exists.intro
          refine ⟨fun x hx => ?_, hK _ ?_⟩
          · first
              | rfl
              | (have q1 : i ≤ cap := by omega
                 simp [q1]; rfl)
              | (rw [if_pos (show (0 : Int) ≤ (i : Int) + 1 ∧ (i : Int) + 1 ≤ n by omega)]; first | exact ⟨rfl, rfl⟩ | rfl)
          clear hK K))
  refine WQ.nil ?_
  intro y hy
  rw [HCC.out _ hy]
  clear hy hC HCC C
  replace HS := HS.out
  simp only [Nat.zero_add] at HS
  obtain ⟨A9, hA9⟩ : ∃ A9, (if cap = i + 1 then some (⟨g, 0, none⟩ : Addr) else some ⟨g, (i + 1) * 4, none⟩) = A9 := ⟨_, rfl⟩
  have hne : A9 ≠ none := by rw [← hA9]; split <;> simp
  rw [hA9] at HS ⊢
  clear hA9
  refine wpList_appRoom rfl (.tmp 22) (.tmp 25) _ 54 _ 4 40 rfl sinfo Try.underlying46 0 g i cap xs (by rfl) (own_at HC.out fun b hb => rfl) w.heap.size _ (n - (i + 1)) (cap - (i + 1)) news (by rfl) (HS.drewN 1) hne HONE.out (by omega) ?_
  intro w1 ho hg
  rw [HE.out] at ho
  have e : i + (n - (i + 1)) = n - 1 := by omega
  rw [e] at ho ⊢
  have HG := Lib.hid (show w.grownBy w1 (some g) from ⟨hg.os, hg.tape, hg.output, hg.size, hg.block⟩)
  have HO := Lib.hid ho
  clear HS HONE HC HE ho hg e
  obtain ⟨m, rfl⟩ : ∃ m, n = m + 1 := ⟨n - 1, by omega⟩
  simp only [Nat.add_sub_cancel] at HO ⊢
  have hcm : ¬ cap = m := by omega
  obtain ⟨w2, hrun, ho2, hg2⟩ := run_clear_own (P := Try.prog) (w := w1) (B := 0) (size := 4) (k := m) (t := 46) (ty := 0) Try.underlying46 szero rfl (by decide) (by intro u hu; simp [Value.cells] at hu; rcases hu with rfl | rfl <;> rfl) HO.out (n := 1) (by omega) (by omega) (cap - m)
  have HO2 := Lib.hid ho2
  have HG2 := Lib.hid hg2
  clear ho2 hg2
  go_wp2_with fail
  go_ret
  exact ⟨rfl, HO2.out, HG.out.trans HG2.out⟩
end Go.Proofs.Ytmbednikbdfnmaa
