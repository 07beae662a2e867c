/- Contract of appendValue: a value's bytes come behind what is owned. -/
import Derived.Test.YtmaeacklloaeaaaWireO
namespace Go.Proofs.Ytmaeacklloaeaaa
open Go.RowKit Go.Fl Go.Wr
set_option linter.unusedVariables false
set_option linter.unusedSimpArgs false

theorem enc_head (v : Val) : enc v = [Wr.byteOf v.k] ++ encBody v := rfl
theorem byteOf_int (k : Int) (h0 : 0 ≤ k) (h : k < 256) : k = (Wr.byteOf k).toNat := by
  unfold Wr.byteOf; rw [ofNat_toNat (by omega)]; omega

/-- append(b, s...): a text's bytes more. -/
theorem wpList_apps {ops : Array Oper} {rest : List Oper} {o : Oper} {a : Act} {Q : Exit → Act → World → Prop} {w : World} (hgd : o.guard = none) (sl x : Operand)
    (ho : o.op = .call { callee := .builtin .append, args := #[sl, x], argTypes := #[25, 9] })
    (B : Nat) (v : Value) (bs : List UInt8) (hs : a.eval sl = v) (hown : OwnB w B v bs) (s : ByteArray) (hx : a.eval x = .string s) (hB : B ≤ w.heap.size) (hlen : bs.length + s.size ≤ 140737488355328)
    (h : ∀ v' w', OwnB w' B v' (bs ++ s.data.toList) → StepB B w w' → wpList Try.prog ops Q rest (a.put o.dst v') w') :
    wpList Try.prog ops Q (o :: rest) a w := by
  obtain ⟨i0, hi, hz0, hz1, hz2⟩ := info_parts info_byte
  refine Lib.wpList_append_own_string w hgd sl x 25 9 ho B 5 i0 Try.underlying25 Try.underlying9 hi hz0 hz1 hz2 v bs.length (Lib.byteCells bs) hs hown s hx
    (by unfold maxLen; omega) (by omega) hB ?_
  intro v' w' hown' hg _
  refine h v' w' ?_ ⟨hown.below hg hB, KeepT.of_own hown hg⟩
  unfold OwnB
  rw [Lib.byteCells_append, List.length_append, ba_size]; exact hown'

theorem appv_1 (B : Nat) (v : Value) (bs : List UInt8) (u : Int) (h0 : 0 ≤ u) (h1 : u < 18446744073709551616) (i : Int) (f : Nat) (s : ByteArray) (w : World) (hB : B ≤ w.heap.size) (hv : OwnB w B v bs) (hl : bs.length ≤ 140737488350000) :
    Calls Try.prog 20 #[v, aggV ⟨1, u, i, f, s⟩] w (AppB w B (bs ++ enc ⟨1, u, i, f, s⟩)) := by
  have he : bs ++ enc ⟨1, u, i, f, s⟩ = (bs ++ [Wr.byteOf 1]) ++ num u.toNat := by rw [enc_head, List.append_assoc]; simp only [encBody, if_true, show ¬ (2 : Int) = 1 by omega, show ¬ (3 : Int) = 1 by omega, show ¬ (3 : Int) = 2 by omega, show ¬ (4 : Int) = 1 by omega, show ¬ (4 : Int) = 2 by omega, show ¬ (4 : Int) = 3 by omega, if_false]
  have hcall := fun v' w' (hB' : B ≤ w'.heap.size) (hv' : OwnB w' B v' (bs ++ [Wr.byteOf 1])) => appendNumber_any B v' (bs ++ [Wr.byteOf 1]) u w' hB' hv' h0 h1 (by rw [List.length_append, List.length_singleton]; omega)
  have HC := Lib.hid hcall
  have HE := Lib.hid he
  have HB1 := Lib.hid (byteOf_int 1 (by omega) (by omega))
  have HV := Lib.hid (fun o => OwnB.keep hv ((Below.refl w.heap.size w).alloc (Nat.le_refl _) o) (Nat.le_refl _))
  have hB1 : B ≤ w.heap.size + 1 := by omega
  clear hv he hcall
  generalize bs ++ enc ⟨1, u, i, f, s⟩ = E at *
  generalize num u.toNat = t at *
  generalize Wr.byteOf 1 = c at *
  go_enter Try.func20, Try.ntmps20
  go_wp2_with (at_builtin; refine wpList_app1 rfl (.tmp 5) (.tmp 9) rfl B _ bs rfl (HV.out _) c _ _ rfl (by simp) HB1.out (by simp; omega) (by omega) ?_)
  intro v' w' hown' hst
  have HK := hst.keep _ _ _ (by decide) (Whole.fresh w 36 _)
  have g0 := HK.cell 0
  have g1 := HK.cell 1
  have f0 := HK.free 0
  have f1 := HK.free 1
  have HO' := Lib.hid hown'
  have HS := Lib.hid ((StepB.refl B w).alloc hB _ |>.trans hst)
  have hB' : B ≤ w'.heap.size := Nat.le_trans hB HS.out.below.size
  have HK2 := Lib.hid HK
  clear hown' hst HK
  simp at g0 g1
  go_wp2_with fail
  refine (HC.out _ _ hB' HO'.out).mono ?_
  rintro e w2 ⟨v2, rfl, ho2, st2⟩
  have HO2 := Lib.hid ho2
  have HS2 := Lib.hid (HS.out.trans st2)
  clear ho2 st2
  go_wp2_with fail
  go_ret
  exact ⟨v2, rfl, by rw [HE.out]; exact HO2.out, HS2.out⟩

theorem appv_2 (B : Nat) (v : Value) (bs : List UInt8) (u : Int) (i : Int) (h0 : -9223372036854775808 ≤ i) (h1 : i < 9223372036854775808) (f : Nat) (s : ByteArray) (w : World) (hB : B ≤ w.heap.size) (hv : OwnB w B v bs) (hl : bs.length ≤ 140737488350000) :
    Calls Try.prog 20 #[v, aggV ⟨2, u, i, f, s⟩] w (AppB w B (bs ++ enc ⟨2, u, i, f, s⟩)) := by
  have he : bs ++ enc ⟨2, u, i, f, s⟩ = (bs ++ [Wr.byteOf 2]) ++ num (un i) := by rw [enc_head, List.append_assoc]; simp only [encBody, if_true, show ¬ (2 : Int) = 1 by omega, show ¬ (3 : Int) = 1 by omega, show ¬ (3 : Int) = 2 by omega, show ¬ (4 : Int) = 1 by omega, show ¬ (4 : Int) = 2 by omega, show ¬ (4 : Int) = 3 by omega, if_false]
  have hcall := fun v' w' (hB' : B ≤ w'.heap.size) (hv' : OwnB w' B v' (bs ++ [Wr.byteOf 2])) => appendNumber_any B v' (bs ++ [Wr.byteOf 2]) (un i) w' hB' hv' (by omega) (by have := un_lt i h0 h1; omega) (by rw [List.length_append, List.length_singleton]; omega)
  have HC := Lib.hid hcall
  have HE := Lib.hid he
  have HB1 := Lib.hid (byteOf_int 2 (by omega) (by omega))
  have HV := Lib.hid (fun o => OwnB.keep hv ((Below.refl w.heap.size w).alloc (Nat.le_refl _) o) (Nat.le_refl _))
  have hB1 : B ≤ w.heap.size + 1 := by omega
  clear hv he hcall
  generalize bs ++ enc ⟨2, u, i, f, s⟩ = E at *
  have HU := Lib.hid (unsigned_any i h0 h1)
  rw [Int.toNat_natCast] at HC
  generalize un i = q at *
  generalize num q = t at *
  generalize Wr.byteOf 2 = c at *
  go_enter Try.func20, Try.ntmps20
  go_wp2_with (at_builtin; refine wpList_app1 rfl (.tmp 5) (.tmp 9) rfl B _ bs rfl (HV.out _) c _ _ rfl (by simp) HB1.out (by simp; omega) (by omega) ?_)
  intro v' w' hown' hst
  have HK := hst.keep _ _ _ (by decide) (Whole.fresh w 36 _)
  have g0 := HK.cell 0
  have g1 := HK.cell 2
  have f0 := HK.free 0
  have f1 := HK.free 2
  have HO' := Lib.hid hown'
  have HS := Lib.hid ((StepB.refl B w).alloc hB _ |>.trans hst)
  have hB' : B ≤ w'.heap.size := Nat.le_trans hB HS.out.below.size
  have HK2 := Lib.hid HK
  clear hown' hst HK
  simp at g0 g1
  go_wp2_with fail
  refine (HU.out _).mono ?_
  rintro e w1 ⟨rfl, rfl⟩
  go_wp2_with fail
  refine (HC.out _ _ hB' HO'.out).mono ?_
  rintro e w2 ⟨v2, rfl, ho2, st2⟩
  have HO2 := Lib.hid ho2
  have HS2 := Lib.hid (HS.out.trans st2)
  clear ho2 st2
  go_wp2_with fail
  go_ret
  exact ⟨v2, rfl, by rw [HE.out]; exact HO2.out, HS2.out⟩

theorem appv_3 (B : Nat) (v : Value) (bs : List UInt8) (u : Int) (i : Int) (f : Nat) (hf : f < 18446744073709551616) (s : ByteArray) (w : World) (hB : B ≤ w.heap.size) (hv : OwnB w B v bs) (hl : bs.length ≤ 140737488350000) :
    Calls Try.prog 20 #[v, aggV ⟨3, u, i, f, s⟩] w (AppB w B (bs ++ enc ⟨3, u, i, f, s⟩)) := by
  have he : bs ++ enc ⟨3, u, i, f, s⟩ = (bs ++ [Wr.byteOf 3]) ++ eight (usu f) := by rw [enc_head, List.append_assoc]; simp only [encBody, if_true, show ¬ (2 : Int) = 1 by omega, show ¬ (3 : Int) = 1 by omega, show ¬ (3 : Int) = 2 by omega, show ¬ (4 : Int) = 1 by omega, show ¬ (4 : Int) = 2 by omega, show ¬ (4 : Int) = 3 by omega, if_false]
  have hcall := fun v' w' (hB' : B ≤ w'.heap.size) (hv' : OwnB w' B v' (bs ++ [Wr.byteOf 3])) => appendFloat_any B v' (bs ++ [Wr.byteOf 3]) f w' hB' hv' hf (by rw [List.length_append, List.length_singleton]; omega)
  have HC := Lib.hid hcall
  have HE := Lib.hid he
  have HB1 := Lib.hid (byteOf_int 3 (by omega) (by omega))
  have HV := Lib.hid (fun o => OwnB.keep hv ((Below.refl w.heap.size w).alloc (Nat.le_refl _) o) (Nat.le_refl _))
  have hB1 : B ≤ w.heap.size + 1 := by omega
  clear hv he hcall
  generalize bs ++ enc ⟨3, u, i, f, s⟩ = E at *
  generalize eight (usu f) = t at *
  generalize Wr.byteOf 3 = c at *
  go_enter Try.func20, Try.ntmps20
  go_wp2_with (at_builtin; refine wpList_app1 rfl (.tmp 5) (.tmp 9) rfl B _ bs rfl (HV.out _) c _ _ rfl (by simp) HB1.out (by simp; omega) (by omega) ?_)
  intro v' w' hown' hst
  have HK := hst.keep _ _ _ (by decide) (Whole.fresh w 36 _)
  have g0 := HK.cell 0
  have g1 := HK.cell 3
  have f0 := HK.free 0
  have f1 := HK.free 3
  have HO' := Lib.hid hown'
  have HS := Lib.hid ((StepB.refl B w).alloc hB _ |>.trans hst)
  have hB' : B ≤ w'.heap.size := Nat.le_trans hB HS.out.below.size
  have HK2 := Lib.hid HK
  clear hown' hst HK
  simp at g0 g1
  go_wp2_with fail
  refine (HC.out _ _ hB' HO'.out).mono ?_
  rintro e w2 ⟨v2, rfl, ho2, st2⟩
  have HO2 := Lib.hid ho2
  have HS2 := Lib.hid (HS.out.trans st2)
  clear ho2 st2
  go_wp2_with fail
  go_ret
  exact ⟨v2, rfl, by rw [HE.out]; exact HO2.out, HS2.out⟩

theorem appv_4 (B : Nat) (v : Value) (bs : List UInt8) (u : Int) (i : Int) (f : Nat) (s : ByteArray) (hs : s.size ≤ 1000) (w : World) (hB : B ≤ w.heap.size) (hv : OwnB w B v bs) (hl : bs.length ≤ 140737488350000) :
    Calls Try.prog 20 #[v, aggV ⟨4, u, i, f, s⟩] w (AppB w B (bs ++ enc ⟨4, u, i, f, s⟩)) := by
  have he : bs ++ enc ⟨4, u, i, f, s⟩ = ((bs ++ [Wr.byteOf 4]) ++ num s.size) ++ s.data.toList := by rw [enc_head, List.append_assoc, List.append_assoc]; simp only [encBody, if_true, show ¬ (2 : Int) = 1 by omega, show ¬ (3 : Int) = 1 by omega, show ¬ (3 : Int) = 2 by omega, show ¬ (4 : Int) = 1 by omega, show ¬ (4 : Int) = 2 by omega, show ¬ (4 : Int) = 3 by omega, if_false]
  have hcall := fun v' w' (hB' : B ≤ w'.heap.size) (hv' : OwnB w' B v' (bs ++ [Wr.byteOf 4])) => appendNumber_any B v' (bs ++ [Wr.byteOf 4]) (s.size : Int) w' hB' hv' (by omega) (by omega) (by rw [List.length_append, List.length_singleton]; omega)
  have HC := Lib.hid hcall
  have HE := Lib.hid he
  have HB1 := Lib.hid (byteOf_int 4 (by omega) (by omega))
  have HV := Lib.hid (fun o => OwnB.keep hv ((Below.refl w.heap.size w).alloc (Nat.le_refl _) o) (Nat.le_refl _))
  have hB1 : B ≤ w.heap.size + 1 := by omega
  clear hv he hcall
  generalize bs ++ enc ⟨4, u, i, f, s⟩ = E at *
  rw [Int.toNat_natCast] at HC
  have hnl := num_bound s.size (by omega)
  have hw1 : IntKind.u64.wrap (s.size : Int) = (s.size : Int) := by rw [IntKind.wrap_u64]; omega
  generalize num s.size = t at *
  generalize Wr.byteOf 4 = c at *
  go_enter Try.func20, Try.ntmps20
  go_wp2_with (at_builtin; refine wpList_app1 rfl (.tmp 5) (.tmp 9) rfl B _ bs rfl (HV.out _) c _ _ rfl (by simp) HB1.out (by simp; omega) (by omega) ?_)
  intro v' w' hown' hst
  have HK := hst.keep _ _ _ (by decide) (Whole.fresh w 36 _)
  have g0 := HK.cell 0
  have g1 := HK.cell 4
  have f0 := HK.free 0
  have f1 := HK.free 4
  have HO' := Lib.hid hown'
  have HS := Lib.hid ((StepB.refl B w).alloc hB _ |>.trans hst)
  have hB' : B ≤ w'.heap.size := Nat.le_trans hB HS.out.below.size
  have HK2 := Lib.hid HK
  clear hown' hst HK
  simp at g0 g1
  go_wp2_with fail
  refine (HC.out _ _ hB' HO'.out).mono ?_
  rintro e w2 ⟨v2, rfl, ho2, st2⟩
  have HO2 := Lib.hid ho2
  have HS2 := Lib.hid (HS.out.trans st2)
  have g2 := (st2.keep _ _ _ (by decide) HK2.out).cell 4
  simp at g2
  have hB2 : B ≤ w2.heap.size := Nat.le_trans hB HS2.out.below.size
  clear ho2 st2
  go_wp2_with (at_builtin; refine wpList_apps rfl (.tmp 38) (.tmp 40) rfl B _ _ rfl HO2.out s rfl hB2 (by rw [List.length_append, List.length_append, List.length_singleton]; omega) ?_)
  intro v3 w3 hown3 hst3
  have HO3 := Lib.hid hown3
  have HS3 := Lib.hid (HS2.out.trans hst3)
  clear hown3 hst3
  go_wp2
  go_ret
  exact ⟨v3, rfl, by rw [HE.out]; simpa using HO3.out, HS3.out⟩

theorem appv_any (B : Nat) (v : Value) (bs : List UInt8) (x : Val) (hx : x.wf) (hv0 : valid x = 0) (w : World) (hB : B ≤ w.heap.size) (hv : OwnB w B v bs) (hl : bs.length ≤ 140737488350000) :
    Calls Try.prog 20 #[v, aggV x] w (AppB w B (bs ++ enc x)) := by
  obtain ⟨k, u, i, f, s⟩ := x
  obtain ⟨w1, w2, w3, w4, w5, w6, w7, w8⟩ := hx
  simp only at w1 w2 w3 w4 w5 w6 w7 w8
  simp only [valid] at hv0
  (repeat' split at hv0) <;> try (exfalso; omega)
  have hk : k = 1 ∨ k = 2 ∨ k = 3 ∨ k = 4 := by omega
  rcases hk with rfl | rfl | rfl | rfl
  · exact appv_1 B v bs u w3 w4 i f s w hB hv hl
  · exact appv_2 B v bs u i w5 w6 f s w hB hv hl
  · exact appv_3 B v bs u i f w7 s w hB hv hl
  · exact appv_4 B v bs u i f s (by omega) w hB hv hl
end Go.Proofs.Ytmaeacklloaeaaa
