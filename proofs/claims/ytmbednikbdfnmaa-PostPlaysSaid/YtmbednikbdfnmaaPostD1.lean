/- The law's does, kind 1. -/
import Derived.Test.YtmbednikbdfnmaaPostRd
import Derived.Test.YtmbednikbdfnmaaPostRt
import Derived.Deep.CutRange
namespace Go.Proofs.Ytmbednikbdfnmaa
open Go.ChangeShapes Go.WideShapes Go.ChangeAt Go.RowKit Go.Po Go.Maps
set_option linter.unusedVariables false
set_option linter.unusedSimpArgs false
set_option maxRecDepth 100000

theorem letter_one (a b c : Int) (s : ByteArray) : (#[Value.int .i64 a, .int .i64 b, .int .i64 c, .string s] : Array Value).all (·.oneCell') = true := by
  rw [Array.all_eq_true_iff_forall_mem]
  intro u hu
  simp at hu
  rcases hu with rfl | rfl | rfl | rfl <;> rfl
set_option maxHeartbeats 8000000 in
theorem does_take (W w : World) (L : List Row) (g : Nat) (v : Value) (n : Nt (List UInt8)) (h : Pq W w L g v n.under n) (a b : Int) (ha : W64 a) (hb : W64 b) (s : List UInt8) (off : Bool) (hs : n.sent + 1 ≤ 9223372036854775807) (hp : n.puts < maxLen) :
    Calls Try.prog 20 #[ptr g, .agg (rn n.nodes n.sent n.off v), .agg #[.int .i64 1, .int .i64 a, .int .i64 b, .string (txt s), .bool off]] w fun e w' => ∃ v' n', e = .returned (.tuple #[.agg (rn n'.nodes n'.sent n'.off v'), .bool true]) ∧ Pq W w' L g v' n'.under n' ∧ n'.sent ≤ n.sent + 1 ∧ n'.puts ≤ n.puts + 1 := by
  have hz := rzero
  obtain ⟨Z, hZ⟩ : ∃ Z, rn 0 0 (fun _ => false) (.slice none 0 0) = Z := ⟨_, rfl⟩
  have hZs : Z.size = 67 := by rw [← hZ]; exact rn_size
  rw [hZ] at hz
  clear hZ
  have HF := Lib.hid h.lp.fine
  have HN := Lib.hid hs
  have HPU := Lib.hid hp
  clear hs hp
  have hRs := rn_size (nodes := n.nodes) (sent := n.sent) (off := n.off) (v := v)
  have hR1 := rone (nodes := n.nodes) (sent := n.sent) (off := n.off) h.one
  have HC := Lib.hid (fun w hv => rtake_any n HF.out v a ha w hv)
  obtain ⟨R, hR⟩ : ∃ R, rn n.nodes n.sent n.off v = R := ⟨_, rfl⟩
  rw [hR] at hRs hR1 HC ⊢
  have HR := Lib.hid hR
  clear hR
  have H0 := Lib.hid (Dp.start h R #[.int .i64 1, .int .i64 a, .int .i64 b, .string (txt s), .bool off] Z)
  obtain ⟨x0, x1, x2, x3, x4⟩ := (show _ ∧ _ ∧ _ ∧ _ ∧ _ from ⟨H0.out.op.cell 0, H0.out.op.cell 1, H0.out.op.cell 2, H0.out.op.cell 3, H0.out.op.cell 4⟩)
  have hL := Lib.hid h
  clear h
  go_enter Try.func20, Try.ntmps20
  go_wp2_with fail
  refine (H0.out.turn (fun L h => h.stake ha)).mono ?_
  rintro e w2 ⟨rfl, h2⟩
  have H2 := Lib.hid h2
  obtain ⟨y1, y2, y3⟩ := (show _ ∧ _ ∧ _ from ⟨h2.op.cell 1, h2.op.cell 2, h2.op.cell 3⟩)
  rw [encO_get] at HC ⊢
  generalize ht : (n.take a).2.1.getD ⟨0, 0, 0, []⟩ = y at *
  obtain ⟨yi, yf, yt, ym⟩ := y
  have HP2 := Lib.hid (h2.alloc w2.heap.size rfl 54 #[.int .i64 yi, .int .i64 yf, .int .i64 yt, .string (txt ym)])
  have z1 := HP2.out.op.cell 1
  clear h2 x0 x1 x2 x3 x4 H0 y1 y2 y3 ht
  go_upto_region 13 with (refine wpList_loadN rfl (.tmp 4) rfl w.heap.size rfl R HP2.out.box hRs ?_)
  refine (HC.out _ HP2.out.rs).mono ?_
  rintro e w3 ⟨v', rfl, hr3, hb3⟩
  have h3 := HP2.out.told hb3 hr3
  obtain ⟨R2, hR2⟩ : ∃ R2, rn n.nodes n.sent n.off v' = R2 := ⟨_, rfl⟩
  have hQs : R2.size = 67 := by rw [← hR2]; exact rn_size
  have hQ1 : R2.all (·.oneCell') = true := by rw [← hR2]; exact rone h3.one
  rw [hR2]
  have HR2 := Lib.hid hR2
  clear hR2
  have hx : W.heap.size ≤ w3.heap.size := by have := h3.low; have := h3.lt; omega
  have hx2 : w2.heap.size + 1 ≤ w3.heap.size := by have := hb3.size; simpa using this
  have h4 := (h3.alloc w3.heap.size rfl 38 Z).alloc (w3.heap.size + 1) (by simp) 85 #[.int .i64 0, .int .i64 0, .int .i64 0, .string ⟨#[]⟩]
  have hLT : ∀ r ∈ L, r.1 < w3.heap.size := fun r hr => (h3.pq.lp.knows r (by simp [hr])).lt
  have h5 := (h4.few (L' := (w3.heap.size, 38, Z) :: (w3.heap.size + 1, 85, #[.int .i64 0, .int .i64 0, .int .i64 0, .string ⟨#[]⟩]) :: (w2.heap.size, 54, #[.int .i64 yi, .int .i64 yf, .int .i64 yt, .string (txt ym)]) :: L) (fun r hr => by
    simp only [List.mem_cons] at hr ⊢
    rcases hr with hr | hr | hr | hr <;> simp [hr])).setFirst hx (fun r hr => by
    simp only [List.mem_cons] at hr
    rcases hr with rfl | rfl | hr
    · show w3.heap.size + 1 ≠ w3.heap.size; omega
    · show w2.heap.size ≠ w3.heap.size; omega
    · have := hLT r hr; omega) R2
  have h6 := (h5.few (L' := (w3.heap.size + 1, 85, #[.int .i64 0, .int .i64 0, .int .i64 0, .string ⟨#[]⟩]) :: (w3.heap.size, 38, R2) :: (w2.heap.size, 54, #[.int .i64 yi, .int .i64 yf, .int .i64 yt, .string (txt ym)]) :: L) (fun r hr => by
    simp only [List.mem_cons] at hr ⊢
    rcases hr with hr | hr | hr | hr <;> simp [hr])).setFirst (by omega) (fun r hr => by
    simp only [List.mem_cons] at hr
    rcases hr with rfl | rfl | hr
    · show w3.heap.size ≠ w3.heap.size + 1; omega
    · show w2.heap.size ≠ w3.heap.size + 1; omega
    · have := hLT r hr; omega) #[.int .i64 yi, .int .i64 yf, .int .i64 yt, .string (txt ym)]
  have H4 := Lib.hid h4
  have H4W := Lib.hid (h4.whole (x := w3.heap.size) (t := 38) (cs := Z) (by simp))
  have H5W := Lib.hid (h5.whole (x := w3.heap.size + 1) (t := 85) (cs := #[.int .i64 0, .int .i64 0, .int .i64 0, .string ⟨#[]⟩]) (by simp))
  have H6W := Lib.hid (h6.whole (x := w3.heap.size) (t := 38) (cs := R2) (by simp))
  have H6 := Lib.hid h6
  have H7 := Lib.hid (h6.setBox R2)
  clear h3 h4 h5 h6 z1 HP2 hr3
  go_upto_region 13 with (first | refine wpList_storeN rfl (.tmp 17) _ rfl w3.heap.size rfl R2 rfl Z H4W.out hZs hQs hQ1 ?_ | refine wpList_storeL rfl (.tmp 18) _ rfl (w3.heap.size + 1) rfl #[.int .i64 yi, .int .i64 yf, .int .i64 yt, .string (txt ym)] rfl #[.int .i64 0, .int .i64 0, .int .i64 0, .string ⟨#[]⟩] H5W.out rfl rfl (letter_one _ _ _ _) ?_ | refine wpList_loadN rfl (.tmp 17) rfl w3.heap.size rfl R2 H6W.out hQs ?_ | refine wpList_storeN rfl (.tmp 4) _ rfl w.heap.size rfl R2 rfl R H6.out.box hRs hQs hQ1 ?_)
  have hw1 := H7.out.whole (x := w2.heap.size) (t := 54) (cs := #[.int .i64 yi, .int .i64 yf, .int .i64 yt, .string (txt ym)]) (by simp)
  have hw2 := H7.out.whole (x := w3.heap.size + 1) (t := 85) (cs := #[.int .i64 yi, .int .i64 yf, .int .i64 yt, .string (txt ym)]) (by simp)
  generalize w2.heap.size = b1 at *
  generalize w3.heap.size + 1 = b2 at *
  clear H6 H6W H5W H4W H4 hx hx2 hLT hb3
  generalize (((((w3.alloc _).alloc _).setRow _ _).setRow _ _).setRow _ _) = w7 at *
  obtain ⟨c0, c1, c2, c3⟩ := (show _ ∧ _ ∧ _ ∧ _ from ⟨hw1.cell 0, hw1.cell 1, hw1.cell 2, hw1.cell 3⟩)
  have hw3 := hw2.alloc (.cells #[.int .i64 yi, .int .i64 yf, .int .i64 yt, .string (txt ym)] 54)
  obtain ⟨d0, d1, d2, d3⟩ := (show _ ∧ _ ∧ _ ∧ _ from ⟨hw3.cell 0, hw3.cell 1, hw3.cell 2, hw3.cell 3⟩)
  clear hw1 hw2 hw3
  have HS1 := Lib.hid (sees_new w7 w7.heap.size rfl 4 54 (encL sP ⟨yi, yf, yt, ym⟩) rfl)
  have HS2 := Lib.hid (sees_new (w7.alloc (.cells #[.int .i64 yi, .int .i64 yf, .int .i64 yt, .string (txt ym)] 54)) (w7.heap.size + 1) (by simp) 4 85 (encL sP ⟨yi, yf, yt, ym⟩) rfl)
  go_wp2_with fail
  refine (told_any [⟨yi, yf, yt, ym⟩] (by simp) (some ⟨w7.heap.size, 0, none⟩) (some ⟨w7.heap.size + 1, 0, none⟩) 1 1 (w7.heap.size + 1) (w7.heap.size + 2) _ (by rw [flat_one]; exact HS1.out.alloc (by simp) _) (by rw [flat_one]; exact HS2.out) (by simp) (by simp) (by simp) (by simp)).mono ?_
  rintro e w9 ⟨rfl, hb9⟩
  have h9 := H7.out.call ((((Below.refl _ _).alloc (Nat.le_refl _) (.cells #[.int .i64 yi, .int .i64 yf, .int .i64 yt, .string (txt ym)] 54)).alloc (by simp) (.cells #[.int .i64 yi, .int .i64 yf, .int .i64 yt, .string (txt ym)] 85)).trans (hb9.mono (by simp; omega)))
  have H9 := Lib.hid h9
  have HE := Lib.hid (h9.setRes R2)
  clear h9 hb9 H7 HS1 HS2 c0 c1 c2 c3 d0 d1 d2 d3
  go_wp2_with (first | refine wpList_loadN rfl (.tmp 4) rfl w.heap.size rfl R2 H9.out.box hQs ?_ | refine wpList_storeN rfl (.tmp 6) _ rfl (w.heap.size + 2) rfl R2 rfl Z H9.out.res hZs hQs hQ1 ?_)
  refine bodyPost_ret (ret_net rfl rfl HE.out.res hQs) rfl ?_
  obtain ⟨i1, i2, i3, i4⟩ := take_same n a
  exact ⟨v', (n.take a).1, by rw [i1, i2, i3, HR2.out]; simp [go_sem], HE.out.out.few (fun r hr => by simp [hr]), by omega, by omega⟩
end Go.Proofs.Ytmbednikbdfnmaa
