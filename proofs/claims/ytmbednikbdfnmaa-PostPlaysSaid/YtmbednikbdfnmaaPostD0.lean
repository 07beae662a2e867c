/- The law's does, kind 0. -/
import Derived.Test.YtmbednikbdfnmaaPostRd
import Derived.Test.YtmbednikbdfnmaaPostRs
import Derived.Deep.CutRange
namespace Go.Proofs.Ytmbednikbdfnmaa
open Go.ChangeShapes Go.WideShapes Go.ChangeAt Go.RowKit Go.Po Go.Maps
set_option linter.unusedVariables false
set_option linter.unusedSimpArgs false
set_option maxRecDepth 100000

set_option maxHeartbeats 8000000 in
theorem does_send (W w : World) (L : List Row) (g : Nat) (v : Value) (n : Nt (List UInt8)) (h : Pq W w L g v n.under n) (a b : Int) (ha : W64 a) (hb : W64 b) (s : List UInt8) (off : Bool) (hs : n.sent + 1 ≤ 9223372036854775807) (hp : n.puts < maxLen) :
    Calls Try.prog 20 #[ptr g, .agg (rn n.nodes n.sent n.off v), .agg #[.int .i64 0, .int .i64 a, .int .i64 b, .string (txt s), .bool off]] w fun e w' => ∃ v' n', e = .returned (.tuple #[.agg (rn n'.nodes n'.sent n'.off v'), .bool true]) ∧ Pq W w' L g v' n'.under n' ∧ n'.sent ≤ n.sent + 1 ∧ n'.puts ≤ n.puts + 1 := by
  have hz := rzero
  obtain ⟨Z, hZ⟩ : ∃ Z, rn 0 0 (fun _ => false) (.slice none 0 0) = Z := ⟨_, rfl⟩
  have hZs : Z.size = 67 := by rw [← hZ]; exact rn_size
  rw [hZ] at hz
  clear hZ
  have HF := Lib.hid h.lp.fine
  have HN := Lib.hid hs
  have HPU := Lib.hid hp
  clear hs hp
  have hRs := rn_size (nodes := n.nodes) (sent := n.sent) (off := n.off) (v := v)
  have hR1 := rone (nodes := n.nodes) (sent := n.sent) (off := n.off) h.one
  have HC := Lib.hid (fun w hv => rsend_any n HF.out v a b ha hb s HN.out w hv)
  obtain ⟨R, hR⟩ : ∃ R, rn n.nodes n.sent n.off v = R := ⟨_, rfl⟩
  rw [hR] at hRs hR1 HC ⊢
  have HR := Lib.hid hR
  clear hR
  have H0 := Lib.hid (Dp.start h R #[.int .i64 0, .int .i64 a, .int .i64 b, .string (txt s), .bool off] Z)
  obtain ⟨x0, x1, x2, x3, x4⟩ := (show _ ∧ _ ∧ _ ∧ _ ∧ _ from ⟨H0.out.op.cell 0, H0.out.op.cell 1, H0.out.op.cell 2, H0.out.op.cell 3, H0.out.op.cell 4⟩)
  have hL := Lib.hid h
  clear h
  go_enter Try.func20, Try.ntmps20
  go_wp2_with fail
  refine (H0.out.turn (fun L h => h.ssend ha hb s HN.out)).mono ?_
  rintro e w2 ⟨rfl, h2⟩
  have H2 := Lib.hid h2
  obtain ⟨y1, y2, y3⟩ := (show _ ∧ _ ∧ _ from ⟨h2.op.cell 1, h2.op.cell 2, h2.op.cell 3⟩)
  clear h2 x0 x1 x2 x3 x4 H0
  go_wp2_with (refine wpList_loadN rfl (.tmp 4) rfl w.heap.size rfl R H2.out.box hRs ?_)
  refine (HC.out w2 H2.out.rs).mono ?_
  rintro e w3 ⟨v', rfl, hr3, hb3⟩
  have h3 := H2.out.told hb3 hr3
  obtain ⟨R2, hR2⟩ : ∃ R2, rn n.nodes (n.send a b s).1.sent n.off v' = R2 := ⟨_, rfl⟩
  have hQs : R2.size = 67 := by rw [← hR2]; exact rn_size
  have hQ1 : R2.all (·.oneCell') = true := by rw [← hR2]; exact rone h3.one
  rw [hR2]
  have HR2 := Lib.hid hR2
  clear hR2
  have hx : W.heap.size ≤ w3.heap.size := by have := h3.low; have := h3.lt; omega
  have h4 := h3.alloc w3.heap.size rfl 38 Z
  have h5 := h4.setFirst hx h3.new R2
  have H4 := Lib.hid (h4.whole (x := w3.heap.size) (t := 38) (cs := Z) (by simp))
  have H5W := Lib.hid (h5.whole (x := w3.heap.size) (t := 38) (cs := R2) (by simp))
  have H5 := Lib.hid h5
  have H6 := Lib.hid (h5.setBox R2)
  have H7 := Lib.hid ((h5.setBox R2).setRes R2)
  clear h3 h4 h5 y1 y2 y3 H2 hr3 hx
  go_wp2_with (first | refine wpList_storeN rfl (.tmp 12) _ rfl w3.heap.size rfl R2 rfl Z H4.out hZs hQs hQ1 ?_ | refine wpList_loadN rfl (.tmp 12) rfl w3.heap.size rfl R2 H5W.out hQs ?_ | refine wpList_storeN rfl (.tmp 4) _ rfl w.heap.size rfl R2 rfl R H5.out.box hRs hQs hQ1 ?_ | refine wpList_loadN rfl (.tmp 4) rfl w.heap.size rfl R2 H6.out.box hQs ?_ | refine wpList_storeN rfl (.tmp 6) _ rfl (w.heap.size + 2) rfl R2 rfl Z H6.out.res hZs hQs hQ1 ?_)
  refine bodyPost_ret (ret_net rfl rfl H7.out.res hQs) rfl ?_
  obtain ⟨i1, i2, i3⟩ := send_same n a b s
  exact ⟨v', (n.send a b s).1, by rw [i1, i2, HR2.out]; simp [go_sem], H7.out.out.few (fun r hr => by simp [hr]), send_most n a b s, by omega⟩
end Go.Proofs.Ytmbednikbdfnmaa
