/- The law's does, kind 3. -/
import Derived.Test.YtmbednikbdfnmaaPostRd
import Derived.Deep.CutRange
namespace Go.Proofs.Ytmbednikbdfnmaa
open Go.ChangeShapes Go.WideShapes Go.ChangeAt Go.RowKit Go.Po Go.Maps
set_option linter.unusedVariables false
set_option linter.unusedSimpArgs false
set_option maxRecDepth 100000

set_option maxHeartbeats 8000000 in
theorem does_lose (W w : World) (L : List Row) (g : Nat) (v : Value) (n : Nt (List UInt8)) (h : Pq W w L g v n.under n) (a b : Int) (ha : W64 a) (hb : W64 b) (s : List UInt8) (off : Bool) (hs : n.sent + 1 ≤ 9223372036854775807) (hp : n.puts < maxLen) :
    Calls Try.prog 20 #[ptr g, .agg (rn n.nodes n.sent n.off v), .agg #[.int .i64 3, .int .i64 a, .int .i64 b, .string (txt s), .bool off]] w fun e w' => ∃ v' n', e = .returned (.tuple #[.agg (rn n'.nodes n'.sent n'.off v'), .bool true]) ∧ Pq W w' L g v' n'.under n' ∧ n'.sent ≤ n.sent + 1 ∧ n'.puts ≤ n.puts + 1 := by
  have hz := rzero
  obtain ⟨Z, hZ⟩ : ∃ Z, rn 0 0 (fun _ => false) (.slice none 0 0) = Z := ⟨_, rfl⟩
  have hZs : Z.size = 67 := by rw [← hZ]; exact rn_size
  rw [hZ] at hz
  clear hZ
  have HF := Lib.hid h.lp.fine
  have HN := Lib.hid hs
  have HPU := Lib.hid hp
  clear hs hp
  have hRs := rn_size (nodes := n.nodes) (sent := n.sent) (off := n.off) (v := v)
  have hR1 := rone (nodes := n.nodes) (sent := n.sent) (off := n.off) h.one
  have HC := Lib.hid (fun w hv => rlose_any n HF.out v a ha w hv)
  obtain ⟨R, hR⟩ : ∃ R, rn n.nodes n.sent n.off v = R := ⟨_, rfl⟩
  rw [hR] at hRs hR1 HC ⊢
  have HR := Lib.hid hR
  clear hR
  have H0 := Lib.hid (Dp.start h R #[.int .i64 3, .int .i64 a, .int .i64 b, .string (txt s), .bool off] Z)
  obtain ⟨x0, x1, x2, x3, x4⟩ := (show _ ∧ _ ∧ _ ∧ _ ∧ _ from ⟨H0.out.op.cell 0, H0.out.op.cell 1, H0.out.op.cell 2, H0.out.op.cell 3, H0.out.op.cell 4⟩)
  have hL := Lib.hid h
  clear h
  go_enter Try.func20, Try.ntmps20
  go_wp2_with fail
  refine (H0.out.turn (fun L h => h.slose ha)).mono ?_
  rintro e w2 ⟨rfl, h2⟩
  have H2 := Lib.hid h2
  obtain ⟨y1, y4⟩ := (show _ ∧ _ from ⟨h2.op.cell 1, h2.op.cell 4⟩)
  clear h2 x0 x1 x2 x3 x4 H0
  go_wp2_with (refine wpList_loadN rfl (.tmp 4) rfl w.heap.size rfl R H2.out.box hRs ?_)
  refine (HC.out w2 H2.out.rs).mono ?_
  rintro e w3 ⟨v', rfl, hr3, hb3⟩
  have h3 := H2.out.told hb3 hr3
  obtain ⟨R2, hR2⟩ : ∃ R2, rn n.nodes n.sent n.off v' = R2 := ⟨_, rfl⟩
  have hQs : R2.size = 67 := by rw [← hR2]; exact rn_size
  have hQ1 : R2.all (·.oneCell') = true := by rw [← hR2]; exact rone h3.one
  rw [hR2]
  have HR2 := Lib.hid hR2
  clear hR2
  have H3 := Lib.hid h3
  have H4 := Lib.hid (h3.setBox R2)
  have H5 := Lib.hid ((h3.setBox R2).setRes R2)
  clear h3 y1 y4 H2 hr3
  go_wp2_with (first | refine wpList_storeN rfl (.tmp 4) _ rfl w.heap.size rfl R2 rfl R H3.out.box hRs hQs hQ1 ?_ | refine wpList_loadN rfl (.tmp 4) rfl w.heap.size rfl R2 H4.out.box hQs ?_ | refine wpList_storeN rfl (.tmp 6) _ rfl (w.heap.size + 2) rfl R2 rfl Z H4.out.res hZs hQs hQ1 ?_)
  refine bodyPost_ret (ret_net rfl rfl H5.out.res hQs) rfl ?_
  obtain ⟨i1, i2, i3, i4⟩ := lose_same n a
  exact ⟨v', (n.lose a).1, by rw [i1, i2, i3, HR2.out]; simp [go_sem], H5.out.out, by omega, by omega⟩
end Go.Proofs.Ytmbednikbdfnmaa
