/- The law's does, kind 6. -/
import Derived.Test.YtmbednikbdfnmaaPostRd
import Derived.Deep.CutRange
namespace Go.Proofs.Ytmbednikbdfnmaa
open Go.ChangeShapes Go.WideShapes Go.ChangeAt Go.RowKit Go.Po Go.Maps
set_option linter.unusedVariables false
set_option linter.unusedSimpArgs false
set_option maxRecDepth 100000

set_option maxHeartbeats 8000000 in
theorem does_none (W w : World) (L : List Row) (g : Nat) (v : Value) (n : Nt (List UInt8)) (h : Pq W w L g v n.under n) (kind : Int) (hk : kind ≠ 0 ∧ kind ≠ 1 ∧ kind ≠ 2 ∧ kind ≠ 3 ∧ kind ≠ 4 ∧ kind ≠ 5) (a b : Int) (ha : W64 a) (hb : W64 b) (s : List UInt8) (off : Bool) (hs : n.sent + 1 ≤ 9223372036854775807) (hp : n.puts < maxLen) :
    Calls Try.prog 20 #[ptr g, .agg (rn n.nodes n.sent n.off v), .agg #[.int .i64 kind, .int .i64 a, .int .i64 b, .string (txt s), .bool off]] w fun e w' => ∃ v' n', e = .returned (.tuple #[.agg (rn n'.nodes n'.sent n'.off v'), .bool true]) ∧ Pq W w' L g v' n'.under n' ∧ n'.sent ≤ n.sent + 1 ∧ n'.puts ≤ n.puts + 1 := by
  have hz := rzero
  obtain ⟨Z, hZ⟩ : ∃ Z, rn 0 0 (fun _ => false) (.slice none 0 0) = Z := ⟨_, rfl⟩
  have hZs : Z.size = 67 := by rw [← hZ]; exact rn_size
  rw [hZ] at hz
  clear hZ
  have HF := Lib.hid h.lp.fine
  have HN := Lib.hid hs
  have HPU := Lib.hid hp
  clear hs hp
  have hRs := rn_size (nodes := n.nodes) (sent := n.sent) (off := n.off) (v := v)
  have hR1 := rone (nodes := n.nodes) (sent := n.sent) (off := n.off) h.one
  obtain ⟨R, hR⟩ : ∃ R, rn n.nodes n.sent n.off v = R := ⟨_, rfl⟩
  rw [hR] at hRs hR1 ⊢
  have HR := Lib.hid hR
  clear hR
  have H0 := Lib.hid (Dp.start h R #[.int .i64 kind, .int .i64 a, .int .i64 b, .string (txt s), .bool off] Z)
  obtain ⟨x0, x1, x2, x3, x4⟩ := (show _ ∧ _ ∧ _ ∧ _ ∧ _ from ⟨H0.out.op.cell 0, H0.out.op.cell 1, H0.out.op.cell 2, H0.out.op.cell 3, H0.out.op.cell 4⟩)
  have hL := Lib.hid h
  clear h
  go_enter Try.func20, Try.ntmps20
  obtain ⟨k0, k1, k2, k3, k4, k5⟩ := hk
  have e0 : (kind == 0) = false := by simpa using k0
  have e1 : (kind == 1) = false := by simpa using k1
  have e2 : (kind == 2) = false := by simpa using k2
  have e3 : (kind == 3) = false := by simpa using k3
  have e4 : (kind == 4) = false := by simpa using k4
  have e5 : (kind == 5) = false := by simpa using k5
  have H5 := Lib.hid (H0.out.setRes R)
  go_wp2_with (first | refine wpList_loadN rfl (.tmp 4) rfl w.heap.size rfl R H0.out.box hRs ?_ | refine wpList_storeN rfl (.tmp 6) _ rfl (w.heap.size + 2) rfl R rfl Z H0.out.res hZs hRs hR1 ?_)
  refine bodyPost_ret (ret_net rfl rfl H5.out.res hRs) rfl ?_
  exact ⟨v, n, by rw [HR.out]; rfl, H5.out.out, by omega, by omega⟩
end Go.Proofs.Ytmbednikbdfnmaa
