/- Layer 12: does, kind 1. (Written by gstoe.py.) -/
import Derived.Test.YtcpcepbjdohdmaaStoE
namespace Go.Proofs.Ytcpcepbjdohdmaa
open Go.ChangeShapes Go.WideShapes Go.ChangeAt Go.RowKit Go.Cn Go.So
set_option linter.unusedVariables false
set_option linter.unusedSimpArgs false
set_option maxRecDepth 100000
set_option maxHeartbeats 16000000 in
theorem does1_any {W w : World} {L : List Row} {g : Nat} {s : Sto} {d : Ds} {A : Option Addr} {cap : Nat} (key t : Int) (Ao : Option Addr) (capo : Nat) (lo : List En) (h : Ps W w L g s (ym A)) (hd : Dv w A cap d.l) (hr : Rel d s) (hL : Late s) (hlen : d.l.length ≤ 800000000) (her : Er W Ao capo lo) (h120 : lo.length ≤ 120) (hnil : Ao = none → capo = 0) :
    Calls Try.prog 11 #[ptr g, aggM A d.l.length cap d.closed d.mark, .agg #[.int .i64 1, .int .i64 key, .int .i64 t, .slice Ao lo.length capo]] w fun e w' => ∃ A' cap', e = .returned (.tuple #[aggM A' (d).l.length cap' (d).closed (d).mark, .bool true]) ∧ Ps W w' L g (s) (ym A') ∧ Dv w' A' cap' (d).l := by
  have HF := Lib.hid h.fine
  have HNB := Lib.hid h.low
  have HBX := Lib.hid (fun c6 => h.boxes (oc := #[.int .i64 1, .int .i64 key, .int .i64 t, .slice Ao lo.length capo]) (tO := 33) #[.slice A d.l.length cap, .int .i64 d.closed, .int .i64 d.mark] c6 27 27)
  obtain ⟨hp, hb3, hww, hlo⟩ := h.boxes (oc := #[.int .i64 1, .int .i64 key, .int .i64 t, .slice Ao lo.length capo]) (tO := 33) #[.slice A d.l.length cap, .int .i64 d.closed, .int .i64 d.mark] #[.slice none 0 0, .int .i64 0, .int .i64 0] 27 27
  have HP := Lib.hid hp
  have HD := Lib.hid (hd.call hb3)
  have HDW := Lib.hid hd
  have HLO := Lib.hid hlo
  have HR := Lib.hid hr
  have HLT := Lib.hid hL
  have HER := Lib.hid her
  obtain ⟨⟨c0, c1, c2, e0, e1, e2, cz⟩, ⟨d0, d1, d2, f0, f1, f2, z0⟩, ⟨o0, o1, o2, o3, oz⟩⟩ := does_facts HP.out
  clear h hd hr hL hp hlo her hb3
  have HG := Lib.hid (fun w0 (h0 : Dv w0 A cap d.l) => rget_any A cap d s HR.out HF.out key t w0 h0 (by omega))
  rw [← HR.out.closed, ← HR.out.mark] at HG
  have HPG := Lib.hid (pget key t HP.out)
  generalize getSV s key t = gv at *
  generalize getSE s key t = ge at *
  go_enter Try.func11, Try.ntmps11
  go_wp2_with fail
  refine HPG.out.mono ?_
  rintro e w6 ⟨rfl, hb⟩
  have HD6 := Lib.hid ((HD.out.call hb).alloc (.cells #[.int .i64 gv.1, .int .i64 gv.2] 36))
  replace HP := Lib.hid ((HP.out.call hb).other (.cells #[.int .i64 gv.1, .int .i64 gv.2] 36))
  have HV6 := Lib.hid (Whole.fresh w6 36 #[.int .i64 gv.1, .int .i64 gv.2])
  clear hb HD HPG
  clear c0 c1 c2 e0 e1 e2 cz d0 d1 d2 f0 f1 f2 z0 o0 o1 o2 o3 oz
  obtain ⟨⟨c0, c1, c2, e0, e1, e2, cz⟩, ⟨d0, d1, d2, f0, f1, f2, z0⟩, ⟨o0, o1, o2, o3, oz⟩⟩ := does_facts HP.out
  go_wp2_with fail
  refine (HG.out _ HD6.out).mono ?_
  rintro e w7 ⟨rfl, hb⟩
  have HD7 := Lib.hid ((HD6.out.call hb).alloc (.cells #[.int .i64 gv.1, .int .i64 gv.2] 36))
  replace HP := Lib.hid ((HP.out.call hb).other (.cells #[.int .i64 gv.1, .int .i64 gv.2] 36))
  have HV7 := (HV6.out.below hb (by simp)).alloc (.cells #[.int .i64 gv.1, .int .i64 gv.2] 36)
  have v0 := HV7.cell 0
  have v1 := HV7.cell 1
  have vz := HV7.lt
  have HN7 := Whole.fresh w7 36 #[.int .i64 gv.1, .int .i64 gv.2]
  have n0 := HN7.cell 0
  have n1 := HN7.cell 1
  clear hb HD6 HG HV6 HV7 HN7
  clear c0 c1 c2 e0 e1 e2 cz d0 d1 d2 f0 f1 f2 z0 o0 o1 o2 o3 oz
  obtain ⟨⟨c0, c1, c2, e0, e1, e2, cz⟩, ⟨d0, d1, d2, f0, f1, f2, z0⟩, ⟨o0, o1, o2, o3, oz⟩⟩ := does_facts HP.out
  go_wp2_with fail
  refine bodyPost_ret (by simp [results, Try.results11, go_sem, c0, c1, c2, e0, e1, e2, cz, d0, d1, d2, f0, f1, f2, z0]; try rfl) rfl ?_
  have hfin := (HP.out.fin3 (by omega) (fun r hr => by
    rcases List.mem_cons.1 hr with rfl | hr
    · simp only; omega
    · rcases List.mem_cons.1 hr with rfl | hr
      · simp only; omega
      · have := HLO.out r hr; omega) (.slice A d.l.length cap) (.int .i64 d.closed) (.int .i64 d.mark)).few (L' := L) fun r hr => List.mem_cons_of_mem _ (List.mem_cons_of_mem _ (List.mem_cons_of_mem _ hr))
  refine ⟨A, cap, rfl, hfin, ?_⟩
  refine HD7.out.keep (Y := ym A) ⟨by simp, fun b hb => ?_⟩ fun a ha => ⟨a, ha, rfl⟩
  have hbb := HNB.out b hb
  repeat (first | rfl | (refine (Below.heap_setCell _ _ _ _ (by simp; omega)).trans ?_))
end Go.Proofs.Ytcpcepbjdohdmaa
