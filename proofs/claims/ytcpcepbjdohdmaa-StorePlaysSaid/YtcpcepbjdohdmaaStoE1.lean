/- Layer 12: does, kinds 3, 4, none. (Written by gstoe.py.) -/
import Derived.Test.YtcpcepbjdohdmaaStoEa
import Derived.Test.YtcpcepbjdohdmaaStoDx
namespace Go.Proofs.Ytcpcepbjdohdmaa
open Go.ChangeShapes Go.WideShapes Go.ChangeAt Go.RowKit Go.Cn Go.So
set_option linter.unusedVariables false
set_option linter.unusedSimpArgs false
set_option maxRecDepth 100000
set_option maxHeartbeats 16000000 in
theorem does4_any {W w : World} {L : List Row} {g : Nat} {s : Sto} {d : Ds} {A : Option Addr} {cap : Nat} (key t : Int) (Ao : Option Addr) (capo : Nat) (lo : List En) (h : Ps W w L g s (ym A)) (hd : Dv w A cap d.l) (hr : Rel d s) (hL : Late s) (hlen : d.l.length ≤ 800000000) (her : Er W Ao capo lo) (h120 : lo.length ≤ 120) (hnil : Ao = none → capo = 0) :
    Calls Try.prog 11 #[ptr g, aggM A d.l.length cap d.closed d.mark, .agg #[.int .i64 4, .int .i64 key, .int .i64 t, .slice Ao lo.length capo]] w fun e w' => ∃ A' cap', e = .returned (.tuple #[aggM A' (closeD d t).l.length cap' (closeD d t).closed (closeD d t).mark, .bool true]) ∧ Ps W w' L g (closeS s t) (ym A') ∧ Dv w' A' cap' (closeD d t).l := by
  have HF := Lib.hid h.fine
  have HNB := Lib.hid h.low
  have HBX := Lib.hid (fun c6 => h.boxes (oc := #[.int .i64 4, .int .i64 key, .int .i64 t, .slice Ao lo.length capo]) (tO := 33) #[.slice A d.l.length cap, .int .i64 d.closed, .int .i64 d.mark] c6 27 27)
  obtain ⟨hp, hb3, hww, hlo⟩ := h.boxes (oc := #[.int .i64 4, .int .i64 key, .int .i64 t, .slice Ao lo.length capo]) (tO := 33) #[.slice A d.l.length cap, .int .i64 d.closed, .int .i64 d.mark] #[.slice none 0 0, .int .i64 0, .int .i64 0] 27 27
  have HP := Lib.hid hp
  have HD := Lib.hid (hd.call hb3)
  have HDW := Lib.hid hd
  have HLO := Lib.hid hlo
  have HR := Lib.hid hr
  have HLT := Lib.hid hL
  have HER := Lib.hid her
  obtain ⟨⟨c0, c1, c2, e0, e1, e2, cz⟩, ⟨d0, d1, d2, f0, f1, f2, z0⟩, ⟨o0, o1, o2, o3, oz⟩⟩ := does_facts HP.out
  clear h hd hr hL hp hlo her hb3
  go_enter Try.func11, Try.ntmps11
  go_wp2_with fail
  refine (pclose t HP.out).mono ?_
  rintro e w6 ⟨rfl, hp, hk⟩
  have HD6 := Lib.hid (HD.out.keep hk fun a ha => ⟨a, ha, rfl⟩)
  replace HP := Lib.hid hp
  clear hp hk HD
  clear c0 c1 c2 e0 e1 e2 cz d0 d1 d2 f0 f1 f2 z0 o0 o1 o2 o3 oz
  obtain ⟨⟨c0, c1, c2, e0, e1, e2, cz⟩, ⟨d0, d1, d2, f0, f1, f2, z0⟩, ⟨o0, o1, o2, o3, oz⟩⟩ := does_facts HP.out
  go_wp2_with fail
  refine (rclose_any A cap d t w6 HD6.out).mono ?_
  rintro e w7 ⟨rfl, hb⟩
  replace HP := Lib.hid (HP.out.call hb)
  have HD7 := Lib.hid (HD6.out.call hb)
  clear hb HD6
  clear c0 c1 c2 e0 e1 e2 cz d0 d1 d2 f0 f1 f2 z0 o0 o1 o2 o3 oz
  obtain ⟨⟨c0, c1, c2, e0, e1, e2, cz⟩, ⟨d0, d1, d2, f0, f1, f2, z0⟩, ⟨o0, o1, o2, o3, oz⟩⟩ := does_facts HP.out
  go_wp2_with fail
  refine bodyPost_ret (by simp [results, Try.results11, go_sem, c0, c1, c2, e0, e1, e2, cz, d0, d1, d2, f0, f1, f2, z0]; try rfl) rfl ?_
  have hq : (closeD d t).l = d.l ∧ (closeD d t).mark = d.mark := by unfold closeD; split <;> exact ⟨rfl, rfl⟩
  rw [hq.1, hq.2]
  have hfin := HP.out.fin6 hww (by omega) (by omega) HLO.out (.slice A d.l.length cap) (.int .i64 (closeD d t).closed) (.int .i64 d.mark) (.slice A d.l.length cap) (.int .i64 (closeD d t).closed) (.int .i64 d.mark)
  refine ⟨A, cap, rfl, hfin, ?_⟩
  have n4 : ¬ ym A w.heap.size := fun hb => by have := HNB.out _ hb; omega
  have n6 : ¬ ym A (w.heap.size + 1 + 1) := fun hb => by have := HNB.out _ hb; omega
  exact (((((HD7.out.away n4 0 _).away n4 1 _).away n4 2 _).away n6 0 _).away n6 1 _).away n6 2 _
set_option maxHeartbeats 16000000 in
theorem does3_any {W w : World} {L : List Row} {g : Nat} {s : Sto} {d : Ds} {A : Option Addr} {cap : Nat} (key t : Int) (Ao : Option Addr) (capo : Nat) (lo : List En) (h : Ps W w L g s (ym A)) (hd : Dv w A cap d.l) (hr : Rel d s) (hL : Late s) (hlen : d.l.length ≤ 800000000) (her : Er W Ao capo lo) (h120 : lo.length ≤ 120) (hnil : Ao = none → capo = 0) :
    Calls Try.prog 11 #[ptr g, aggM A d.l.length cap d.closed d.mark, .agg #[.int .i64 3, .int .i64 key, .int .i64 t, .slice Ao lo.length capo]] w fun e w' => ∃ A' cap', e = .returned (.tuple #[aggM A' (pruneD d s t).l.length cap' (pruneD d s t).closed (pruneD d s t).mark, .bool true]) ∧ Ps W w' L g (pruneS s t) (ym A') ∧ Dv w' A' cap' (pruneD d s t).l := by
  have HF := Lib.hid h.fine
  have HNB := Lib.hid h.low
  have HBX := Lib.hid (fun c6 => h.boxes (oc := #[.int .i64 3, .int .i64 key, .int .i64 t, .slice Ao lo.length capo]) (tO := 33) #[.slice A d.l.length cap, .int .i64 d.closed, .int .i64 d.mark] c6 27 27)
  obtain ⟨hp, hb3, hww, hlo⟩ := h.boxes (oc := #[.int .i64 3, .int .i64 key, .int .i64 t, .slice Ao lo.length capo]) (tO := 33) #[.slice A d.l.length cap, .int .i64 d.closed, .int .i64 d.mark] #[.slice none 0 0, .int .i64 0, .int .i64 0] 27 27
  have HP := Lib.hid hp
  have HD := Lib.hid (hd.call hb3)
  have HDW := Lib.hid hd
  have HLO := Lib.hid hlo
  have HR := Lib.hid hr
  have HLT := Lib.hid hL
  have HER := Lib.hid her
  obtain ⟨⟨c0, c1, c2, e0, e1, e2, cz⟩, ⟨d0, d1, d2, f0, f1, f2, z0⟩, ⟨o0, o1, o2, o3, oz⟩⟩ := does_facts HP.out
  clear h hd hr hL hp hlo her hb3
  have hq : (pruneD d s t).closed = d.closed := by unfold pruneD; split <;> rfl
  have HPRU := Lib.hid (fun w0 (h0 : Dv w0 A cap d.l) => rprune_any A cap d s HR.out t w0 h0 (by omega))
  rw [hq]
  clear hq
  generalize (pruneD d s t).l = l9 at *
  generalize (pruneD d s t).mark = m9 at *
  go_enter Try.func11, Try.ntmps11
  go_wp2_with fail
  refine (pprune t HP.out).mono ?_
  rintro e w6 ⟨rfl, hp, hk⟩
  have HD6 := Lib.hid (HD.out.keep hk fun a ha => ⟨a, ha, rfl⟩)
  replace HP := Lib.hid hp
  clear hp hk HD
  clear c0 c1 c2 e0 e1 e2 cz d0 d1 d2 f0 f1 f2 z0 o0 o1 o2 o3 oz
  obtain ⟨⟨c0, c1, c2, e0, e1, e2, cz⟩, ⟨d0, d1, d2, f0, f1, f2, z0⟩, ⟨o0, o1, o2, o3, oz⟩⟩ := does_facts HP.out
  go_wp2_with fail
  refine (HPRU.out w6 HD6.out).mono ?_
  rintro e w7 ⟨A', cap', rfl, hb, hd7, hat⟩
  have HAT := Lib.hid hat
  have HZ6 := Lib.hid z0
  replace HP := Lib.hid (HP.out.at hb hat)
  have HD7 := Lib.hid hd7
  clear hb HD6 hat hd7
  clear c0 c1 c2 e0 e1 e2 cz d0 d1 d2 f0 f1 f2 z0 o0 o1 o2 o3 oz
  obtain ⟨⟨c0, c1, c2, e0, e1, e2, cz⟩, ⟨d0, d1, d2, f0, f1, f2, z0⟩, ⟨o0, o1, o2, o3, oz⟩⟩ := does_facts HP.out
  go_wp2_with fail
  refine bodyPost_ret (by simp [results, Try.results11, go_sem, c0, c1, c2, e0, e1, e2, cz, d0, d1, d2, f0, f1, f2, z0]; try rfl) rfl ?_
  have hfin := HP.out.fin6 hww (by omega) (by omega) HLO.out (.slice A' l9.length cap') (.int .i64 d.closed) (.int .i64 m9) (.slice A' l9.length cap') (.int .i64 d.closed) (.int .i64 m9)
  refine ⟨A', cap', rfl, hfin, ?_⟩
  have hbb : ∀ b, ym A' b → b < w.heap.size ∨ w.heap.size + 1 + 1 < b := fun b hb => by
    obtain ⟨a, h1, h2⟩ := hb
    rcases HAT.out a h1 with h3 | h3
    · exact .inl (HNB.out b ⟨a, h3, h2⟩)
    · have := HZ6.out; omega
  have n4 : ¬ ym A' w.heap.size := fun hb => by have := hbb _ hb; omega
  have n6 : ¬ ym A' (w.heap.size + 1 + 1) := fun hb => by have := hbb _ hb; omega
  exact (((((HD7.out.away n4 0 _).away n4 1 _).away n4 2 _).away n6 0 _).away n6 1 _).away n6 2 _
set_option maxHeartbeats 16000000 in
theorem does9_any {W w : World} {L : List Row} {g : Nat} {s : Sto} {d : Ds} {A : Option Addr} {cap : Nat} (k key t : Int) (k0 : ¬ k = 0) (k1 : ¬ k = 1) (k2 : ¬ k = 2) (k3 : ¬ k = 3) (k4 : ¬ k = 4) (Ao : Option Addr) (capo : Nat) (lo : List En) (h : Ps W w L g s (ym A)) (hd : Dv w A cap d.l) (hr : Rel d s) (hL : Late s) (hlen : d.l.length ≤ 800000000) (her : Er W Ao capo lo) (h120 : lo.length ≤ 120) (hnil : Ao = none → capo = 0) :
    Calls Try.prog 11 #[ptr g, aggM A d.l.length cap d.closed d.mark, .agg #[.int .i64 k, .int .i64 key, .int .i64 t, .slice Ao lo.length capo]] w fun e w' => ∃ A' cap', e = .returned (.tuple #[aggM A' (d).l.length cap' (d).closed (d).mark, .bool true]) ∧ Ps W w' L g (s) (ym A') ∧ Dv w' A' cap' (d).l := by
  have HF := Lib.hid h.fine
  have HNB := Lib.hid h.low
  have HBX := Lib.hid (fun c6 => h.boxes (oc := #[.int .i64 k, .int .i64 key, .int .i64 t, .slice Ao lo.length capo]) (tO := 33) #[.slice A d.l.length cap, .int .i64 d.closed, .int .i64 d.mark] c6 27 27)
  obtain ⟨hp, hb3, hww, hlo⟩ := h.boxes (oc := #[.int .i64 k, .int .i64 key, .int .i64 t, .slice Ao lo.length capo]) (tO := 33) #[.slice A d.l.length cap, .int .i64 d.closed, .int .i64 d.mark] #[.slice none 0 0, .int .i64 0, .int .i64 0] 27 27
  have HP := Lib.hid hp
  have HD := Lib.hid (hd.call hb3)
  have HDW := Lib.hid hd
  have HLO := Lib.hid hlo
  have HR := Lib.hid hr
  have HLT := Lib.hid hL
  have HER := Lib.hid her
  obtain ⟨⟨c0, c1, c2, e0, e1, e2, cz⟩, ⟨d0, d1, d2, f0, f1, f2, z0⟩, ⟨o0, o1, o2, o3, oz⟩⟩ := does_facts HP.out
  clear h hd hr hL hp hlo her hb3
  go_enter Try.func11, Try.ntmps11
  go_wp2_with fail
  refine bodyPost_ret (by simp [results, Try.results11, go_sem, c0, c1, c2, e0, e1, e2, cz, d0, d1, d2, f0, f1, f2, z0]; try rfl) rfl ?_
  obtain ⟨hp, hb, -⟩ := HBX.out #[.slice A d.l.length cap, .int .i64 d.closed, .int .i64 d.mark]
  exact ⟨A, cap, rfl, hp.few fun r hr => List.mem_cons_of_mem _ (List.mem_cons_of_mem _ (List.mem_cons_of_mem _ hr)), HDW.out.call hb⟩
end Go.Proofs.Ytcpcepbjdohdmaa
