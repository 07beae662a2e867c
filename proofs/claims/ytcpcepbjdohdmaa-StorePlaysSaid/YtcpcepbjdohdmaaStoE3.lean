/- Layer 12: does, kind 2. (Written by gstoe.py.) -/
import Derived.Test.YtcpcepbjdohdmaaStoEa
import Derived.Test.YtcpcepbjdohdmaaStoDx
namespace Go.Proofs.Ytcpcepbjdohdmaa
open Go.ChangeShapes Go.WideShapes Go.ChangeAt Go.RowKit Go.Cn Go.So
set_option linter.unusedVariables false
set_option linter.unusedSimpArgs false
set_option maxRecDepth 100000
theorem snapS_len (s : Sto) (t : Int) : (snapS s t).length ≤ 8192 := by
  unfold snapS
  split
  · unfold snapL
    have := List.length_filterMap_le (entOf s t) allK
    rw [allK_len] at this
    exact this
  · simp
set_option maxHeartbeats 16000000 in
theorem does2_any {W w : World} {L : List Row} {g : Nat} {s : Sto} {d : Ds} {A : Option Addr} {cap : Nat} (key t : Int) (Ao : Option Addr) (capo : Nat) (lo : List En) (h : Ps W w L g s (ym A)) (hd : Dv w A cap d.l) (hr : Rel d s) (hL : Late s) (hlen : d.l.length ≤ 800000000) (her : Er W Ao capo lo) (h120 : lo.length ≤ 120) (hnil : Ao = none → capo = 0) :
    Calls Try.prog 11 #[ptr g, aggM A d.l.length cap d.closed d.mark, .agg #[.int .i64 2, .int .i64 key, .int .i64 t, .slice Ao lo.length capo]] w fun e w' => ∃ A' cap', e = .returned (.tuple #[aggM A' (d).l.length cap' (d).closed (d).mark, .bool true]) ∧ Ps W w' L g (s) (ym A') ∧ Dv w' A' cap' (d).l := by
  have HF := Lib.hid h.fine
  have HNB := Lib.hid h.low
  have HBX := Lib.hid (fun c6 => h.boxes (oc := #[.int .i64 2, .int .i64 key, .int .i64 t, .slice Ao lo.length capo]) (tO := 33) #[.slice A d.l.length cap, .int .i64 d.closed, .int .i64 d.mark] c6 27 27)
  obtain ⟨hp, hb3, hww, hlo⟩ := h.boxes (oc := #[.int .i64 2, .int .i64 key, .int .i64 t, .slice Ao lo.length capo]) (tO := 33) #[.slice A d.l.length cap, .int .i64 d.closed, .int .i64 d.mark] #[.slice none 0 0, .int .i64 0, .int .i64 0] 27 27
  have HP := Lib.hid hp
  have HD := Lib.hid (hd.call hb3)
  have HDW := Lib.hid hd
  have HLO := Lib.hid hlo
  have HR := Lib.hid hr
  have HLT := Lib.hid hL
  have HER := Lib.hid her
  obtain ⟨⟨c0, c1, c2, e0, e1, e2, cz⟩, ⟨d0, d1, d2, f0, f1, f2, z0⟩, ⟨o0, o1, o2, o3, oz⟩⟩ := does_facts HP.out
  clear h hd hr hL hp hlo her hb3
  have HSL := Lib.hid (snapS_len s t)
  have HSNP := Lib.hid (psnap t HP.out)
  have HRS := Lib.hid (fun w0 (h0 : Dv w0 A cap d.l) => rsnap_any A cap d s HR.out HF.out t w0 h0 (by omega))
  rw [← HR.out.closed, ← HR.out.mark] at HRS
  generalize snapS s t = sl at *
  generalize tellsE s t = te at *
  go_enter Try.func11, Try.ntmps11
  go_wp2_with fail
  refine HSNP.out.mono ?_
  rintro e w6 ⟨A1, cap1, rfl, hb, ho⟩
  have ho' : w6.ownsRow (w.heap.size + 1 + 1 + 1) 58 2 (.slice A1 sl.length cap1) sl.length (flat encE sl) := by simpa using ho
  have HA1 : Hid (∀ a, A1 = some a → w.heap.size + 1 + 1 + 1 ≤ a.block ∧ a.block < w6.heap.size) := Lib.hid fun a ha => by
    have hx := (at_own (w := ((w.alloc (.cells #[.slice A d.l.length cap, .int .i64 d.closed, .int .i64 d.mark] 27)).alloc (.cells #[.int .i64 2, .int .i64 key, .int .i64 t, .slice Ao lo.length capo] 33)).alloc (.cells #[.slice none 0 0, .int .i64 0, .int .i64 0] 27)) (w' := w6) (A := none) ho' (by simp) (Nat.le_refl _)) a ha
    rcases hx with hx | hx
    · cases hx
    · simpa using hx
  replace HP := Lib.hid (HP.out.more (Y' := fun x => ym A1 x ∨ ym A x) hb fun b hb => by
    rcases hb with ⟨a, h1, h2⟩ | hb
    · have := HA1.out a h1; exact .inr (by simp; omega)
    · exact .inl hb)
  have HD6 := Lib.hid (HD.out.call hb)
  have HO6 := Lib.hid ho'
  clear hb ho ho' HD HSNP
  clear c0 c1 c2 e0 e1 e2 cz d0 d1 d2 f0 f1 f2 z0 o0 o1 o2 o3 oz
  obtain ⟨⟨c0, c1, c2, e0, e1, e2, cz⟩, ⟨d0, d1, d2, f0, f1, f2, z0⟩, ⟨o0, o1, o2, o3, oz⟩⟩ := does_facts HP.out
  go_wp2_with fail
  refine (HRS.out w6 HD6.out).mono ?_
  rintro e w7 ⟨A2, cap2, rfl, hb, ho⟩
  have HO7 := Lib.hid (own_keep HO6.out hb (Nat.le_refl _))
  have HQ7 := Lib.hid ho
  replace HP := Lib.hid (HP.out.call hb)
  have HD7 := Lib.hid (HD6.out.call hb)
  have HC1 : Hid (sl.length ≤ cap1) := Lib.hid (by
    obtain ⟨_, _, u1, u2, -⟩ := own_slice0 HO7.out
    injection u1 with _ _ u1
    omega)
  have HC2 : Hid (sl.length ≤ cap2) := Lib.hid (by
    obtain ⟨_, _, u1, u2, -⟩ := own_slice0 HQ7.out
    injection u1 with _ _ u1
    omega)
  have hz7 := hb.size
  clear hb ho HD6 HO6 HRS
  clear c0 c1 c2 e0 e1 e2 cz d0 d1 d2 f0 f1 f2 z0 o0 o1 o2 o3 oz
  obtain ⟨⟨c0, c1, c2, e0, e1, e2, cz⟩, ⟨d0, d1, d2, f0, f1, f2, z0⟩, ⟨o0, o1, o2, o3, oz⟩⟩ := does_facts HP.out
  go_wp2_with fail
  refine (rsame_any A1 cap1 A2 cap2 sl w7 (Sees.own HO7.out) (Sees.own HQ7.out) HC1.out HC2.out (by have := HSL.out; omega)).mono ?_
  rintro e w8 ⟨rfl, hb⟩
  have HE8 : Hid (0 < sl.length → ∃ b, A1 = some ⟨b, 0, none⟩ ∧ w.heap.size + 1 + 1 + 1 ≤ b ∧ ¬ ym A b ∧ AnyE w8 b sl.length) := Lib.hid fun hn => by
    obtain ⟨b, h1, h2, h3, h4⟩ := AnyE.own HO7.out rfl hn
    exact ⟨b, h1, h2, fun hb => by have := HNB.out _ hb; omega, h4.call hb⟩
  have HP8 := Lib.hid (HP.out.call hb)
  have HD8 := Lib.hid (HD7.out.call hb)
  have hsl := HSL.out
  have hc1 := HC1.out
  clear hb HP HD7 HO7 HQ7 HC1 HC2
  clear c0 c1 c2 e0 e1 e2 cz d0 d1 d2 f0 f1 f2 z0 o0 o1 o2 o3 oz
  go_wp2_with fail
  go_loopw [20] (fun i wr => ∃ k : Nat, k ≤ sl.length ∧ i = .int .i64 (k : Int) ∧ Ps W wr ((w.heap.size + 1 + 1, 27, #[.slice none 0 0, .int .i64 0, .int .i64 0]) :: (w.heap.size + 1, 33, #[.int .i64 2, .int .i64 key, .int .i64 t, .slice Ao lo.length capo]) :: (w.heap.size, 27, #[.slice A d.l.length cap, .int .i64 d.closed, .int .i64 d.mark]) :: L) g s (fun x => ym A1 x ∨ ym A x) ∧ Dv wr A cap d.l ∧ (0 < sl.length → ∃ b, A1 = some ⟨b, 0, none⟩ ∧ w.heap.size + 1 + 1 + 1 ≤ b ∧ ¬ ym A b ∧ AnyE wr b sl.length)) (fun i _ => sl.length - (intOf i).toNat)
  case atStart => exact ⟨0, by omega, rfl, HP8.out, HD8.out, HE8.out⟩
  case round =>
    obtain ⟨k, hk, rfl, hp, hd, he⟩ := hrel
    have HP := Lib.hid hp
    have HD := Lib.hid hd
    have HE := Lib.hid he
    clear hp hd he HP8 HD8 HE8
    by_cases hlt : k < sl.length
    · obtain ⟨b, rfl, hb, hnb, he⟩ := HE.out (by omega)
      have HAE := Lib.hid he
      obtain ⟨cs, hwb, hcs⟩ := he
      obtain ⟨x, hx⟩ := hcs k hlt
      have q1 := hwb.cell (k * 2 + 1)
      rw [hx] at q1
      have q2 := hwb.free (k * 2 + 1)
      have q3 := hwb.lt
      have i1 : (k : Int) < (sl.length : Int) := by omega
      have HL8 : Hid (∀ r ∈ ((w.heap.size + 1 + 1, 27, #[.slice none 0 0, .int .i64 0, .int .i64 0]) :: (w.heap.size + 1, 33, #[.int .i64 2, .int .i64 key, .int .i64 t, .slice Ao lo.length capo]) :: (w.heap.size, 27, #[.slice A d.l.length cap, .int .i64 d.closed, .int .i64 d.mark]) :: L), r.1 ≠ b) := Lib.hid fun r hr => by
        rcases List.mem_cons.1 hr with rfl | hr
        · simp only; omega
        · rcases List.mem_cons.1 hr with rfl | hr
          · simp only; omega
          · rcases List.mem_cons.1 hr with rfl | hr
            · simp only; omega
            · have := HLO.out r hr; omega
      clear hwb hcs hx HE
      go_wp2_with fail
      go_roundw
      case rel => exact ⟨k + 1, by omega, by go_num, HP.out.any (by omega) HL8.out (.inl ⟨_, rfl, rfl⟩) _ _, HD.out.away hnb _ _, fun _ => ⟨b, rfl, hb, hnb, HAE.out.set k _⟩⟩
      case measure => simp [intOf]; omega
    · obtain rfl : k = sl.length := by omega
      obtain ⟨⟨c0, c1, c2, e0, e1, e2, cz⟩, ⟨d0, d1, d2, f0, f1, f2, z0⟩, ⟨o0, o1, o2, o3, oz⟩⟩ := does_facts HP.out
      have n6 : ¬ ym A (w.heap.size + 1 + 1) := fun hb => by have := HNB.out _ hb; omega
      go_wp2_with fail
      refine bodyPost_ret (by simp [results, Try.results11, go_sem, c0, c1, c2, e0, e1, e2, cz, d0, d1, d2, f0, f1, f2, z0]; try rfl) rfl ?_
      have hfin := (HP.out.fin3 (by omega) (fun r hr => by
        rcases List.mem_cons.1 hr with rfl | hr
        · simp only; omega
        · rcases List.mem_cons.1 hr with rfl | hr
          · simp only; omega
          · have := HLO.out r hr; omega) (.slice A d.l.length cap) (.int .i64 d.closed) (.int .i64 d.mark)).few (L' := L) fun r hr => List.mem_cons_of_mem _ (List.mem_cons_of_mem _ (List.mem_cons_of_mem _ hr))
      exact ⟨A, cap, rfl, hfin.less fun b hb => .inr hb, ((HD.out.away n6 0 _).away n6 1 _).away n6 2 _⟩
end Go.Proofs.Ytcpcepbjdohdmaa
