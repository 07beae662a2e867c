/- Layer 12: does, kind 0. (Written by gstoe.py.) -/
import Derived.Test.YtcpcepbjdohdmaaStoEa
import Derived.Test.YtcpcepbjdohdmaaStoDx
namespace Go.Proofs.Ytcpcepbjdohdmaa
open Go.ChangeShapes Go.WideShapes Go.ChangeAt Go.RowKit Go.Cn Go.So
set_option linter.unusedVariables false
set_option linter.unusedSimpArgs false
set_option maxRecDepth 100000
set_option maxHeartbeats 16000000 in
theorem does0_any {W w : World} {L : List Row} {g : Nat} {s : Sto} {d : Ds} {A : Option Addr} {cap : Nat} (key t : Int) (Ao : Option Addr) (capo : Nat) (lo : List En) (h : Ps W w L g s (ym A)) (hd : Dv w A cap d.l) (hr : Rel d s) (hL : Late s) (hlen : d.l.length ≤ 800000000) (her : Er W Ao capo lo) (h120 : lo.length ≤ 120) (hnil : Ao = none → capo = 0) :
    Calls Try.prog 11 #[ptr g, aggM A d.l.length cap d.closed d.mark, .agg #[.int .i64 0, .int .i64 key, .int .i64 t, .slice Ao lo.length capo]] w fun e w' => ∃ A' cap', e = .returned (.tuple #[aggM A' ((⟨putD d s t lo, d.closed, d.mark⟩ : Ds)).l.length cap' ((⟨putD d s t lo, d.closed, d.mark⟩ : Ds)).closed ((⟨putD d s t lo, d.closed, d.mark⟩ : Ds)).mark, .bool true]) ∧ Ps W w' L g (putS s t lo) (ym A') ∧ Dv w' A' cap' ((⟨putD d s t lo, d.closed, d.mark⟩ : Ds)).l := by
  have HF := Lib.hid h.fine
  have HNB := Lib.hid h.low
  have HBX := Lib.hid (fun c6 => h.boxes (oc := #[.int .i64 0, .int .i64 key, .int .i64 t, .slice Ao lo.length capo]) (tO := 33) #[.slice A d.l.length cap, .int .i64 d.closed, .int .i64 d.mark] c6 27 27)
  obtain ⟨hp, hb3, hww, hlo⟩ := h.boxes (oc := #[.int .i64 0, .int .i64 key, .int .i64 t, .slice Ao lo.length capo]) (tO := 33) #[.slice A d.l.length cap, .int .i64 d.closed, .int .i64 d.mark] #[.slice none 0 0, .int .i64 0, .int .i64 0] 27 27
  have HP := Lib.hid hp
  have HD := Lib.hid (hd.call hb3)
  have HDW := Lib.hid hd
  have HLO := Lib.hid hlo
  have HR := Lib.hid hr
  have HLT := Lib.hid hL
  have HER := Lib.hid her
  have her2 := her
  obtain ⟨⟨c0, c1, c2, e0, e1, e2, cz⟩, ⟨d0, d1, d2, f0, f1, f2, z0⟩, ⟨o0, o1, o2, o3, oz⟩⟩ := does_facts HP.out
  clear h hd hr hL hp hlo her hb3
  have HO0 := Lib.hid (ow_new (((w.alloc (.cells #[.slice A d.l.length cap, .int .i64 d.closed, .int .i64 d.mark] 27)).alloc (.cells #[.int .i64 0, .int .i64 key, .int .i64 t, .slice Ao lo.length capo] 33)).alloc (.cells #[.slice none 0 0, .int .i64 0, .int .i64 0] 27)) 58 2 (w.heap.size + 1 + 1 + 1) (by simp))
  have HPE := Lib.hid (HP.out.other (.cells #[] 58))
  have HS0 := Lib.hid ((HER.out.old HPE.out).sees)
  have hroom := her2.room
  have htop := her2.top
  have hgood := Lib.hid her2.good
  clear her2
  have HPU := Lib.hid (fun (w0 : World) (L0 : List Row) (Y0 : Nat → Prop) (A0 : Option Addr) (cap0 : Nat) (h0 : Ps W w0 L0 g s Y0) (hr0 : Er w0 A0 cap0 lo) hf0 => pput t h0 hr0 hf0)
  have HRU := Lib.hid (fun w0 (h0 : Dv w0 A cap d.l) hs0 => rput_any A cap d s HR.out HF.out t Ao capo lo w0 h0 (by omega) hs0 hroom htop)
  dsimp only
  generalize putD d s t lo = l9 at *
  generalize putSE s t lo = pe at *
  generalize putS s t lo = s9 at *
  go_enter Try.func11, Try.ntmps11
  go_wp2_with (at_builtin; refine wpList_appG rfl (.tmp 25) (.tmp 27) _ 58 _ 2 16 rfl info_ent Try.underlying31 rfl (by decide) (w.heap.size + 1 + 1 + 1) _ 0 [] rfl HO0.out _ Ao lo.length capo (flat encE lo) rfl HS0.out hnil (encE_one _) (by omega) (by omega) (by simp) ?_)
  intro v1 y1 ho1 hg1
  have HB1 : Hid (Below (w.heap.size + 1 + 1 + 1) (((w.alloc (.cells #[.slice A d.l.length cap, .int .i64 d.closed, .int .i64 d.mark] 27)).alloc (.cells #[.int .i64 0, .int .i64 key, .int .i64 t, .slice Ao lo.length capo] 33)).alloc (.cells #[.slice none 0 0, .int .i64 0, .int .i64 0] 27)) y1) := Lib.hid (((Below.refl _ _).alloc (by simp) (.cells #[] 58)).grown hg1 (by simp) fun k hk => (HO0.out.lt k hk).1)
  have ho1' : y1.ownsRow (w.heap.size + 1 + 1 + 1) 58 2 v1 lo.length (flat encE lo) := by simpa using ho1
  obtain ⟨A1, cap1, rfl, r1, r2, r3⟩ := own_slice0 ho1'
  have HO1 := Lib.hid ho1'
  have HA1 : Hid (∀ a, A1 = some a → w.heap.size + 1 + 1 + 1 ≤ a.block ∧ a.block < y1.heap.size) := Lib.hid fun a ha => by
    have hx := (at_own (w := ((w.alloc (.cells #[.slice A d.l.length cap, .int .i64 d.closed, .int .i64 d.mark] 27)).alloc (.cells #[.int .i64 0, .int .i64 key, .int .i64 t, .slice Ao lo.length capo] 33)).alloc (.cells #[.slice none 0 0, .int .i64 0, .int .i64 0] 27)) (w' := y1) (A := none) ho1' (by simp) (Nat.le_refl _)) a ha
    rcases hx with hx | hx
    · cases hx
    · simpa using hx
  have hbw : Below (((w.alloc (.cells #[.slice A d.l.length cap, .int .i64 d.closed, .int .i64 d.mark] 27)).alloc (.cells #[.int .i64 0, .int .i64 key, .int .i64 t, .slice Ao lo.length capo] 33)).alloc (.cells #[.slice none 0 0, .int .i64 0, .int .i64 0] 27)).heap.size (((w.alloc (.cells #[.slice A d.l.length cap, .int .i64 d.closed, .int .i64 d.mark] 27)).alloc (.cells #[.int .i64 0, .int .i64 key, .int .i64 t, .slice Ao lo.length capo] 33)).alloc (.cells #[.slice none 0 0, .int .i64 0, .int .i64 0] 27)) y1 := by simpa using HB1.out
  replace HP := Lib.hid (HP.out.more (Y' := fun x => ym A1 x ∨ ym A x) hbw fun b hb => by
    rcases hb with ⟨a, h1, h2⟩ | hb
    · have := HA1.out a h1; exact .inr (by simp; omega)
    · exact .inl hb)
  replace HD := Lib.hid (HD.out.call hbw)
  have HER1 : Hid (Er y1 A1 cap1 lo) := Lib.hid ⟨Sees.own ho1', r1, r2, hgood.out⟩
  have HPUT := Lib.hid (HPU.out _ _ _ _ _ HP.out HER1.out fun hn a ha => .inr (.inl (.inl ⟨a, ha, rfl⟩)))
  clear ho1 hg1 ho1' hbw HB1 HO0 HPE HS0
  clear c0 c1 c2 e0 e1 e2 cz d0 d1 d2 f0 f1 f2 z0 o0 o1 o2 o3 oz
  obtain ⟨⟨c0, c1, c2, e0, e1, e2, cz⟩, ⟨d0, d1, d2, f0, f1, f2, z0⟩, ⟨o0, o1, o2, o3, oz⟩⟩ := does_facts HP.out
  go_wp2_with fail
  refine HPUT.out.mono ?_
  rintro e w6 ⟨rfl, hp, hk⟩
  have HD6 := Lib.hid (HD.out.keep hk fun a ha => .inr ⟨a, ha, rfl⟩)
  have HO6 := Lib.hid (ow_at HO1.out fun b hb => hk.2 b (.inl (by
    rcases A1 with _ | a
    · cases hb
    · exact ⟨a, rfl, by injection hb⟩)))
  have hk1 := hk.1
  replace HP := Lib.hid hp
  have HS6 := Lib.hid (HER.out.old hp)
  clear hp hk HD HO1 HPUT
  clear c0 c1 c2 e0 e1 e2 cz d0 d1 d2 f0 f1 f2 z0 o0 o1 o2 o3 oz
  obtain ⟨⟨c0, c1, c2, e0, e1, e2, cz⟩, ⟨d0, d1, d2, f0, f1, f2, z0⟩, ⟨o0, o1, o2, o3, oz⟩⟩ := does_facts HP.out
  go_wp2_with fail
  refine (HRU.out w6 HD6.out HS6.out.sees).mono ?_
  rintro e w7 ⟨A9, cap9, rfl, hb, hd7, hat⟩
  have HAT := Lib.hid hat
  replace HP := Lib.hid (HP.out.more (Y' := (fun x => ym A1 x ∨ ym A9 x)) hb fun b hb => by
    rcases hb with hb | ⟨a, h1, h2⟩
    · exact .inl (.inl hb)
    · rcases hat a h1 with h3 | h3
      · exact .inl (.inr ⟨a, h3, h2⟩)
      · exact .inr (by omega))
  have HD7 := Lib.hid hd7
  have HO7 := Lib.hid (own_keep HO6.out hb (Nat.le_refl _))
  have hz7 := hb.size
  have hk2 := hk1
  have hz1 := (HP.out.st.knows.at 0 rfl).lt
  have hnew : ∀ b, ym A9 b → b < w.heap.size ∨ w6.heap.size ≤ b := fun b hb => by
    obtain ⟨a, h1, h2⟩ := hb
    rcases hat a h1 with h3 | h3
    · exact .inl (HNB.out b ⟨a, h3, h2⟩)
    · exact .inr (by omega)
  have hz6 : w.heap.size + 1 + 1 < w6.heap.size := z0
  clear hb hat hd7 HD6 HO6 HS6
  clear c0 c1 c2 e0 e1 e2 cz d0 d1 d2 f0 f1 f2 z0 o0 o1 o2 o3 oz
  obtain ⟨⟨c0, c1, c2, e0, e1, e2, cz⟩, ⟨d0, d1, d2, f0, f1, f2, z0⟩, ⟨o0, o1, o2, o3, oz⟩⟩ := does_facts HP.out
  go_upto_region 7 with fail
  have n4 : ¬ ym A9 w.heap.size := fun hb => by have := hnew _ hb; omega
  have n6 : ¬ ym A9 (w.heap.size + 1 + 1) := fun hb => by have := hnew _ hb; omega
  have HP8 := Lib.hid (((HP.out.few (L' := ((w.heap.size, 27, #[.slice A d.l.length cap, .int .i64 d.closed, .int .i64 d.mark]) :: (w.heap.size + 1 + 1, 27, #[.slice none 0 0, .int .i64 0, .int .i64 0]) :: (w.heap.size + 1, 33, #[.int .i64 0, .int .i64 key, .int .i64 t, .slice Ao lo.length capo]) :: L)) (by intro r hr; simp only [List.mem_cons] at hr ⊢; rcases hr with h | h | h | h <;> simp [h])).fin3 hww (fun r hr => by
    rcases List.mem_cons.1 hr with rfl | hr
    · simp only; omega
    · rcases List.mem_cons.1 hr with rfl | hr
      · simp only; omega
      · have := HLO.out r hr; omega) (.slice A9 l9.length cap9) (.int .i64 d.closed) (.int .i64 d.mark)).few (L' := ((w.heap.size + 1 + 1, 27, #[.slice none 0 0, .int .i64 0, .int .i64 0]) :: (w.heap.size + 1, 33, #[.int .i64 0, .int .i64 key, .int .i64 t, .slice Ao lo.length capo]) :: (w.heap.size, 27, #[.slice A9 l9.length cap9, .int .i64 d.closed, .int .i64 d.mark]) :: L)) (by intro r hr; simp only [List.mem_cons] at hr ⊢; rcases hr with h | h | h | h <;> simp [h]))
  have HD8 := Lib.hid (((HD7.out.away n4 0 (.slice A9 l9.length cap9)).away n4 1 (.int .i64 d.closed)).away n4 2 (.int .i64 d.mark))
  have HO8 : Hid ((((w7.setCell ⟨w.heap.size, 0, none⟩ (.slice A9 l9.length cap9)).setCell ⟨w.heap.size, 1, none⟩ (.int .i64 d.closed)).setCell ⟨w.heap.size, 2, none⟩ (.int .i64 d.mark)).ownsRow (w.heap.size + 1 + 1 + 1) 58 2 (.slice A1 lo.length cap1) lo.length (flat encE lo)) := Lib.hid (ow_at HO7.out fun b hb => by
    have := (HO7.out.lt b hb).1
    exact (Below.heap_setCell _ _ _ _ (by simp only; omega)).trans ((Below.heap_setCell _ _ _ _ (by simp only; omega)).trans (Below.heap_setCell _ _ _ _ (by simp only; omega))))
  clear HP HD7 HO7
  clear c0 c1 c2 e0 e1 e2 cz d0 d1 d2 f0 f1 f2 z0 o0 o1 o2 o3 oz
  generalize ((w7.setCell ⟨w.heap.size, 0, none⟩ (.slice A9 l9.length cap9)).setCell ⟨w.heap.size, 1, none⟩ (.int .i64 d.closed)).setCell ⟨w.heap.size, 2, none⟩ (.int .i64 d.mark) = w8 at *
  have HN9 := Lib.hid hnew
  have HE8 : Hid (0 < lo.length → ∃ b, A1 = some ⟨b, 0, none⟩ ∧ w.heap.size + 1 + 1 + 1 ≤ b ∧ ¬ ym A9 b ∧ AnyE w8 b lo.length) := Lib.hid fun hn => by
    obtain ⟨b, h1, h2, h3, h4⟩ := AnyE.own HO8.out rfl hn
    exact ⟨b, h1, h2, fun hb => by have := hnew _ hb; have := (HA1.out _ h1).2; simp only at this; omega, h4⟩
  clear HO8 hnew
  go_wp2_with fail
  go_loopw [11] (fun i wr => ∃ k : Nat, k ≤ lo.length ∧ i = .int .i64 (k : Int) ∧ Ps W wr (((w.heap.size + 1 + 1, 27, #[.slice none 0 0, .int .i64 0, .int .i64 0]) :: (w.heap.size + 1, 33, #[.int .i64 0, .int .i64 key, .int .i64 t, .slice Ao lo.length capo]) :: (w.heap.size, 27, #[.slice A9 l9.length cap9, .int .i64 d.closed, .int .i64 d.mark]) :: L)) g s9 ((fun x => ym A1 x ∨ ym A9 x)) ∧ Dv wr A9 cap9 l9 ∧ (0 < lo.length → ∃ b, A1 = some ⟨b, 0, none⟩ ∧ w.heap.size + 1 + 1 + 1 ≤ b ∧ ¬ ym A9 b ∧ AnyE wr b lo.length)) (fun i _ => lo.length - (intOf i).toNat)
  case atStart => exact ⟨0, by omega, rfl, HP8.out, HD8.out, HE8.out⟩
  case round =>
    obtain ⟨k, hk, rfl, hp, hd, he⟩ := hrel
    have HP := Lib.hid hp
    have HD := Lib.hid hd
    have HE := Lib.hid he
    clear hp hd he HP8 HD8 HE8
    by_cases hlt : k < lo.length
    · obtain ⟨b, rfl, hb, hnb, he⟩ := HE.out (by omega)
      have HAE := Lib.hid he
      obtain ⟨cs, hwb, hcs⟩ := he
      obtain ⟨x, hx⟩ := hcs k hlt
      have q1 := hwb.cell (k * 2 + 1)
      rw [hx] at q1
      have q2 := hwb.free (k * 2 + 1)
      have q3 := hwb.lt
      have i1 : (k : Int) < (lo.length : Int) := by omega
      have i2 : (k : Int) < (cap1 : Int) := by omega
      have HL8 : Hid (∀ r ∈ ((w.heap.size + 1 + 1, 27, #[.slice none 0 0, .int .i64 0, .int .i64 0]) :: (w.heap.size + 1, 33, #[.int .i64 0, .int .i64 key, .int .i64 t, .slice Ao lo.length capo]) :: (w.heap.size, 27, #[.slice A9 l9.length cap9, .int .i64 d.closed, .int .i64 d.mark]) :: L), r.1 ≠ b) := Lib.hid fun r hr => by
        rcases List.mem_cons.1 hr with rfl | hr
        · simp only; omega
        · rcases List.mem_cons.1 hr with rfl | hr
          · simp only; omega
          · rcases List.mem_cons.1 hr with rfl | hr
            · simp only; omega
            · have := HLO.out r hr; omega
      clear hwb hcs hx HE
      go_wp2_with fail
      go_roundw
      case rel => exact ⟨k + 1, by omega, by go_num, HP.out.any (by omega) HL8.out (.inl ⟨_, rfl, rfl⟩) _ _, HD.out.away hnb _ _, fun _ => ⟨b, rfl, hb, hnb, HAE.out.set k _⟩⟩
      case measure => simp [intOf]; omega
    · obtain rfl : k = lo.length := by omega
      obtain ⟨⟨c0, c1, c2, e0, e1, e2, cz⟩, ⟨d0, d1, d2, f0, f1, f2, z0⟩, ⟨o0, o1, o2, o3, oz⟩⟩ := does_facts HP.out
      have n6 : ¬ ym A9 (w.heap.size + 1 + 1) := fun hb => by have := HN9.out _ hb; omega
      go_wp2_with fail
      refine bodyPost_ret (by simp [results, Try.results11, go_sem, c0, c1, c2, e0, e1, e2, cz, d0, d1, d2, f0, f1, f2, z0]; try rfl) rfl ?_
      have hfin := (HP.out.fin3 (by omega) (fun r hr => by
        rcases List.mem_cons.1 hr with rfl | hr
        · simp only; omega
        · rcases List.mem_cons.1 hr with rfl | hr
          · simp only; omega
          · have := HLO.out r hr; omega) (.slice A9 l9.length cap9) (.int .i64 d.closed) (.int .i64 d.mark)).few (L' := L) fun r hr => List.mem_cons_of_mem _ (List.mem_cons_of_mem _ (List.mem_cons_of_mem _ hr))
      exact ⟨A9, cap9, rfl, hfin.less fun b hb => .inr hb, ((HD.out.away n6 0 _).away n6 1 _).away n6 2 _⟩
end Go.Proofs.Ytcpcepbjdohdmaa
