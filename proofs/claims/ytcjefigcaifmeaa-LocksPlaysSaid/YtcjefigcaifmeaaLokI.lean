/- Contracts at layer 13, of the program's calls on one key's row: give. -/
import Derived.Test.YtcjefigcaifmeaaLokH
namespace Go.Proofs.Ytcjefigcaifmeaa
open Go.RowKit Go.Lk
set_option linter.unusedVariables false
set_option linter.unusedSimpArgs false
set_option maxRecDepth 100000

theorem rowOf_del {f : Lk.Fn} (hf : Fin1 f) {x : Int} {b : Bool} {l : List (Int × Bool)} (h : rowOf f = (x, b) :: l) : rowOf (upd f x none) = l ∧ f x = some b := by
  have hr := supp_rises hf
  have hx : f x = some b := (rowOf_mem hf x b).1 (by rw [h]; exact List.mem_cons_self ..)
  unfold rowOf at h
  cases hs : supp f with
  | nil => rw [hs] at h; cases h
  | cons a m =>
    rw [hs] at h hr
    rw [List.map_cons] at h
    injection h with h1 h2
    injection h1 with h1 _
    subst h1
    obtain ⟨h3, h4⟩ := List.pairwise_cons.1 hr
    have hs2 : supp (upd f a none) = m := supp_eq h4 fun y => by
      by_cases e : y = a
      · subst e
        rw [upd_same]
        exact ⟨fun hy => by have := h3 y hy; omega, fun h => by cases h⟩
      · rw [upd_other _ e]
        have := supp_mem hf y
        rw [hs, List.mem_cons] at this
        rw [← this]
        exact ⟨fun h => .inr h, fun h => h.resolve_left e⟩
    refine ⟨?_, hx⟩
    unfold rowOf
    rw [hs2, ← h2]
    refine List.map_congr_left fun y hy => ?_
    have : y ≠ a := by have := h3 y hy; omega
    rw [upd_other _ this]
theorem rowOf_len (f : Lk.Fn) : (rowOf f).length = (supp f).length := by unfold rowOf; exact List.length_map ..
def lenV : Value → Nat
  | .slice _ n _ => n
  | _ => 0
theorem Mv.not_row {α : Type} {enc : α → Value} {w : World} {mb : Nat} {f : Int → Option α} {B n size : Nat} {e : TypeId} {v : Value} {xs : List Value} (h : Mv enc w mb f) (ho : w.ownsRow B e size v n xs) (b : Nat) (hb : v.ownBlock = some b) : b ≠ mb := fun e2 => by
  subst e2
  exact not_mine (w0 := w) ho (fun t cs hc => h.notCells hc rfl) hb.symm
theorem Mv.offG {α : Type} {enc : α → Value} {w w' : World} {mb : Nat} {f : Int → Option α} {F : Nat → Prop} (h : Mv enc w mb f) (ho : Off F w w') (hF : ¬ F mb) : Mv enc w' mb f := h.at (ho.block mb h.lt hF)
theorem nums_fst (l : List (Int × Bool)) : (l.map fun p => p.1).length = l.length := List.length_map ..
set_option maxHeartbeats 4000000 in
theorem rgive_any (hb wb : Nat) (h w0 : Lk.Fn) (w : World) (hne : hb ≠ wb) (hh : Mh w hb h) (hw : Mh w wb w0) (h1 : ∀ x, (w0 x).isSome = true → 1 ≤ x) (T : List Int) (hT : ∀ x, ((h x).isSome = true ∨ (w0 x).isSome = true) → x ∈ T) (hTl : T.length ≤ 1000000) :
    Calls Try.prog 33 #[rE (some hb, some wb)] w fun e w' => ∃ A cap, e = .returned (.slice A (gl h (rowOf w0)).length cap) ∧ Off (fun b => b = hb ∨ b = wb) w w' ∧ Mh w' hb (setL h (gl h (rowOf w0))) ∧ Mh w' wb (delL w0 (gl h (rowOf w0))) ∧
      w'.ownsRow w.heap.size 3 1 (.slice A (gl h (rowOf w0)).length cap) (gl h (rowOf w0)).length (((gl h (rowOf w0)).map fun p => p.1).map (Value.int .i64)) := by
  have HH := Lib.hid hh
  have HW := Lib.hid hw
  have hblt := hh.lt
  have wblt := hw.lt
  have HT := Lib.hid hT
  have H1 := Lib.hid h1
  have hrl : (rowOf w0).length ≤ 1000000 := by
    rw [rowOf_len]
    refine Nat.le_trans (len_sub (supp_rises (fin_hF hw.fin)).nodup fun x hx => ?_) hTl
    exact hT x (.inr ((supp_mem (fin_hF hw.fin) x).1 hx))
  have HG : Hid (∃ G, gl h (rowOf w0) = G) := Lib.hid ⟨_, rfl⟩
  obtain ⟨G, hG⟩ := HG.out
  have HGE := Lib.hid hG
  rw [hG]
  clear hh hw hT h1 HG hG
  go_enter Try.func33, Try.ntmps33
  have HB0 := Lib.hid ((Below.refl w.heap.size w).alloc (Nat.le_refl _) (.cells #[.map (some hb), .map (some wb)] 63))
  have HKR : Hid (Whole (w.alloc (.cells #[.map (some hb), .map (some wb)] 63)) w.heap.size 63 #[.map (some hb), .map (some wb)]) := Lib.hid (Whole.fresh w _ _)
  go_wp2_with fail
  go_loopw [3] (fun v wr => ∃ (dn : List (Int × Bool)) (hc wc : Lk.Fn), dn.length + (rowOf wc).length = (rowOf w0).length ∧ lenV v = dn.length ∧ G = dn ++ gl hc (rowOf wc) ∧ setL h G = setL hc (gl hc (rowOf wc)) ∧ delL w0 G = delL wc (gl hc (rowOf wc)) ∧
      (∀ x, ((hc x).isSome = true ∨ (wc x).isSome = true) → x ∈ T) ∧ (∀ x, (wc x).isSome = true → 1 ≤ x) ∧ Mh wr hb hc ∧ Mh wr wb wc ∧ wr.ownsRow w.heap.size 3 1 v dn.length ((dn.map fun p => p.1).map (Value.int .i64)) ∧ Off (fun b => b = hb ∨ b = wb) w wr ∧ Whole wr w.heap.size 63 #[.map (some hb), .map (some wb)])
    (fun v wr => (rowOf w0).length - lenV v)
  case atStart => exact ⟨[], h, w0, by simp, rfl, by rw [HGE.out]; rfl, by rw [HGE.out], by rw [HGE.out], HT.out, H1.out, HH.out.call HB0.out, HW.out.call HB0.out, World.ownsRow_nil _ _ _ _, .of HB0.out _, HKR.out⟩
  case round =>
    obtain ⟨dn, hc, wc, hdl, hlv, hGd, hsl, hdel, hTc, h1c, hmh, hmw, hrow, hof, hk⟩ := hrel
    have HMH := Lib.hid hmh
    have HMW := Lib.hid hmw
    have HO := Lib.hid hrow
    have HOF := Lib.hid hof
    have HK := Lib.hid hk
    have HGD := Lib.hid hGd
    have HSL := Lib.hid hsl
    have HDE := Lib.hid hdel
    have HTC := Lib.hid hTc
    have H1C := Lib.hid h1c
    have HLV := Lib.hid hlv
    have HE := Lib.hid (eldest_any (some hb, some wb) wc wr (.inr ⟨wb, rfl, hmw⟩) h1c)
    have k0 := HK.out.cell 0
    have k1 := HK.out.cell 1
    have kz := HK.out.lt
    simp only [List.getElem?_toArray, List.getElem?_cons_zero, List.getElem?_cons_succ] at k0 k1
    have hsz := hof.size
    clear hGd hsl hdel hTc h1c hmh hmw hrow hof hk hlv HB0 HKR
    obtain ⟨A, cp, rfl, r1, r2, r3⟩ := own_slice0 HO.out
    cases hro : rowOf wc with
    | nil =>
      rw [hro] at HE
      dsimp only [hd0, ne0] at HE
      have HG2 : Hid (G = dn ∧ setL h G = hc ∧ delL w0 G = wc) := Lib.hid (by
        have e1 := HGD.out
        have e2 := HSL.out
        have e3 := HDE.out
        rw [hro] at e1 e2 e3
        simp only [gl, List.append_nil] at e1
        exact ⟨e1, e2, e3⟩)
      clear hro
      go_wp2_with fail
      refine HE.out.mono ?_
      rintro e w1 ⟨rfl, hb1⟩
      have HBL := Lib.hid (hb1.alloc hb1.size (.cells #[.int .i64 0, .bool false] 60))
      clear hb1
      go_wp2_with fail
      go_ret
      obtain ⟨rfl, g2, g3⟩ := HG2.out
      refine ⟨_, _, rfl, HOF.out.call HBL.out, ?_, ?_, ?_⟩
      · rw [g2]; exact HMH.out.call HBL.out
      · rw [g3]; exact HMW.out.call HBL.out
      · exact own_keep HO.out HBL.out (Nat.le_refl _)
    | cons q rest =>
      obtain ⟨x, b⟩ := q
      rw [hro] at HE
      dsimp only [hd0, ne0] at HE
      have hFw := fin_hF HMW.out.fin
      obtain ⟨hrd, hwx⟩ := rowOf_del hFw hro
      have HRD := Lib.hid hrd
      have hx64 : W64 x := HMW.out.key64 (by rw [hF_some, hwx]; rfl)
      have HWX := Lib.hid hwx
      have HRO := Lib.hid hro
      have hlr : dn.length + (rest.length + 1) = (rowOf w0).length := by rw [← hdl, hro]; simp
      clear hro hrd hwx hdl hFw
      go_wp2_with fail
      refine HE.out.mono ?_
      rintro e w1 ⟨rfl, hb1⟩
      have HB2 := Lib.hid (hb1.alloc hb1.size (.cells #[.int .i64 x, .bool b] 60))
      have HKK := Lib.hid (keeps_any (some hb, some wb) hc x b _ (.inr ⟨hb, rfl, HMH.out.call HB2.out⟩))
      have HA : Hid (Whole (w1.alloc (.cells #[.int .i64 x, .bool b] 60)) w1.heap.size 60 #[.int .i64 x, .bool b]) := Lib.hid (Whole.fresh w1 _ _)
      have hs1 := hb1.size
      have hk2 := HK.out.below HB2.out HK.out.lt
      have k0 := hk2.cell 0
      have k1 := hk2.cell 1
      have kz := hk2.lt
      simp only [List.getElem?_toArray, List.getElem?_cons_zero, List.getElem?_cons_succ] at k0 k1
      have HK2 := Lib.hid hk2
      clear hb1 HE hk2
      go_wp2_with fail
      refine HKK.out.mono ?_
      rintro e w3 ⟨v, rfl, hv, hb3⟩
      have HV := Lib.hid hv
      have HB3 := Lib.hid (HB2.out.trans (hb3.mono HB2.out.size))
      have HA3 := Lib.hid (HA.out.below hb3 HA.out.lt)
      have HK3 := Lib.hid (HK2.out.below hb3 HK2.out.lt)
      clear hb3 hv HKK k0 k1 kz
      cases v with
      | true =>
        have HG2 : Hid (G = dn ∧ setL h G = hc ∧ delL w0 G = wc) := Lib.hid (by
          have e1 := HGD.out
          have e2 := HSL.out
          have e3 := HDE.out
          rw [HRO.out] at e1 e2 e3
          unfold gl at e1 e2 e3
          rw [if_pos (HV.out.1 rfl)] at e1 e2 e3
          rw [List.append_nil] at e1
          exact ⟨e1, e2, e3⟩)
        go_wp2_with fail
        go_ret
        obtain ⟨rfl, g2, g3⟩ := HG2.out
        refine ⟨_, _, rfl, HOF.out.call HB3.out, ?_, ?_, ?_⟩
        · rw [g2]; exact HMH.out.call HB3.out
        · rw [g3]; exact HMW.out.call HB3.out
        · exact own_keep HO.out HB3.out (Nat.le_refl _)
      | false =>
        have hnb : ¬ Blk hc x b := fun hbk => by have := HV.out.2 hbk; cases this
        have HG2 : Hid (gl hc (rowOf wc) = (x, b) :: gl (upd hc x (some b)) rest) := Lib.hid (by
          rw [HRO.out]
          conv => lhs; unfold gl
          rw [if_neg hnb])
        have k0 := HK3.out.cell 0
        have k1 := HK3.out.cell 1
        have kz := HK3.out.lt
        have a0 := HA3.out.cell 0
        have a1 := HA3.out.cell 1
        have az := HA3.out.lt
        simp only [List.getElem?_toArray, List.getElem?_cons_zero, List.getElem?_cons_succ] at k0 k1 a0 a1
        have hwr3 := HB3.out.size
        have HMW3 := Lib.hid (HMW.out.call HB3.out)
        have HMH3 := Lib.hid (HMH.out.call HB3.out)
        clear hnb HV
        go_wp2_with (at_delete; refine wpList_delete_mv _ rfl _ _ 61 rfl 60 Try.underlying61 wb (hF wc) rfl HMW3.out x rfl hx64 ?_)
        intro w4 hm4 ho4 hs4
        clear hs4
        have HO4 := Lib.hid ho4
        have HMW4 := Lib.hid hm4
        have HMH4 := Lib.hid (HMH3.out.offG ho4 hne)
        have HA4 := Lib.hid (ho4.whole HA3.out fun e => by omega)
        have HK4 := Lib.hid (ho4.whole HK3.out fun e => by omega)
        clear k0 k1 kz a0 a1 az hm4 ho4
        have k0 := HK4.out.cell 0
        have k1 := HK4.out.cell 1
        have kz := HK4.out.lt
        have a0 := HA4.out.cell 0
        have a1 := HA4.out.cell 1
        have az := HA4.out.lt
        simp only [List.getElem?_toArray, List.getElem?_cons_zero, List.getElem?_cons_succ] at k0 k1 a0 a1
        have hhn : (supp (hF hc)).length ≤ 1000000000 := by
          rw [supp_hF hc (fin_hF HMH.out.fin)]
          have := len_sub (supp_rises (fin_hF HMH.out.fin)).nodup (m := T) fun y hy => HTC.out y (.inl ((supp_mem (fin_hF HMH.out.fin) y).1 hy))
          omega
        go_wp2_with (at_mapUpdate; refine wpList_put_mv _ hE_inj rfl _ _ _ 61 rfl 60 Try.underlying61 hb (hF hc) rfl HMH4.out x rfl hx64 ⟨x, b⟩ rfl hhn ?_)
        intro w5 hm5 ho5 hs5
        clear hs5
        rw [hF_upd] at hm5
        have HMH5 := Lib.hid hm5
        have HMW5 : Hid (Mh w5 wb (upd wc x none)) := Lib.hid (by
          have := HMW4.out
          rw [hF_del] at this
          exact this.offG ho5 fun e => hne e.symm)
        have HA5 := Lib.hid (ho5.whole HA4.out fun e => by omega)
        have HK5 := Lib.hid (ho5.whole HK4.out fun e => by omega)
        have HOF5 : Hid (Off (fun b => b = hb ∨ b = wb) w w5) := Lib.hid ((HOF.out.call HB3.out).trans (⟨HO4.out.os, HO4.out.tape, HO4.out.output, HO4.out.size, fun i hi hn => HO4.out.block i hi fun e => hn (.inr e)⟩ : Off (fun b => b = hb ∨ b = wb) w3 w4) |>.trans (⟨ho5.os, ho5.tape, ho5.output, ho5.size, fun i hi hn => ho5.block i hi fun e => hn (.inl e)⟩ : Off (fun b => b = hb ∨ b = wb) w4 w5))
        have HOW : Hid (w5.ownsRow w.heap.size 3 1 (.slice A dn.length cp) dn.length ((dn.map fun p => p.1).map (Value.int .i64))) := Lib.hid (by
          have o3 := own_keep HO.out HB3.out (Nat.le_refl _)
          have o4 := own_off o3 HO4.out fun b hb => HMW3.out.not_row o3 b hb
          exact own_off o4 ho5 fun b hb => HMH4.out.not_row o4 b hb)
        have HO5 := Lib.hid (HOW.out.alloc (.cells #[.int .i64 x] 3))
        have HSE := Lib.hid (sees_num w5 w5.heap.size rfl x)
        have hw5 : w.heap.size ≤ w5.heap.size := HOF5.out.size
        clear k0 k1 kz a0 a1 az hm5 ho5
        have a0 := HA5.out.cell 0
        have a1 := HA5.out.cell 1
        have az := HA5.out.lt
        simp only [List.getElem?_toArray, List.getElem?_cons_zero, List.getElem?_cons_succ] at a0 a1
        go_wp2_with (at_builtin; refine wpList_appG rfl (.tmp 28) (.tmp 31) _ 3 _ 1 8 rfl info_num Try.underlying26 rfl (by decide) w.heap.size (.slice A dn.length cp) dn.length ((dn.map fun p => p.1).map (Value.int .i64)) rfl HO5.out _ _ 1 1 [.int .i64 x] rfl HSE.out (fun h => by cases h) (num_one [x]) (by omega) (by omega) (by simp; omega) ?_)
        intro v1 y1 ho1 hg1
        have HBA := Lib.hid ((Below.refl w5.heap.size w5).alloc (Nat.le_refl _) (.cells #[.int .i64 x] 3))
        have hof1 := off_of_grown hg1
        have HO6 := Lib.hid ho1
        have HMH6 := Lib.hid ((HMH5.out.call HBA.out).offG hof1 fun e => (HMH5.out.call HBA.out).not_row HO5.out hb e rfl)
        have HMW6 := Lib.hid ((HMW5.out.call HBA.out).offG hof1 fun e => (HMW5.out.call HBA.out).not_row HO5.out wb e rfl)
        have HK6 := Lib.hid (hof1.whole (HK5.out.below HBA.out HK5.out.lt) fun e => by
          have h7 := HO5.out
          rcases h7.2 with ⟨h8, _⟩ | ⟨g8, cap8, cur8, h8, h9, h10, _⟩
          · rw [h8] at e; simp [Value.ownBlock] at e
          · rw [h8] at e
            have : g8 = w.heap.size := by simpa [Value.ownBlock] using e
            subst this
            have h11 := HK5.out.below HBA.out HK5.out.lt
            have h12 := (show (w5.alloc _).heap[w.heap.size]? = _ from h11).symm.trans h10
            injection h12 with h12
            injection h12 with _ h12
            exact absurd h12 (by decide))
        have HOF6 := Lib.hid ((HOF5.out.call HBA.out).grown hg1 fun g hg => .inr ((HO5.out.lt g hg).1))
        have HV1 : Hid (lenV v1 = dn.length + 1) := Lib.hid (by obtain ⟨_, _, e, -⟩ := own_slice0 ho1; rw [e]; rfl)
        have HTC6 : Hid (∀ y, ((upd hc x (some b) y).isSome = true ∨ (upd wc x none y).isSome = true) → y ∈ T) := Lib.hid fun y hy => by
          by_cases e : y = x
          · subst e
            exact HTC.out y (.inr (by rw [HWX.out]; rfl))
          · rw [upd_other _ e, upd_other _ e] at hy
            exact HTC.out y hy
        have H1C6 : Hid (∀ y, (upd wc x none y).isSome = true → 1 ≤ y) := Lib.hid fun y hy => by
          by_cases e : y = x
          · subst e; rw [upd_same] at hy; cases hy
          · rw [upd_other _ e] at hy; exact H1C.out y hy
        clear ho1 hg1 hof1 a0 a1 az
        go_wp2_with fail
        go_roundw
        case rel =>
          refine ⟨dn ++ [(x, b)], upd hc x (some b), upd wc x none, ?_, ?_, ?_, ?_, ?_, HTC6.out, H1C6.out, HMH6.out, HMW6.out, ?_, HOF6.out, HK6.out⟩
          · rw [HRD.out, List.length_append]; simp; omega
          · rw [HV1.out]; simp
          · rw [HGD.out, HG2.out, HRD.out]; simp
          · rw [HSL.out, HG2.out, HRD.out]; rfl
          · rw [HDE.out, HG2.out, HRD.out]; rfl
          · simpa using HO6.out
        case measure => rw [HV1.out]; show (rowOf w0).length - (dn.length + 1) < (rowOf w0).length - dn.length; omega
end Go.Proofs.Ytcjefigcaifmeaa
