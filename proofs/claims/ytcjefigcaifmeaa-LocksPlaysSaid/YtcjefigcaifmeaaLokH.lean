/- Contracts at layer 13, of the program's calls on one key's row: younger. -/
import Derived.Test.YtcjefigcaifmeaaLokG
namespace Go.Proofs.Ytcjefigcaifmeaa
open Go.RowKit Go.Lk
set_option linter.unusedVariables false
set_option linter.unusedSimpArgs false
set_option maxRecDepth 100000

/-- The younger ones that hold a key and don't go together with one. -/
noncomputable def ygL (f : Lk.Fn) (x : Int) (b : Bool) : List Int := (supp f).filter fun y => decide (x < y) && (fl f y || b)
theorem ygL_wd (s : Tb) (x : Int) (b : Bool) (k : Int) : ygL (s.h k) x b = wdS s x b k := rfl
theorem sort_filter {f : Lk.Fn} (hf : Fin1 f) {L : List Int} (hn : L.Nodup) (hm : ∀ x, x ∈ L ↔ (f x).isSome = true) (P : Int → Bool) : ((L.filter P).mergeSort fun x y => decide (x ≤ y)) = (supp f).filter P := by
  have hp := List.mergeSort_perm (L.filter P) fun x y => decide (x ≤ y)
  refine rises_unique ?_ ((supp_rises hf).filter _) fun x => ?_
  · exact ((sorted_le _).and (hp.nodup_iff.2 (hn.filter _))).imp fun ⟨h1, h2⟩ => by omega
  · rw [hp.mem_iff, List.mem_filter, List.mem_filter, hm, supp_mem hf]
theorem sees_num (w : World) (g : Nat) (hg : g = w.heap.size) (x : Int) : Sees (w.alloc (.cells #[.int .i64 x] 3)) (g + 1) 1 (some ⟨g, 0, none⟩) 1 [.int .i64 x] := by
  subst hg
  refine ⟨rfl, fun _ => ⟨w.heap.size, 0, rfl, by omega, fun j u hu => ?_⟩⟩
  rw [Nat.zero_add, (Whole.fresh w _ _).cell j, ← Array.getElem?_toList]
  exact hu
theorem num_one (l : List Int) : ∀ u ∈ l.map (Value.int .i64), u.oneCell' = true := by
  intro u hu
  obtain ⟨a, -, rfl⟩ := List.mem_map.1 hu
  rfl
theorem own_off {w w' : World} {B n size : Nat} {e : TypeId} {v : Value} {xs : List Value} {F : Nat → Prop} (h : w.ownsRow B e size v n xs) (ho : Off F w w') (hv : ∀ b, v.ownBlock = some b → ¬ F b) : w'.ownsRow B e size v n xs := by
  refine ⟨h.1, ?_⟩
  rcases h.2 with hn | ⟨g, cap, cur, rfl, hb, hg, r⟩
  · exact .inl hn
  · exact .inr ⟨g, cap, cur, rfl, hb, (ho.block g (Array.getElem?_eq_some_iff.1 hg).1 (hv g rfl)).trans hg, r⟩
theorem Ro.row_ne {α : Type} {enc : α → Value} {w : World} {mo : Option Nat} {r cnt : Nat} {f : Int → Option α} {L : List Int} {B n size : Nat} {e : TypeId} {v : Value} {xs : List Value}
    (h : Ro enc w mo r f L cnt) (ho : w.ownsRow B e size v n xs) (b : Nat) (hb : v.ownBlock = some b) : b ≠ r := fun e2 => by
  subst e2
  exact not_mine (w0 := w) ho (fun t cs hc => h.notCells hc rfl) hb.symm
theorem whole_row_ne {w : World} {B n size g : Nat} {e t : TypeId} {v : Value} {xs : List Value} {cs : Array Value} (h : Whole w g t cs) (ho : w.ownsRow B e size v n xs) (hg : g < B) : some g ≠ v.ownBlock := fun e2 => by
  rcases ho.2 with ⟨rfl, _⟩ | ⟨g', cap, cur, rfl, hb, hh, _⟩
  · simp [Value.ownBlock] at e2
  · have : g = g' := by simpa [Value.ownBlock] using e2
    omega
set_option maxHeartbeats 4000000 in
theorem younger_any (p : Option Nat × Option Nat) (f : Lk.Fn) (x : Int) (b : Bool) (w : World) (h : Moh w p.1 f) (hn : (supp f).length ≤ 1000000) :
    Calls Try.prog 19 #[rE p, hE ⟨x, b⟩] w fun e w' => ∃ A cap, e = .returned (.slice A (ygL f x b).length cap) ∧ Below w.heap.size w w' ∧ w'.ownsRow w.heap.size 3 1 (.slice A (ygL f x b).length cap) (ygL f x b).length ((ygL f x b).map (Value.int .i64)) := by
  obtain ⟨o1, o2⟩ := p
  have HM := Lib.hid h
  have HF := Lib.hid (fin_hF h.fin)
  have HAP := Lib.hid (fun w0 => apart_any x b w0)
  have HA1 := Lib.hid (fun p y c w0 hp => apart1_any x b p y c w0 hp)
  have HYG : Hid (ygL f x b = (supp f).filter fun y => decide (x < y) && (fl f y || b)) := Lib.hid rfl
  have HPP : Hid (∀ y, (fun y => decide (x < y) && (fl f y || b)) y = (decide (x < y) && (fl f y || b))) := Lib.hid fun _ => rfl
  have HS := Lib.hid (supp_hF f (fin_hF h.fin))
  clear h
  generalize (fun y => decide (x < y) && (fl f y || b)) = P at *
  go_enter Try.func19, Try.ntmps19
  go_wp2_with fail
  refine (HAP.out _).mono ?_
  rintro e w1 ⟨rfl, hw1⟩
  have HK0 : Hid (Whole w1 w.heap.size 63 #[.map o1, .map o2] ∧ Whole w1 (w.heap.size + 1) 60 #[.int .i64 x, .bool b] ∧ Whole w1 (w.heap.size + 1 + 1) 60 #[.int .i64 x, .bool b] ∧ Below w.heap.size w w1 ∧ w1.heap.size = w.heap.size + 1 + 1 + 1) := Lib.hid (by
    rw [hw1]
    refine ⟨((Whole.fresh w _ _).alloc _).alloc _, ?_, ?_, (((Below.refl _ _).alloc (Nat.le_refl _) _).alloc (by simp) _).alloc (by simp; omega) _, by simp⟩
    · have := (Whole.fresh (w.alloc (.cells #[.map o1, .map o2] 63)) 60 #[.int .i64 x, .bool b]).alloc (.cells #[.int .i64 x, .bool b] 60)
      simpa using this
    · have := Whole.fresh ((w.alloc (.cells #[.map o1, .map o2] 63)).alloc (.cells #[.int .i64 x, .bool b] 60)) 60 #[.int .i64 x, .bool b]
      simpa using this)
  have hsz : ((w.alloc (.cells #[.map o1, .map o2] 63)).alloc (.cells #[.int .i64 x, .bool b] 60)).heap.size = w.heap.size + 1 + 1 := by simp
  rw [hsz]
  clear hw1 hsz
  obtain ⟨hk1, hk2, hk3, hb1, hs1⟩ := HK0.out
  have hsz1 : w.heap.size + 3 ≤ w1.heap.size := by omega
  clear hs1
  have HKA := Lib.hid hk2
  have HP := Lib.hid hk3
  have HB1 := Lib.hid hb1
  have c0 := hk1.cell 0
  have c1 := hk1.cell 1
  have cz := hk1.lt
  simp only [List.getElem?_toArray, List.getElem?_cons_zero, List.getElem?_cons_succ] at c0 c1
  have HM1 := Lib.hid (HM.out.call hb1)
  clear hk1 hk2 hk3 hb1 HK0
  go_wp2_with (first
    | (at_range; refine wpList_range_mo _ rfl _ 61 rfl 60 Try.underlying61 rfl HM1.out ?_; intro w0 hrg0 hb0 hs0)
    | go_in)
  try go_frame
  go_loopw [5] (fun v wr => ∃ (cnt : Nat) (L : List Int), Ro hE wr o1 w1.heap.size (hF f) L cnt ∧ wr.ownsRow w1.heap.size 3 1 v (L.filter P).length ((L.filter P).map (Value.int .i64)) ∧ Below w1.heap.size w1 wr)
    (fun _ wr => leftO o1 w1.heap.size wr)
  case atStart => exact ⟨_, [], hrg0, World.ownsRow_nil _ _ _ _, hb0⟩
  case round =>
    obtain ⟨cnt, L, hrg, hrow, hb⟩ := hrel
    have HLL := Lib.hid (len_le (fin_hF HM.out.fin) hrg.sub.1 (fun y hy => by rw [← hF_some]; exact hrg.sub.2 y hy))
    have hll := HLL.out
    have hfl := List.length_filter_le P L
    have HB := Lib.hid hb
    have HR := Lib.hid hrg
    have HO := Lib.hid hrow
    clear hrg hb hrg0 hb0 hs0 hrow c0 c1 cz
    go_wp2_with (first
      | (at_next; refine wpList_next_mo _ hE_inj rfl _ rfl w1.heap.size cnt L rfl HR.out ?_ ?_)
      | go_in)
    · intro hc0 hnd hmem
      obtain ⟨A, cp, rfl, r1, r2, r3⟩ := own_slice0 HO.out
      have hsort : ((L.filter P).mergeSort fun x y => decide (x ≤ y)) = ygL f x b := by rw [HYG.out]; exact sort_filter HF.out hnd (fun x => by rw [hmem x, hF_some]) P
      have hlen : (L.filter P).length = (ygL f x b).length := by rw [← hsort]; simp
      have HSO := Lib.hid hsort
      have HLN := Lib.hid hlen
      have HBW := Lib.hid (HB1.out.trans (HB.out.mono HB1.out.size))
      rcases A with _ | ⟨gk, off, sp⟩
      · have hl0 : (L.filter P).length = 0 := by have := r3 rfl; omega
        have HSN : Hid (ygL f x b = []) := Lib.hid (List.eq_nil_of_length_eq_zero (by omega))
        rw [hl0, r3 rfl]
        have HN := Lib.hid (sortI_none none 0)
        clear hsort hlen hmem hnd HO
        go_wp2_with fail
        refine (HN.out wr).mono ?_
        rintro e w2 ⟨rfl, e2⟩
        subst w2
        go_wp2_with fail
        go_ret
        refine ⟨none, 0, by rw [HSN.out]; rfl, HBW.out, ?_⟩
        rw [HSN.out]
        exact World.ownsRow_nil _ _ _ _
      · have hat : off = 0 ∧ sp = none := by
          rcases HO.out.2 with ⟨h, _⟩ | ⟨g', c', cur, h, _⟩
          · simp at h
          · simp only [Value.slice.injEq, Option.some.injEq, Addr.mk.injEq] at h
            exact ⟨h.1.2.1, h.1.2.2⟩
        obtain ⟨rfl, rfl⟩ := hat
        have HC := Lib.hid (sortI_own w1.heap.size gk (L.filter P).length cp (L.filter P) wr rfl HO.out (by omega))
        have HLOW := Lib.hid (fun k (hk : some gk = some k) => (HO.out.lt k (by rw [show (Value.slice (some ⟨gk, 0, none⟩) (L.filter P).length cp).ownBlock = some gk from rfl]; exact hk)).1)
        rw [HSO.out] at HC
        have hs1b := HB1.out.size
        clear hsort hmem hnd HO HLL hll HR
        generalize (L.filter P).length = n at *
        subst hlen
        go_wp2_with fail
        refine HC.out.mono ?_
        rintro e w2 ⟨rfl, ho, hg2⟩
        have HOO := Lib.hid (show w2.ownsRow w.heap.size 3 1 _ _ _ from ⟨ho.1, ho.2.imp_right fun ⟨g, cap, cur, h1, h2, h3⟩ => ⟨g, cap, cur, h1, Nat.le_trans hs1b h2, h3⟩⟩)
        have HBB := Lib.hid (HBW.out.grown hg2 HBW.out.size fun k hk => Nat.le_trans hs1b (HLOW.out k hk))
        clear ho hg2
        go_wp2_with fail
        go_ret
        exact ⟨_, _, rfl, HBB.out, HOO.out⟩
    · intro y c w2 cnt2 hfx hx hx64 hrg2 hlt hof hsz hen
      obtain ⟨ht, hfy, hfb⟩ := hF_at hfx
      obtain ⟨y0, c⟩ := c
      simp only at ht hfy hfb
      subst ht
      have HPY : Hid (P y0 = (decide (x < y0) && (c || b))) := Lib.hid (by rw [HPP.out, hfb])
      have hb2 : Below w1.heap.size w1 w2 := HB.out.trans (below_off hof HB.out.size (by omega))
      have hrow2 := own_off HO.out hof fun b hb e => HR.out.row_ne HO.out b hb e
      have HB3 := Lib.hid (hb2.alloc hb2.size (.cells #[.int .i64 y0, .bool c] 60))
      have HR3 := Lib.hid (hrg2.call ((Below.refl _ _).alloc (Nat.le_refl _) (.cells #[.int .i64 y0, .bool c] 60)))
      have HO3 := Lib.hid (hrow2.alloc (.cells #[.int .i64 y0, .bool c] 60))
      have HC := Lib.hid (HA1.out (w.heap.size + 1 + 1) y0 c _ (HP.out.below HB3.out HP.out.lt))
      have hka := HKA.out.below HB3.out HKA.out.lt
      have a0 := hka.cell 0
      have az := hka.lt
      simp only [List.getElem?_toArray, List.getElem?_cons_zero] at a0
      have hc2 := len_le (fin_hF HM.out.fin) hrg2.sub.1 (fun y hy => by rw [← hF_some]; exact hrg2.sub.2 y hy)
      have hs2 := hb2.size
      have HFA : Hid (∀ v : Bool, P y0 = v → (L ++ [y0]).filter P = L.filter P ++ if v then [y0] else []) := Lib.hid fun v hv => by
        rw [List.filter_append, List.filter_cons, List.filter_nil, hv]
      clear hfx hof hsz hb2 hrg2 hfy hrow2 hka hfb HO
      by_cases hxy : x < y0
      · have hap : apB x b y0 c = (c || b) := by unfold apB; rw [show (y0 != x) = true by simp; omega]; rfl
        rw [hap] at HC
        rw [show decide (x < y0) = true by simpa using hxy] at HPY
        clear hap
        generalize (c || b) = v at *
        cases v with
        | false =>
          go_wp2_with fail
          refine HC.out.mono ?_
          rintro e w3 ⟨rfl, hb3⟩
          have HB4 := Lib.hid (HB3.out.trans (hb3.mono HB3.out.size))
          have HR4 := Lib.hid (HR3.out.call hb3)
          have HO4 := Lib.hid (own_keep HO3.out hb3 (Nat.le_refl _))
          clear hb3 a0 az
          go_wp2_with fail
          go_roundw
          case rel => exact ⟨cnt2, L ++ [y0], HR4.out, by rw [HFA.out _ HPY.out]; simpa using HO4.out, HB4.out⟩
          case measure => rw [HR4.out.measure, HR.out.measure]; exact hlt
        | true =>
          go_wp2_with fail
          refine HC.out.mono ?_
          rintro e w3 ⟨rfl, hb3⟩
          have HB4 := Lib.hid ((HB3.out.trans (hb3.mono HB3.out.size)).alloc (by have := hb3.size; have := HB3.out.size; omega) (.cells #[.int .i64 y0] 3))
          have HR4 := Lib.hid ((HR3.out.call hb3).call ((Below.refl _ _).alloc (Nat.le_refl _) (.cells #[.int .i64 y0] 3)))
          have HO4 := Lib.hid ((own_keep HO3.out hb3 (Nat.le_refl _)).alloc (.cells #[.int .i64 y0] 3))
          have hs3 := hb3.size
          have hs4 := HB3.out.size
          have HSE := Lib.hid (sees_num w3 w3.heap.size rfl y0)
          clear hb3 a0 az
          go_wp2_with (at_builtin; refine wpList_appG rfl (.tmp 28) (.tmp 30) _ 3 _ 1 8 rfl info_num Try.underlying26 rfl (by decide) w1.heap.size _ (L.filter P).length ((L.filter P).map (Value.int .i64)) rfl HO4.out _ _ 1 1 [.int .i64 y0] rfl HSE.out (fun h => by cases h) (num_one [y0]) (by omega) (by omega) (by simp; omega) ?_)
          intro v1 y1 ho1 hg1
          have HR5 := Lib.hid (HR4.out.off_row HO4.out hg1)
          have HB5 := Lib.hid (HB4.out.grown hg1 (by simp; omega) fun k hk => ((HO4.out.lt k hk).1))
          have HO5 := Lib.hid ho1
          clear ho1 hg1
          go_wp2_with fail
          go_roundw
          case rel => exact ⟨cnt2, L ++ [y0], HR5.out, by rw [HFA.out _ HPY.out]; simpa using HO5.out, HB5.out⟩
          case measure => rw [HR5.out.measure, HR.out.measure]; exact hlt
      · rw [show decide (x < y0) = false by simpa using (by omega : y0 ≤ x)] at HPY
        clear HC
        go_wp2_with fail
        go_roundw
        case rel => exact ⟨cnt2, L ++ [y0], HR3.out, by rw [HFA.out _ HPY.out]; simpa using HO3.out, HB3.out⟩
        case measure => rw [HR3.out.measure, HR.out.measure]; exact hlt
end Go.Proofs.Ytcjefigcaifmeaa
