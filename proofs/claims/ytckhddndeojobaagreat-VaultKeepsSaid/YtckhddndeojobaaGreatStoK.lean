/- Contracts at layer 12, of the program's calls that go over all keys: keys, Size, Snap. -/
import Derived.Test.YtckhddndeojobaaGreatStoR
namespace Go.Proofs.YtckhddndeojobaaGreat
open Go.RowKit Go.Cn Go.So Go.Maps
set_option linter.unusedVariables false
set_option linter.unusedSimpArgs false
set_option maxRecDepth 100000

theorem info_int : (Tryz.prog.info? 3).map (fun i => (i.zero, i.size, i.bytes)) = some (some (.int .i64 0), 1, 8) := by kernel_rfl
def ptrOf : Option Nat → Value
  | none => .pointer none
  | some b => ptr b
theorem cell_new (w : World) (t : TypeId) (v : Value) : ∀ j u, ([v] : List Value)[j]? = some u → (w.alloc (.cells #[v] t)).cell? ((⟨w.heap.size, 0, none⟩ : Addr).add j) = some u := by
  intro j u hu
  have hj : j = 0 := by
    have := (List.getElem?_eq_some_iff.1 hu).1
    simp at this; omega
  subst hj
  rw [add_at, Nat.zero_add, (Whole.fresh w t #[v]).cell 0]
  simpa using hu
section
variable {g mb : Nat} {s : Sto} {rb : Int → Nat} {K : Int → Nat → Prop} {F : Nat → Prop}
set_option maxHeartbeats 2000000 in
theorem skeys_any (w : World) (x : Sx w g mb s rb K F) :
    Calls Tryz.prog 46 #[ptr g] w fun e w' => ∃ A cap, e = .returned (.slice A (keysL s).length cap) ∧ Below w.heap.size w w' ∧ w'.ownsRow w.heap.size 3 1 (.slice A (keysL s).length cap) (keysL s).length ((keysL s).map (Value.int .i64)) := by
  obtain ⟨i0, hi, hz0, hz1, hz2⟩ := info_parts info_int
  have HX := Lib.hid x
  obtain ⟨D, hD, hh, -⟩ := x.map
  have hin : ∀ k, has D (.int .i64 k) = (s.ch k).isSome := fun k => by rw [hh k]; unfold rowAt; cases s.ch k <;> rfl
  obtain ⟨L, l1, l2, l3⟩ := data_keys hD
  have hlen : (keysL s).length = size D := by
    rw [← l2]
    exact len_of_mem (keysL_nodup s) l1 fun y => by rw [keysL_mem x.fine, l3 y, hin y]
  have hsz : size D ≤ 8192 := by have := keysL_len s; omega
  have HIN := Lib.hid hin
  have HLEN := Lib.hid hlen
  have hmbl := hD.lt
  obtain ⟨c0, c1, c2, z⟩ := x.cells
  clear x hh hin l1 l2 l3 hlen
  go_enter Tryz.func46, Tryz.ntmps46
  go_wp2_with (first
    | (at_len; refine wpList_len_own _ rfl _ 95 rfl 3 100 Tryz.underlying95 _ mb (size D) D rfl hD ?_)
    | (at_make; refine wpList_make_own _ rfl _ _ 87 rfl w.heap.size 3 i0 (.int .i64 0) 1 Tryz.underlying87 hi hz0 hz1 _ _ _ (size D) rfl rfl rfl (by rw [hz2]; omega) (by unfold maxLen; omega) (Nat.le_refl _) ?_; intro w1 hrow1 hg1
       have hb1 : Below w.heap.size w w1 := (Below.refl _ _).grown hg1 (Nat.le_refl _) (fun j hj => by cases hj)
       obtain ⟨k0, k1, k2, kz⟩ := (HX.out.call hb1).cells)
    | (at_range; refine wpList_range_own _ rfl _ 95 rfl 3 100 ikey_law Tryz.underlying95 _ mb (size D) D rfl (hD.kept hg1 (by simp)) ?_; intro w0 hrg0 hg0 hs0)
    | go_in)
  go_frame
  go_loopw [3] (fun v wr => ∃ (left : Lit → Bool) (cnt : Nat) (ss : List Int), wr.ranges Tryz.prog 3 ptrElem mb w1.heap.size (size D) D left cnt ∧ ss.length + cnt ≤ size D ∧
      wr.ownsRow w.heap.size 3 1 v ss.length (ss.map (Value.int .i64)) ∧ v ≠ .slice none 0 0 ∧ Met D left ss ∧ Below w.heap.size w wr)
    (fun _ wr => wr.rangeLeft mb w1.heap.size)
  case atStart =>
    exact ⟨_, _, [], hrg0, by simp, hrow1.kept hg0 (Or.inr (by simp [Value.ownBlock])), by simp, Met.start D, hb1.grown hg0 hg1.size (fun j hj => by cases hj)⟩
  case round =>
    obtain ⟨left, cnt, ss, hrg, hcs, hrow, hnn, hC, hnx⟩ := hrel
    go_wp2_with (first
      | (at_next; refine wpList_next_ranges _ rfl _ rfl 3 ikey_law ptrElem (Value.int .i64) ptrOf (fun key kl hk => by obtain ⟨y, hy, _, _⟩ := Maps.keyOf_int_inv Tryz.underlying3 hk; exact ⟨y, hy⟩) (fun v y hv => by
          rcases ptrElem_inv hv with ⟨rfl, _⟩ | ⟨b, rfl, _⟩
          · exact ⟨none, rfl⟩
          · exact ⟨some b, rfl⟩) mb w1.heap.size (size D) _ _ _ rfl hrg ?_ ?_)
      | go_in)
    · intro hc0 hl0
      obtain ⟨A, cp, rfl, r1, r2, r3⟩ := own_slice0 hrow
      rcases A with _ | ⟨gk, off, sp⟩
      · exact absurd (by rw [r3 rfl] at r1; have : ss.length = 0 := by omega
                         rw [this, r3 rfl]) hnn
      have hat : off = 0 ∧ sp = none := by
        rcases hrow.2 with ⟨h, _⟩ | ⟨g', c', cur, h, _⟩
        · simp at h
        · simp only [Value.slice.injEq, Option.some.injEq, Addr.mk.injEq] at h
          exact ⟨h.1.2.1, h.1.2.2⟩
      obtain ⟨rfl, rfl⟩ := hat
      have HS := Lib.hid (sort_own w.heap.size gk ss.length cp ss wr rfl hrow (by omega))
      have hsort : (ss.mergeSort fun x y => decide (x ≤ y)) = keysL s := sort_of_mem hC.1 (keysL_rise s) fun y => by
        rw [hC.2 y, hl0, keysL_mem HX.out.fine, HIN.out y]
        simp
      have hl : ss.length = (keysL s).length := by rw [← hsort]; simp
      have HSO := Lib.hid hsort
      have HNX := Lib.hid hnx
      have HLOW := Lib.hid (fun k (hk : some gk = some k) => (hrow.lt k (by rw [show (Value.slice (some ⟨gk, 0, none⟩) ss.length cp).ownBlock = some gk from rfl]; exact hk)).1)
      clear hsort hrow hnn hC hrg hl0 hnx hrow1 hrg0 hg0 hs0 hg1 hb1 hi hz0 hz1 hz2
      generalize ss.length = n at *
      subst hl
      go_wp2_with fail
      refine HS.out.mono ?_
      rintro e w2 ⟨rfl, ho, hg2⟩
      rw [HSO.out] at ho
      have HO := Lib.hid ho
      have HB := Lib.hid (HNX.out.grown hg2 HNX.out.size fun k hk => HLOW.out k hk)
      clear ho hg2
      go_wp2_with fail
      go_ret
      exact ⟨_, _, rfl, HB.out, HO.out⟩
    · intro x c kl yd yp w2 cnt2 hkey hlk hv hat hrg2 hlt hg2 hs2 hen
      obtain ⟨x', ex, rfl, -⟩ := Maps.keyOf_int_inv Tryz.underlying3 hkey
      obtain rfl : x = x' := by injection ex
      have hrow2 := hrow.kept hg2 (Or.inr (row_ne_iter hrow hrg).symm)
      clear hs2
      go_wp2_with (first
        | (at_builtin; refine wpList_append_own _ rfl _ _ 87 rfl w.heap.size 3 i0 (.int .i64 0) 1 8 Tryz.underlying87 hi hz0 hz1 hz2 rfl (by decide) _ _ _ rfl (hrow2.alloc _) ⟨w2.heap.size, 0, none⟩ 1 1 [.int .i64 x] rfl rfl (cell_new _ _ _) (by simp [Value.oneCell']) (by unfold maxLen at *; omega) (by omega) (by have := hnx.size; have := hg2.size; simp; omega) ?_; intro v' w3 hown' hg3 hnil3; go_frame)
        | go_in)
      have hrg3 := (hrg2.alloc _).kept hg3 (row_ne_low hrow2 hmbl) (row_ne_iter hrow2 hrg2)
      go_roundw
      case rel =>
        refine ⟨_, cnt2, ss ++ [x], hrg3, by simp; omega, by simpa using hown', fun hv' => by have := (hnil3.1 hv').2; omega, hC.step hlk hat, ?_⟩
        exact ((hnx.grown hg2 hnx.size (fun j hj => by cases hj; exact hg1.size)).alloc (by have := hnx.size; have := hg2.size; omega) _).grown hg3 (by have := hnx.size; have := hg2.size; simp; omega) (fun j hj => (hrow2.lt j hj).1)
      case measure => rw [hrg3.left_eq, hrg.left_eq]; exact hlt
theorem len_few {s : Sto} (h : Fine s) (k : Int) : lenS s k ≤ 10000 := by
  unfold lenS
  cases hk : s.ch k with
  | none => simp
  | some c => exact (h.ok k c hk).few
theorem sum_few {s : Sto} (h : Fine s) (l : List Int) : (l.map (lenS s)).sum ≤ l.length * 10000 := by
  induction l with
  | nil => simp
  | cons a l ih =>
    have := len_few h a
    simp only [List.map_cons, List.sum_cons, List.length_cons]
    omega
theorem map_flat (l : List Int) : flat (fun k => [Value.int .i64 k]) l = l.map (Value.int .i64) := by
  unfold flat
  induction l with
  | nil => rfl
  | cons a l ih => rw [List.flatMap_cons, ih]; rfl
theorem keys_sees {w : World} {B n : Nat} {A : Option Addr} {cap : Nat} {l : List Int} (h : w.ownsRow B 3 1 (.slice A n cap) n (l.map (Value.int .i64))) : Sees w w.heap.size 1 A n (flat (fun k => [Value.int .i64 k]) l) := by
  have := Sees.own h
  rwa [show l.map (Value.int .i64) = flat (fun k => [Value.int .i64 k]) l from (map_flat l).symm] at this
def encE (e : En) : List Value := [.int .i64 e.1, .int .i64 e.2]
theorem encE_len (e : En) : (encE e).length = 2 := rfl
theorem encE_one (l : List En) : ∀ u ∈ flat encE l, u.oneCell' = true := by
  intro u hu
  unfold flat at hu
  obtain ⟨a, _, hu⟩ := List.mem_flatMap.1 hu
  simp only [encE, List.mem_cons, List.not_mem_nil, or_false] at hu
  rcases hu with rfl | rfl <;> rfl
theorem encE_flat (l : List En) : (flat encE l).length = l.length * 2 := flat_length encE_len l
theorem info_ent : (Tryz.prog.info? 62).map (fun i => (i.zero, i.size, i.bytes)) = some (some (.agg #[.int .i64 0, .int .i64 0]), 2, 16) := by kernel_rfl
theorem sees_ent (w : World) (g : Nat) (hg : g = w.heap.size) (a b : Int) : Sees (w.alloc (.cells #[.int .i64 a, .int .i64 b] 62)) (g + 1) 2 (some ⟨g, 0, none⟩) 1 (flat encE [(a, b)]) := by
  subst hg
  refine ⟨rfl, fun _ => ⟨w.heap.size, 0, rfl, by omega, fun j u hu => ?_⟩⟩
  rw [Nat.zero_add, (Whole.fresh w _ _).cell j, ← Array.getElem?_toList]
  exact hu
set_option maxHeartbeats 4000000 in
theorem ssnap_any (t : Int) (w : World) (x : Sx w g mb s rb K F) :
    Calls Tryz.prog 24 #[ptr g, .int .i64 t] w fun e w' => ∃ A cap, e = .returned (.tuple #[.slice A (snapS s t).length cap, .int .i64 (tellsE s t)]) ∧ Below w.heap.size w w' ∧ w'.ownsRow w.heap.size 62 2 (.slice A (snapS s t).length cap) (snapS s t).length (flat encE (snapS s t)) := by
  have HX := Lib.hid x
  have HT := Lib.hid (stells_any t w x)
  by_cases h0 : tellsE s t = 0
  · have e1 : snapS s t = (keysL s).filterMap (entOf s t) := by unfold snapS; rw [if_pos h0, snap_keys]
    rw [e1, h0]
    rw [h0] at HT
    have HK := Lib.hid (skeys_any w x)
    have hkl := keysL_len s
    clear x e1 h0
    go_enter Tryz.func24, Tryz.ntmps24
    go_wp2_with fail
    refine HT.out.mono ?_
    rintro e w1 ⟨rfl, e1⟩
    subst w1
    go_wp2_with fail
    refine HK.out.mono ?_
    rintro e w1 ⟨A, cap, rfl, hb1, ho1⟩
    have HB := Lib.hid hb1
    have HS := Lib.hid (keys_sees ho1)
    have HY := Lib.hid (HX.out.call hb1)
    obtain ⟨A0, cap0, he, r1, r2, r3⟩ := own_slice0 ho1
    injection he with e1 e2 e3
    subst e1 e3
    clear ho1 hb1 HK HX HT
    go_wp2_with fail
    go_loopw [7, 21] (fun v i wr => ∃ k : Nat, k ≤ (keysL s).length ∧ i = .int .i64 (k : Int) ∧ wr.ownsRow w1.heap.size 62 2 v (((keysL s).take k).filterMap (entOf s t)).length (flat encE (((keysL s).take k).filterMap (entOf s t))) ∧ Below w1.heap.size w1 wr) (fun _ i _ => (keysL s).length - (intOf i).toNat)
    case atStart => exact ⟨0, by omega, rfl, World.ownsRow_nil w1 _ _ _, Below.refl _ _⟩
    case round =>
      obtain ⟨k, hk, rfl, ho, hb⟩ := hrel
      have HO := Lib.hid ho
      have HBR := Lib.hid hb
      clear ho hb
      by_cases hlt : k < (keysL s).length
      · obtain ⟨y, hy⟩ : ∃ y, (keysL s)[k]? = some y := ⟨_, List.getElem?_eq_getElem hlt⟩
        have hmem := (keysL_mem HY.out.fine y).1 (List.mem_of_getElem? hy)
        obtain ⟨c, hc⟩ := Option.isSome_iff_exists.1 hmem
        have hy64 := key64 HY.out.fine hc
        obtain ⟨b0, off, rfl, hb0, hcell⟩ := (HS.out.below HBR.out).item (fun _ => rfl) (by omega) k y hy
        have k0 := hcell 0 _ rfl
        rw [Nat.add_zero, Nat.mul_one] at k0
        have HC := Lib.hid (scounts_any y t hy64 wr (HY.out.call HBR.out))
        have hstep : ((keysL s).take (k + 1)).filterMap (entOf s t) = ((keysL s).take k).filterMap (entOf s t) ++ (entOf s t y).toList := by
          rw [List.take_add_one, hy]
          simp only [Option.toList, List.filterMap_append, List.filterMap_cons, List.filterMap_nil]
          cases entOf s t y <;> rfl
        have hml : (((keysL s).take k).filterMap (entOf s t)).length ≤ 8192 := by
          have := List.length_filterMap_le (entOf s t) ((keysL s).take k)
          rw [List.length_take] at this
          omega
        have HST := Lib.hid hstep
        have i1 : (k : Int) < ((keysL s).length : Int) := by omega
        clear hcell hy hmem hc hstep
        generalize ((keysL s).take k).filterMap (entOf s t) = m at *
        have HMV := Lib.hid (show entOf s t y = (cnt s y t).map fun v => (y, v.2) from rfl)
        generalize entOf s t y = en at *
        have hs2 := HBR.out.size
        cases hcv : cnt s y t with
        | none =>
          rw [hcv] at HC HMV
          have hen : en = none := HMV.out
          subst hen
          go_wp2_with fail
          refine HC.out.mono ?_
          rintro e w2 ⟨rfl, hb2⟩
          have HO2 := Lib.hid ((own_keep HO.out hb2 (Nat.le_refl _)).alloc (.cells #[.int .i64 0, .int .i64 0] 81))
          have HB2 := Lib.hid (HBR.out.trans (hb2.mono hs2) |>.alloc (Nat.le_trans hs2 hb2.size) (.cells #[.int .i64 0, .int .i64 0] 81))
          clear hb2
          go_wp2_with fail
          go_roundw
          case rel => exact ⟨k + 1, by omega, by go_num, by rw [HST.out]; simpa using HO2.out, HB2.out⟩
          case measure => simp [intOf]; omega
        | some v =>
          rw [hcv] at HC HMV
          have hen : en = some (y, v.2) := HMV.out
          subst hen
          go_wp2_with fail
          refine HC.out.mono ?_
          rintro e w2 ⟨rfl, hb2⟩
          have HO2 := Lib.hid ((own_keep HO.out hb2 (Nat.le_refl _)).alloc (.cells #[.int .i64 v.1, .int .i64 v.2] 81) |>.alloc (.cells #[.int .i64 y, .int .i64 v.2] 62))
          have hs3 := hb2.size
          have HB2 := Lib.hid ((HBR.out.trans (hb2.mono hs2) |>.alloc (Nat.le_trans hs2 hb2.size) (.cells #[.int .i64 v.1, .int .i64 v.2] 81)).alloc (by simp; omega) (.cells #[.int .i64 y, .int .i64 v.2] 62))
          have HSN := Lib.hid (sees_ent (w2.alloc (.cells #[.int .i64 v.1, .int .i64 v.2] 81)) (w2.heap.size + 1) (by simp) y v.2)
          clear hb2
          go_wp2_with (at_builtin; refine wpList_appG rfl (.tmp 33) (.tmp 38) _ 62 _ 2 16 rfl info_ent Tryz.underlying35 rfl (by decide) w1.heap.size _ m.length (flat encE m) rfl HO2.out _ _ 1 1 (flat encE [(y, v.2)]) rfl HSN.out (fun h => by cases h) (encE_one _) (by omega) (by omega) (by simp; omega) ?_)
          intro v1 y1 ho1 hg1
          have HO3 := Lib.hid ho1
          have HB3 := Lib.hid (HB2.out.grown hg1 (by simp; omega) fun k hk => ((HO2.out.lt k hk).1))
          clear ho1 hg1
          go_wp2_with fail
          go_roundw
          case rel => exact ⟨k + 1, by omega, by go_num, by rw [HST.out]; simp only [Option.toList]; rw [List.length_append, flat_append]; exact HO3.out, HB3.out⟩
          case measure => simp [intOf]; omega
      · obtain rfl : k = (keysL s).length := by omega
        rw [List.take_length] at HO
        obtain ⟨A2, cap2, rfl, -, -, -⟩ := own_slice0 HO.out
        go_wp2_with fail
        refine bodyPost_ret (by simp [results, Tryz.results24, go_sem]; try rfl) rfl ?_
        exact ⟨A2, cap2, rfl, HB.out.trans (HBR.out.mono HB.out.size), ow_less HO.out HB.out.size⟩
  · have e1 : snapS s t = [] := by unfold snapS; rw [if_neg h0]
    rw [e1]
    have h1 : (tellsE s t == 0) = false := by simpa using h0
    clear h0 e1 x
    generalize tellsE s t = z at *
    go_enter Tryz.func24, Tryz.ntmps24
    go_wp2_with fail
    refine HT.out.mono ?_
    rintro e w1 ⟨rfl, e1⟩
    subst w1
    go_wp2_with fail
    refine bodyPost_ret (by simp [results, Tryz.results24, go_sem]; try rfl) rfl ?_
    exact ⟨none, 0, rfl, Below.refl _ _, World.ownsRow_nil w _ _ _⟩
end
end Go.Proofs.YtckhddndeojobaaGreat
