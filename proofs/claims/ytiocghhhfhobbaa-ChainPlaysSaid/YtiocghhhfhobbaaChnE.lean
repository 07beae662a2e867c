/- Contracts at layer 11, of the document's Put and Prune. -/
import Derived.Test.YtiocghhhfhobbaaChnD
namespace Go.Proofs.Ytiocghhhfhobbaa
open Go.RowKit Go.Cn
set_option linter.unusedVariables false
set_option linter.unusedSimpArgs false
set_option maxRecDepth 100000

theorem st_callB {W w w' : World} {L : List Row} {B : Nat} (h : St W w L) (hb : Below B w w') (hB : W.heap.size ≤ B) (hr : ∀ r ∈ L, r.1 < B) : St W w' L :=
  ⟨h.below.trans (hb.mono hB), fun r hr' => (h.knows r hr').below hb (hr r hr')⟩
theorem rv_low {w : World} {B n c m : Nat} {A : Option Addr} {l : List Ve} (h : w.ownsRow B 34 2 (.slice A n c) n (flat encV l)) (hm : m ≤ B) : ∀ a, A = some a → m ≤ a.block := fun a ha => ow_low h ha hm
/-- What the document's calls tell. -/
def Told (w w' : World) (A : Option Addr) (l0 : List Ve) (e : Int) (c : Cs) (r : Ending) : Prop :=
  ∃ A' cap', r = .returned (.tuple #[.agg #[.slice A' c.l.length cap', .int .i64 c.mark], .int .i64 e]) ∧ Below w.heap.size w w' ∧ Rv w' A' cap' c.l ∧ (A' = A ∧ c.l = l0 ∨ ∀ a, A' = some a → w.heap.size ≤ a.block)
theorem put_above {c : Cs} (t : Int) (h1 : 1 ≤ t) (h : ∀ (j : Nat) v, j < c.l.length → c.l[j]? = some v → v.1 < t) : (lastV c.l).1 < t := by
  rcases Nat.eq_zero_or_pos c.l.length with h0 | h0
  · rw [lastV_none h0]; show (0 : Int) < t; omega
  · exact h _ _ (by omega) (lastV_at h0)
set_option maxHeartbeats 4000000 in
theorem rput_any (A : Option Addr) (cap : Nat) (c : Cs) (t u : Int) (w : World) (hr : Rv w A cap c.l) (hok : Ok0 c) :
    Calls Try.prog 20 #[.agg #[.slice A c.l.length cap, .int .i64 c.mark], .int .i64 t, .int .i64 u] w fun e w' => Told w w' A c.l (putE c t) (put c t u) e := by
  have H := Lib.hid (box_res w A c.l.length cap c.mark)
  have HR := Lib.hid hr
  have hfew := hok.few
  have hroom := hr.room
  have htop := hr.top
  have hnil := Lib.hid hr.nil
  have HL := Lib.hid (fun v hv => last_top hok.rise v hv)
  obtain ⟨d0, d1, f0, f1, z0⟩ := H.out.two 0 (w.heap.size + 1) rfl
  obtain ⟨c0, c1, k0, k1, z⟩ := H.out.two 1 w.heap.size rfl
  have HC := Lib.hid (put_cases c t u)
  clear hr hok
  by_cases hT : t < 1 ∨ 1125899906842624 < t
  · obtain ⟨e2, e3⟩ : putE c t = 110 ∧ put c t u = c := by
      rcases HC.out with ⟨_, e2, e3⟩ | ⟨_, _, e2, e3⟩ | ⟨_, _, _, _, e2, e3⟩ | ⟨_, _, _, _, e2, e3⟩ <;> first | exact ⟨e2, e3⟩ | omega
    rw [e2, e3]
    clear e2 e3
    rcases hT with h | h
    case' inr => have h2 : ¬ t < 1 := by omega
    all_goals
      go_enter Try.func20, Try.ntmps20
      go_wp2_with fail
      refine bodyPost_ret (by simp [results, Try.results20, go_sem, d0, d1, f0, f1, z0]; try rfl) rfl ?_
      refine ⟨A, cap, rfl, ?_⟩
      have hb : Below w.heap.size w (((w.alloc (.cells #[.slice A c.l.length cap, .int .i64 c.mark] 27)).alloc (.cells #[.slice A c.l.length cap, .int .i64 c.mark] 27))) := ((Below.refl _ _).alloc (Nat.le_refl _) _).alloc (by simp) _
      exact ⟨hb, HR.out.call hb, .inl ⟨rfl, rfl⟩⟩
  · have t1 : ¬ t < 1 := by omega
    have t2 : ¬ 1125899906842624 < t := by omega
    have t0 : 1 ≤ t := by omega
    clear hT
    go_enter Try.func20, Try.ntmps20
    go_wp2_with fail
    go_loopw [8] (fun i wr => ∃ k : Nat, k ≤ c.l.length ∧ i = .int .i64 (k : Int) ∧ Hid (∀ (j : Nat) v, j < k → c.l[j]? = some v → v.1 < t) ∧ wr = ((w.alloc (.cells #[.slice A c.l.length cap, .int .i64 c.mark] 27)).alloc (.cells #[.slice none 0 0, .int .i64 0] 27))) (fun i _ => c.l.length - (intOf i).toNat)
    case atStart => exact ⟨0, by omega, rfl, Lib.hid (fun j v hj => by omega), rfl⟩
    case round =>
      obtain ⟨k, hk, rfl, hI, e⟩ := hrel
      subst e
      by_cases hlt : k < c.l.length
      · obtain ⟨v, hv⟩ : ∃ v, c.l[k]? = some v := ⟨_, List.getElem?_eq_getElem hlt⟩
        obtain ⟨b0, off, rfl, hb0, g0, -⟩ := (HR.out.call H.out.below).cell k v hv
        have hkl : (k : Int) < (c.l.length : Int) := by omega
        by_cases hp : t ≤ v.1
        · obtain ⟨e2, e3⟩ : putE c t = 111 ∧ put c t u = c := by
            have hlast := HL.out v (List.mem_of_getElem? hv)
            rcases HC.out with ⟨_, e2, e3⟩ | ⟨_, _, e2, e3⟩ | ⟨_, _, _, _, e2, e3⟩ | ⟨_, _, _, _, e2, e3⟩ <;> first | exact ⟨e2, e3⟩ | omega
          have E2 := Lib.hid e2
          have E3 := Lib.hid e3
          clear e2 e3 hv
          go_wp2_with fail
          refine bodyPost_ret (by simp [results, Try.results20, go_sem, d0, d1, f0, f1, z0]; try rfl) rfl ?_
          rw [E2.out, E3.out]
          refine ⟨_, cap, rfl, ?_⟩
          have hb : Below w.heap.size w (((w.alloc (.cells #[.slice (some ⟨b0, off, none⟩) c.l.length cap, .int .i64 c.mark] 27)).alloc (.cells #[.slice (some ⟨b0, off, none⟩) c.l.length cap, .int .i64 c.mark] 27))) := ((Below.refl _ _).alloc (Nat.le_refl _) _).alloc (by simp) _
          exact ⟨hb, HR.out.call hb, .inl ⟨rfl, rfl⟩⟩
        · have HV := Lib.hid hv
          clear hv
          go_wp2_with fail
          go_roundw
          case rel =>
            refine ⟨k + 1, by omega, by go_num, Lib.hid (fun j a hj ha => ?_), by first | rfl | trivial⟩
            rcases Nat.lt_or_ge j k with h | h
            · exact hI.out j a h ha
            · obtain rfl : j = k := by omega
              have := HV.out.symm.trans ha
              injection this with this
              subst this
              omega
          case measure => simp [intOf]; omega
      · obtain rfl : k = c.l.length := by omega
        have hlast := put_above t t0 hI.out
        by_cases hm : t ≤ c.mark
        · obtain ⟨e2, e3⟩ : putE c t = 111 ∧ put c t u = c := by
            rcases HC.out with ⟨_, e2, e3⟩ | ⟨_, _, e2, e3⟩ | ⟨_, _, _, _, e2, e3⟩ | ⟨_, _, _, _, e2, e3⟩ <;> first | exact ⟨e2, e3⟩ | omega
          have E2 := Lib.hid e2
          have E3 := Lib.hid e3
          clear e2 e3
          go_wp2_with fail
          refine bodyPost_ret (by simp [results, Try.results20, go_sem, d0, d1, f0, f1, z0]; try rfl) rfl ?_
          rw [E2.out, E3.out]
          refine ⟨A, cap, rfl, ?_⟩
          have hb : Below w.heap.size w (((w.alloc (.cells #[.slice A c.l.length cap, .int .i64 c.mark] 27)).alloc (.cells #[.slice A c.l.length cap, .int .i64 c.mark] 27))) := ((Below.refl _ _).alloc (Nat.le_refl _) _).alloc (by simp) _
          exact ⟨hb, HR.out.call hb, .inl ⟨rfl, rfl⟩⟩
        · by_cases hf : c.l.length = 10000
          · obtain ⟨e2, e3⟩ : putE c t = 112 ∧ put c t u = c := by
              rcases HC.out with ⟨_, e2, e3⟩ | ⟨_, _, e2, e3⟩ | ⟨_, _, _, _, e2, e3⟩ | ⟨_, _, _, _, e2, e3⟩ <;> first | exact ⟨e2, e3⟩ | omega
            have E2 := Lib.hid e2
            have E3 := Lib.hid e3
            clear e2 e3
            have hq : ((c.l.length : Int) == 10000) = true := by simp; omega
            clear hf
            go_wp2_with fail
            refine bodyPost_ret (by simp [results, Try.results20, go_sem, d0, d1, f0, f1, z0]; try rfl) rfl ?_
            rw [E2.out, E3.out]
            refine ⟨A, cap, rfl, ?_⟩
            have hb : Below w.heap.size w (((w.alloc (.cells #[.slice A c.l.length cap, .int .i64 c.mark] 27)).alloc (.cells #[.slice A c.l.length cap, .int .i64 c.mark] 27))) := ((Below.refl _ _).alloc (Nat.le_refl _) _).alloc (by simp) _
            exact ⟨hb, HR.out.call hb, .inl ⟨rfl, rfl⟩⟩
          · obtain ⟨e2, e3⟩ : putE c t = 0 ∧ put c t u = ⟨c.l ++ [(t, u)], c.mark⟩ := by
              rcases HC.out with ⟨_, e2, e3⟩ | ⟨_, _, e2, e3⟩ | ⟨_, _, _, _, e2, e3⟩ | ⟨_, _, _, _, e2, e3⟩ <;> first | exact ⟨e2, e3⟩ | omega
            have E2 := Lib.hid e2
            have E3 := Lib.hid e3
            clear e2 e3 hlast
            have hq : ((c.l.length : Int) == 10000) = false := by simp; omega
            clear hf
            generalize hW : ((w.alloc (.cells #[.slice A c.l.length cap, .int .i64 c.mark] 27)).alloc (.cells #[.slice none 0 0, .int .i64 0] 27)) = w2 at *
            have hw2 : w2.heap.size = w.heap.size + 2 := by rw [← hW]; simp
            have HW2 := Lib.hid hw2
            clear hW hw2
            go_wp2_with (at_builtin; refine wpList_appG rfl (.tmp 42) (.tmp 44) _ 34 _ 2 16 rfl info_ver Try.underlying25 rfl (by decide) w2.heap.size _ 0 [] rfl (ow_new _ 34 2 _ rfl) w2.heap.size _ _ cap (flat encV c.l) rfl ((HR.out.call H.out.below).sees.alloc (Nat.le_refl _) _) hnil.out (encV_one c.l) (by omega) (by omega) (by simp) ?_)
            intro v1 y1 ho1 hg1
            try rw [Nat.zero_add] at ho1
            try rw [List.nil_append] at ho1
            have hb1 : Below w2.heap.size w2 y1 := ((Below.refl _ _).alloc (Nat.le_refl _) _).grown hg1 (by simp) (fun k hk => by
              have : some w2.heap.size = some k := hk
              injection this with this
              omega)
            have HO1 := Lib.hid ho1
            have HB1 := Lib.hid hb1
            have hy1 := hb1.size
            obtain ⟨A1, cp1, rfl, -, -, -⟩ := own_slice0 ho1
            clear ho1 hg1 hb1
            have HS1 := Lib.hid (sees_ver y1 y1.heap.size rfl t u)
            go_wp2_with (at_builtin; refine wpList_appG rfl (.tmp 45) (.tmp 49) _ 34 _ 2 16 rfl info_ver Try.underlying25 rfl (by decide) w2.heap.size _ c.l.length (flat encV c.l) rfl (HO1.out.alloc _) (y1.heap.size + 1) (some ⟨y1.heap.size, 0, none⟩) 1 1 (flat encV [(t, u)]) rfl HS1.out (fun h => by cases h) (encV_one _) (by omega) (by omega) (by simp; omega) ?_)
            intro v2 y2 ho2 hg2
            rw [← flat_append] at ho2
            have hb2 : Below w2.heap.size w2 y2 := (HB1.out.alloc hy1 _).grown hg2 (by simp; omega) (fun k hk => (ow_lt HO1.out hk).1)
            have H2 := Lib.hid (H.out.call hb2)
            obtain ⟨A2, cp2, rfl, -, -, -⟩ := own_slice0 ho2
            have HO2 := Lib.hid ho2
            clear d0 d1 f0 f1 z0 c0 c1 k0 k1 z ho2 hg2 hb2
            obtain ⟨d0, d1, f0, f1, z0⟩ := H2.out.two 0 (w.heap.size + 1) rfl
            obtain ⟨c0, c1, k0, k1, z⟩ := H2.out.two 1 w.heap.size rfl
            go_wp2_with fail
            refine bodyPost_ret (by simp [results, Try.results20, go_sem, d0, d1, f0, f1, z0]; try rfl) rfl ?_
            rw [E2.out, E3.out]
            have hw2 := HW2.out
            have ho3 : ((((y2.setCell ⟨w.heap.size, 0, none⟩ (.slice A2 (c.l.length + 1) cp2)).setCell ⟨w.heap.size + 1, 0, none⟩ (.slice A2 (c.l.length + 1) cp2)).setCell ⟨w.heap.size + 1, 1, none⟩ (.int .i64 c.mark))).ownsRow w2.heap.size 34 2 (.slice A2 (c.l.length + 1) cp2) (c.l.length + 1) (flat encV (c.l ++ [(t, u)])) := by
              refine ow_at HO2.out fun b hb => ?_
              have := (ow_lt HO2.out hb).1
              rw [Below.heap_setCell _ _ _ _ (by show b ≠ w.heap.size + 1; omega), Below.heap_setCell _ _ _ _ (by show b ≠ w.heap.size + 1; omega), Below.heap_setCell _ _ _ _ (by show b ≠ w.heap.size; omega)]
            refine ⟨A2, cp2, by simp, ?_, Rv.own ho3 (by simp), .inr (rv_low (w := y2) (l := c.l ++ [(t, u)]) HO2.out (by omega))⟩
            have hb := H2.out.below
            go_grown
/-- The kept ones so far. -/
def kp (l : List Ve) (d k : Nat) : List Ve := (l.take k).drop d
theorem kp_zero (l : List Ve) (d : Nat) : kp l d 0 = [] := by simp [kp]
theorem kp_all (l : List Ve) (d : Nat) : kp l d l.length = l.drop d := by unfold kp; rw [List.take_length]
theorem kp_step (l : List Ve) (d k : Nat) (v : Ve) (h : l[k]? = some v) : (d ≤ k ∧ kp l d (k + 1) = kp l d k ++ [v]) ∨ (k < d ∧ kp l d (k + 1) = kp l d k) := by
  have h1 := drop_take_succ l d k v h
  unfold kp
  rcases Nat.lt_or_ge k d with h2 | h2
  · rw [if_neg (by omega)] at h1
    exact .inr ⟨h2, by rw [h1]; exact (List.drop_eq_nil_of_le (by rw [List.length_take]; omega)).symm⟩
  · rw [if_pos h2] at h1
    exact .inl ⟨h2, h1⟩
theorem kp_len (l : List Ve) (d k : Nat) : (kp l d k).length ≤ l.length := by unfold kp; rw [List.length_drop, List.length_take]; omega
/-- Where the document's Prune stands in its loop. -/
structure Kp (w wr : World) (B : Nat) (A : Option Addr) (n cap : Nat) (m : Int) (A1 : Option Addr) (n1 cp1 : Nat) (l : List Ve) : Prop where
  st : St w wr [(w.heap.size + 1, 27, #[.slice none 0 0, .int .i64 0]), (w.heap.size, 27, #[.slice A n cap, .int .i64 m])]
  low : w.heap.size + 2 ≤ B ∧ B ≤ wr.heap.size
  own : wr.ownsRow B 34 2 (.slice A1 n1 cp1) n1 (flat encV l)
  len : n1 = l.length
theorem Kp.drewN {w wr : World} {B : Nat} {A : Option Addr} {n cap : Nat} {m : Int} {A1 : Option Addr} {n1 cp1 : Nat} {l : List Ve} (h : Kp w wr B A n cap m A1 n1 cp1 l) (k : Nat) : Kp w (wr.drewN k) B A n cap m A1 n1 cp1 l :=
  ⟨h.st.drewN k, h.low, ow_at h.own fun _ _ => rfl, h.len⟩
theorem Kp.app {w wr y : World} {B : Nat} {A : Option Addr} {n cap : Nat} {m : Int} {A1 : Option Addr} {n1 cp1 : Nat} {l l2 : List Ve} {A2 : Option Addr} {n2 cp2 : Nat} {o : Obj} (h : Kp w wr B A n cap m A1 n1 cp1 l) (ho : y.ownsRow B 34 2 (.slice A2 n2 cp2) n2 (flat encV l2)) (hg : (wr.alloc o).grownBy y (Value.slice A1 n1 cp1).ownBlock) (hl : n2 = l2.length) :
    Kp w y B A n cap m A2 n2 cp2 l2 := by
  have hb : Below B (wr.alloc o) y := (Below.refl _ _).grown hg (by have := h.low; simp; omega) (fun k hk => (ow_lt h.own hk).1)
  have h1 := hb.size
  have h2 : wr.heap.size ≤ (wr.alloc o).heap.size := by simp
  exact ⟨st_callB (h.st.other o) hb (by have := h.low; omega) (fun r hr => by
    have := h.low
    simp only [List.mem_cons, List.not_mem_nil, or_false] at hr
    rcases hr with rfl | rfl <;> (show _ < B; simp only; omega)), ⟨h.low.1, by have := h.low; omega⟩, ho, hl⟩
theorem Kp.fin {w wr : World} {A : Option Addr} {n cap : Nat} {m : Int} {A1 : Option Addr} {n1 cp1 : Nat} {l : List Ve} (h : Kp w wr (w.heap.size + 2) A n cap m A1 n1 cp1 l) (x u : Value) :
    Below w.heap.size w (((wr.setCell ⟨w.heap.size, 0, none⟩ x).setCell ⟨w.heap.size + 1, 0, none⟩ x).setCell ⟨w.heap.size + 1, 1, none⟩ u) ∧ Rv (((wr.setCell ⟨w.heap.size, 0, none⟩ x).setCell ⟨w.heap.size + 1, 0, none⟩ x).setCell ⟨w.heap.size + 1, 1, none⟩ u) A1 cp1 l ∧ ∀ a, A1 = some a → w.heap.size ≤ a.block := by
  refine ⟨?_, Rv.own (n := n1) (ow_at h.own fun b hb => ?_) h.len.symm, rv_low (w := wr) (l := l) h.own (by omega)⟩
  · have hb := h.st.below
    go_grown
  · have := (ow_lt h.own hb).1
    rw [Below.heap_setCell _ _ _ _ (by show b ≠ w.heap.size + 1; omega), Below.heap_setCell _ _ _ _ (by show b ≠ w.heap.size + 1; omega), Below.heap_setCell _ _ _ _ (by show b ≠ w.heap.size; omega)]
set_option maxHeartbeats 4000000 in
theorem rprune_any (A : Option Addr) (cap : Nat) (c : Cs) (t : Int) (w : World) (hr : Rv w A cap c.l) (hok : Ok c) :
    Calls Try.prog 22 #[.agg #[.slice A c.l.length cap, .int .i64 c.mark], .int .i64 t] w fun e w' => Told w w' A c.l (pruneE t) (prune c t) e := by
  have H := Lib.hid (box_res w A c.l.length cap c.mark)
  have HR := Lib.hid hr
  have hfew := hok.few
  have hroom := hr.room
  have htop := hr.top
  have hnil := Lib.hid hr.nil
  cases hT : isT t with
  | false =>
    obtain ⟨d0, d1, f0, f1, z0⟩ := H.out.two 0 (w.heap.size + 1) rfl
    obtain ⟨c0, c1, k0, k1, z⟩ := H.out.two 1 w.heap.size rfl
    obtain ⟨e2, e3⟩ : pruneE t = 110 ∧ prune c t = c := by
      rcases prune_cases c t with ⟨_, e2, e3⟩ | ⟨e, _⟩ | ⟨e, _⟩
      · exact ⟨e2, e3⟩
      · rw [hT] at e; cases e
      · rw [hT] at e; cases e
    rw [e2, e3]
    have h0 := (isT_no t).1 hT
    clear e2 e3 hT hr hok
    rcases h0 with h | h
    case' inr => have h2 : ¬ t < 0 := by omega
    all_goals
      go_enter Try.func22, Try.ntmps22
      go_wp2_with fail
      refine bodyPost_ret (by simp [results, Try.results22, go_sem, d0, d1, f0, f1, z0]; try rfl) rfl ?_
      refine ⟨A, cap, rfl, ?_⟩
      have hb : Below w.heap.size w (((w.alloc (.cells #[.slice A c.l.length cap, .int .i64 c.mark] 27)).alloc (.cells #[.slice A c.l.length cap, .int .i64 c.mark] 27))) := ((Below.refl _ _).alloc (Nat.le_refl _) _).alloc (by simp) _
      exact ⟨hb, HR.out.call hb, .inl ⟨rfl, rfl⟩⟩
  | true =>
    obtain ⟨t0, t1⟩ := (isT_iff t).1 hT
    have t2 : ¬ t < 0 := by omega
    have t3 : ¬ 1125899906842624 < t := by omega
    have E2 : Hid (pruneE t = 0) := Lib.hid (by unfold pruneE; rw [hT]; rfl)
    obtain ⟨m, hm⟩ : ∃ m, (c.mark < t ∧ m = t) ∨ (t ≤ c.mark ∧ m = c.mark) := by
      by_cases h : c.mark < t
      · exact ⟨t, .inl ⟨h, rfl⟩⟩
      · exact ⟨c.mark, .inr ⟨by omega, rfl⟩⟩
    have E3 := Lib.hid (prune_doc hok t m hm hT)
    have HST := Lib.hid (fun i b hb => stays_iff hok.rise m i b hb)
    have hdl : upTo c.l m - 1 ≤ c.l.length - 1 := by have := upTo_le c.l m; omega
    generalize upTo c.l m - 1 = d at *
    have H2 := Lib.hid (box_res w A c.l.length cap m)
    clear hT hr hok
    obtain ⟨d0, d1, f0, f1, z0⟩ := H.out.two 0 (w.heap.size + 1) rfl
    obtain ⟨c0, c1, k0, k1, z⟩ := H.out.two 1 w.heap.size rfl
    have HK := Lib.hid (show Kp w (((w.alloc (.cells #[.slice A c.l.length cap, .int .i64 m] 27)).alloc (.cells #[.slice none 0 0, .int .i64 0] 27)).alloc (.cells #[] 34)) (w.heap.size + 2) A c.l.length cap m (some ⟨w.heap.size + 2, 0, none⟩) 0 0 [] from
      ⟨H2.out.other _, ⟨Nat.le_refl _, by simp⟩, ow_new _ _ _ _ (by simp), rfl⟩)
    clear H2
    have hm2 : (c.mark < t ∧ m = t) ∨ (¬ c.mark < t ∧ m = c.mark) := by omega
    clear hm
    go_enter Try.func22, Try.ntmps22
    rcases hm2 with ⟨hm, rfl⟩ | ⟨hm, rfl⟩
    all_goals
      go_wp2_with fail
      clear d0 d1 f0 f1 z0 c0 c1 k0 k1 z H
      go_loopw [6, 7] (fun o i wr => ∃ (k : Nat) (A1 : Option Addr) (n1 cp1 : Nat), k ≤ c.l.length ∧ i = .int .i64 (k : Int) ∧ o = .slice A1 n1 cp1 ∧ Kp w wr (w.heap.size + 2) A c.l.length cap _ A1 n1 cp1 (kp c.l d k)) (fun _ i _ => c.l.length - (intOf i).toNat)
      case atStart => exact ⟨0, _, 0, 0, by omega, rfl, rfl, by rw [kp_zero]; exact HK.out⟩
      case round =>
        obtain ⟨k, A1, n1, cp1, hk, rfl, rfl, hkp⟩ := hrel
        obtain rfl := hkp.len
        have HP := Lib.hid hkp
        clear hkp HK
        obtain ⟨d0, d1, f0, f1, z0⟩ := HP.out.st.two 0 (w.heap.size + 1) rfl
        obtain ⟨c0, c1, k0, k1, z⟩ := HP.out.st.two 1 w.heap.size rfl
        by_cases hlt : k < c.l.length
        · obtain ⟨v, hv⟩ : ∃ v, c.l[k]? = some v := ⟨_, List.getElem?_eq_getElem hlt⟩
          obtain ⟨b0, off, rfl, hb0, g0, g1⟩ := (HR.out.call HP.out.st.below).cell k v hv
          have hkl : (k : Int) < (c.l.length : Int) := by omega
          have hstep := kp_step c.l d k v hv
          by_cases hend : k + 1 = c.l.length
          · have q : ((k : Int) + 1 == (c.l.length : Int)) = true := by simp; omega
            have HS : Hid (kp c.l d (k + 1) = kp c.l d k ++ [v]) := Lib.hid (by
              rcases hstep with ⟨_, h⟩ | ⟨h, _⟩
              · exact h
              · omega)
            have hkl2 := kp_len c.l d k
            clear hv hstep
            go_wp2_with fail
            go_quiet (fail)
            have HP2 := Lib.hid (HP.out.drewN nq)
            have HSV := Lib.hid (sees_ver (wr.drewN nq) wr.heap.size rfl v.1 v.2)
            go_wp2_with (at_builtin; refine wpList_appG rfl (.tmp 47) (.tmp 53) _ 34 _ 2 16 rfl info_ver Try.underlying25 rfl (by decide) (w.heap.size + 2) _ (kp c.l d k).length (flat encV (kp c.l d k)) rfl (HP2.out.own.alloc _) (wr.heap.size + 1) (some ⟨wr.heap.size, 0, none⟩) 1 1 (flat encV [(v.1, v.2)]) rfl HSV.out (fun h => by cases h) (encV_one _) (by omega) (by omega) (by have := HP2.out.low.2; simp; omega) ?_)
            intro v1 y1 ho1 hg1
            rw [← flat_append] at ho1
            obtain ⟨A2, cp2, rfl, -, -, -⟩ := own_slice0 ho1
            have HN := Lib.hid (HP2.out.app ho1 hg1 (by simp))
            clear ho1 hg1
            go_wp2_with fail
            go_roundw
            case rel => exact ⟨k + 1, A2, (kp c.l d k).length + 1, cp2, by omega, by go_num, rfl, by rw [HS.out]; exact HN.out⟩
            case measure => simp [intOf]; omega
          · obtain ⟨b, hb⟩ : ∃ b, c.l[k + 1]? = some b := ⟨_, List.getElem?_eq_getElem (by omega)⟩
            have hst := HST.out k b hb
            have q : ((k : Int) + 1 == (c.l.length : Int)) = false := by simp; omega
            obtain ⟨b1, off1, hA2, hb1, h0, h1⟩ := (HR.out.call HP.out.st.below).cell (k + 1) b hb
            injection hA2 with hA2
            injection hA2 with e1 e2
            subst e1 e2
            have hkl1 : (k : Int) + 1 < (c.l.length : Int) := by omega
            clear hb
            rcases hstep with ⟨hd, hs⟩ | ⟨hd, hs⟩
            · have hgt := hst.2 hd
              clear hst
              have HS := Lib.hid hs
              have hkl2 := kp_len c.l d k
              clear hv hs
              go_wp2_with fail
              go_quiet (fail)
              have HP2 := Lib.hid (HP.out.drewN nq)
              have HSV := Lib.hid (sees_ver (wr.drewN nq) wr.heap.size rfl v.1 v.2)
              go_wp2_with (at_builtin; refine wpList_appG rfl (.tmp 47) (.tmp 53) _ 34 _ 2 16 rfl info_ver Try.underlying25 rfl (by decide) (w.heap.size + 2) _ (kp c.l d k).length (flat encV (kp c.l d k)) rfl (HP2.out.own.alloc _) (wr.heap.size + 1) (some ⟨wr.heap.size, 0, none⟩) 1 1 (flat encV [(v.1, v.2)]) rfl HSV.out (fun h => by cases h) (encV_one _) (by omega) (by omega) (by have := HP2.out.low.2; simp; omega) ?_)
              intro v1 y1 ho1 hg1
              rw [← flat_append] at ho1
              obtain ⟨A2, cp2, rfl, -, -, -⟩ := own_slice0 ho1
              have HN := Lib.hid (HP2.out.app ho1 hg1 (by simp))
              clear ho1 hg1
              go_wp2_with fail
              go_roundw
              case rel => exact ⟨k + 1, A2, (kp c.l d k).length + 1, cp2, by omega, by go_num, rfl, by rw [HS.out]; exact HN.out⟩
              case measure => simp [intOf]; omega
            · have hgt : ¬ _ < b.1 := fun h => by have := hst.1 h; omega
              have HS := Lib.hid hs
              clear hst hv hs
              go_wp2_with fail
              go_quiet (fail)
              go_wp2_with fail
              go_roundw
              case rel => exact ⟨k + 1, A1, (kp c.l d k).length, cp1, by omega, by go_num, rfl, by rw [HS.out]; exact HP.out.drewN nq⟩
              case measure => simp [intOf]; omega
        · obtain rfl : k = c.l.length := by omega
          go_wp2_with fail
          refine bodyPost_ret (by simp [results, Try.results22, go_sem, d0, d1, f0, f1, z0]; try rfl) rfl ?_
          rw [E2.out, ← E3.out]
          have hfin := HP.out.fin (.slice A1 (kp c.l d c.l.length).length cp1)
          rw [kp_all] at hfin ⊢
          exact ⟨A1, cp1, rfl, (hfin _).1, (hfin _).2.1, .inr (hfin (.bool true)).2.2⟩
end Go.Proofs.Ytiocghhhfhobbaa
