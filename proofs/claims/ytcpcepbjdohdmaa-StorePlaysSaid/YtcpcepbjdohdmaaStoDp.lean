/- Contracts at layer 12, of the document's Put, Close. (Written by gstov.py.) -/
import Derived.Test.YtcpcepbjdohdmaaStoDs
namespace Go.Proofs.Ytcpcepbjdohdmaa
open Go.ChangeShapes Go.WideShapes Go.ChangeAt Go.RowKit Go.Cn Go.So
set_option linter.unusedVariables false
set_option linter.unusedSimpArgs false
set_option maxRecDepth 100000
/-- Where rows lie behind a call: where they lay, or in a new block. -/
def At (w w' : World) (A A' : Option Addr) : Prop := ∀ a, A' = some a → A = some a ∨ w.heap.size ≤ a.block ∧ a.block < w'.heap.size
theorem and_dv {w w' : World} {A : Option Addr} {cap : Nat} {l : List Dr} (h : Dv w A cap l) (hb : Below w.heap.size w w') : Below w.heap.size w w' ∧ Dv w' A cap l ∧ At w w' A A := ⟨hb, h.call hb, fun a ha => .inl ha⟩
theorem at_own {w w' wr : World} {B size n cap : Nat} {e : TypeId} {A A' : Option Addr} {xs : List Value} (h : wr.ownsRow B e size (.slice A' n cap) n xs) (hB : w.heap.size ≤ B) (hs : wr.heap.size ≤ w'.heap.size) : At w w' A A' := by
  intro a ha
  subst ha
  rcases h.2 with ⟨hn, -⟩ | ⟨g, cap, cur, e1, hb, hg, -⟩
  · cases hn
  · injection e1 with e1 e2 e3
    injection e1 with e1
    subst e1
    have := (Array.getElem?_eq_some_iff.1 hg).1
    exact .inr ⟨Nat.le_trans hB hb, Nat.lt_of_lt_of_le this hs⟩
theorem put_facts {w y : World} {a b c x u v : Value} {p q : Nat} (h : St w y [(p, 27, #[x, u, v]), (q, 27, #[a, b, c])]) :
    y.cell? ⟨q, 0, none⟩ = some a ∧ y.cell? ⟨q, 1, none⟩ = some b ∧ y.cell? ⟨q, 2, none⟩ = some c ∧ q < y.heap.size ∧ y.cell? ⟨p, 0, none⟩ = some x ∧ y.cell? ⟨p, 1, none⟩ = some u ∧ y.cell? ⟨p, 2, none⟩ = some v ∧
    y.frozen? ⟨p, 0, none⟩ = false ∧ y.frozen? ⟨p, 1, none⟩ = false ∧ y.frozen? ⟨p, 2, none⟩ = false ∧ p < y.heap.size := by
  have h0 := h.knows.at 0 rfl
  have h1 := h.knows.at 1 rfl
  exact ⟨h1.cell 0, h1.cell 1, h1.cell 2, h1.lt, h0.cell 0, h0.cell 1, h0.cell 2, h0.free 0, h0.free 1, h0.free 2, h0.lt⟩
theorem sees_row (w : World) (g : Nat) (hg : g = w.heap.size) (a b c : Int) : Sees (w.alloc (.cells #[.int .i64 a, .int .i64 b, .int .i64 c] 79)) (g + 1) 3 (some ⟨g, 0, none⟩) 1 (flat encD [(a, (b, c))]) := by
  subst hg
  refine ⟨rfl, fun _ => ⟨_, 0, rfl, by omega, fun j u hu => ?_⟩⟩
  rw [Nat.zero_add, (Whole.fresh w 79 _).cell j, ← Array.getElem?_toList]
  exact hu
/-- The rows behind a put. -/
def putD (d : Ds) (s : Sto) (t : Int) (l : List En) : List Dr := if putSE s t l = 0 then d.l ++ l.map (fun e => (t, e)) else d.l
theorem map_take_snoc (t : Int) (l : List En) (k : Nat) (y : En) (h : l[k]? = some y) : (l.take (k + 1)).map (fun e => ((t, e) : Dr)) = (l.take k).map (fun e => ((t, e) : Dr)) ++ [(t, y)] := by
  rw [List.take_add_one, h, List.map_append]
  rfl
set_option maxHeartbeats 16000000 in
theorem rput_any (A : Option Addr) (cap : Nat) (d : Ds) (s : Sto) (hr : Rel d s) (hf : Fine s) (t : Int) (A2 : Option Addr) (cap2 : Nat) (l : List En) (w : World) (h : Dv w A cap d.l) (hl : d.l.length ≤ 900000000) (hs : Sees w w.heap.size 2 A2 l.length (flat encE l)) (hroom : l.length ≤ cap2) (hcap : cap2 ≤ 9223372036854775807) :
    Calls Try.prog 27 #[aggM A d.l.length cap d.closed d.mark, .int .i64 t, .slice A2 l.length cap2] w fun e w' => ∃ A' cap', e = .returned (.tuple #[aggM A' (putD d s t l).length cap' d.closed d.mark, .int .i64 (putSE s t l)]) ∧ Below w.heap.size w w' ∧ Dv w' A' cap' (putD d s t l) ∧ At w w' A A' := by
  have HS := Lib.hid (((St.start w).alloc w.heap.size rfl 27 #[.slice A d.l.length cap, .int .i64 d.closed, .int .i64 d.mark]).alloc (w.heap.size + 1) (by simp) 27 #[.slice none 0 0, .int .i64 0, .int .i64 0])
  have HD := Lib.hid h
  have HSE := Lib.hid hs
  have HLAST := Lib.hid (fun w0 (h0 : Dv w0 A cap d.l) k => rlast_any A cap d.l d.closed d.mark k w0 h0 (by omega))
  have HREL := Lib.hid (fun k => hr.last hf k)
  have HVERS := Lib.hid (fun w0 (h0 : Dv w0 A cap d.l) k => rversions_any A cap d.l d.closed d.mark k w0 h0 (by omega))
  have H79S := Lib.hid hr.rows
  have HCL := Lib.hid hr.closed
  have hroom1 := h.room
  have htop := h.top
  have HNIL := Lib.hid h.nil
  clear h hs hr
  obtain ⟨c0, c1, c2, cz, d0, d1, d2, f0, f1, f2, z0⟩ := put_facts HS.out
  by_cases ht : 1 ≤ t ∧ t ≤ 1125899906842624
  · obtain ⟨t1, t2⟩ := ht
    have t3 : ¬ t < 1 := by omega
    have t4 : ¬ 1125899906842624 < t := by omega
    by_cases hc : t ≤ d.closed
    · have HE : Hid (putSE s t l = 121 ∧ putD d s t l = d.l) := Lib.hid (by
        unfold putD
        have hcl := HCL.out
        rcases putS_cases s t l with ⟨h1, _⟩ | ⟨_, _, h2, h3⟩ | ⟨_, h1, _⟩ | ⟨_, h1, _⟩ | ⟨_, h1, _⟩
        · omega
        · rw [h2]; exact ⟨rfl, rfl⟩
        · omega
        · omega
        · omega)
      rw [HE.out.1, HE.out.2]
      go_enter Try.func27, Try.ntmps27
      go_wp2_with fail
      refine bodyPost_ret (by simp [results, Try.results27, go_sem, d0, d1, d2, f0, f1, f2, z0]; try rfl) rfl ?_
      refine ⟨A, cap, rfl, and_dv HD.out ?_⟩
      have hb := HS.out.below
      go_grown
    · have hc2 : s.closed < t := by have hcl := HCL.out; omega
      by_cases hn : 100 < l.length
      · have HE : Hid (putSE s t l = 122 ∧ putD d s t l = d.l) := Lib.hid (by
          unfold putD
          have hcl := HCL.out
          rcases putS_cases s t l with ⟨h1, _⟩ | ⟨_, h1, _⟩ | ⟨_, _, _, h2, h3⟩ | ⟨_, _, h1, _⟩ | ⟨_, _, h1, _⟩
          · omega
          · omega
          · rw [h2]; exact ⟨rfl, rfl⟩
          · omega
          · omega)
        rw [HE.out.1, HE.out.2]
        have i1 : (100 : Int) < (l.length : Int) := by omega
        go_enter Try.func27, Try.ntmps27
        go_wp2_with fail
        refine bodyPost_ret (by simp [results, Try.results27, go_sem, d0, d1, d2, f0, f1, f2, z0]; try rfl) rfl ?_
        refine ⟨A, cap, rfl, and_dv HD.out ?_⟩
        have hb := HS.out.below
        go_grown
      · have hn2 : l.length ≤ 100 := by omega
        have HNO : Hid (∀ k e, l[k]? = some e → (∀ j a, j < k → l[j]? = some a → whyE s t a.1 (l.take j) = 0) → whyE s t e.1 (l.take k) ≠ 0 → putSE s t l = whyE s t e.1 (l.take k) ∧ putD d s t l = d.l) := Lib.hid fun k e hk h0 hne => by
          have hsc := scan_at s t l [] k e hk (by simpa using h0) (by simpa using hne)
          rw [List.nil_append] at hsc
          unfold putD
          rcases putS_cases s t l with ⟨h1, _⟩ | ⟨_, h1, _⟩ | ⟨_, _, h1, _⟩ | ⟨_, _, _, _, h2, h3⟩ | ⟨_, _, _, h1, _⟩
          · omega
          · omega
          · omega
          · rw [h2, hsc, if_neg hne]; exact ⟨rfl, rfl⟩
          · rw [scan_can.2 h1] at hsc; exact absurd hsc.symm hne
        have HYES : Hid ((∀ j a, l[j]? = some a → whyE s t a.1 (l.take j) = 0) → putSE s t l = 0 ∧ putD d s t l = d.l ++ l.map (fun e => (t, e))) := Lib.hid fun h0 => by
          have hsc : scanE s t [] l = 0 := (scan_all s t l []).2 (by simpa using h0)
          unfold putD
          rcases putS_cases s t l with ⟨h1, _⟩ | ⟨_, h1, _⟩ | ⟨_, _, h1, _⟩ | ⟨_, _, _, h1, _⟩ | ⟨_, _, _, h1, h2, h3⟩
          · omega
          · omega
          · omega
          · exact absurd hsc h1
          · rw [h2]; exact ⟨rfl, rfl⟩
        have i1 : ¬ (100 : Int) < (l.length : Int) := by omega
        have HWH := Lib.hid (fun k y => why_cases s t y (l.take k))
        generalize putSE s t l = EE at *
        generalize putD d s t l = LL at *
        have HO := Lib.hid (ow_new ((w.alloc (.cells #[.slice A d.l.length cap, .int .i64 d.closed, .int .i64 d.mark] 27)).alloc (.cells #[.slice none 0 0, .int .i64 0, .int .i64 0] 27)) 79 3 (w.heap.size + 1 + 1) (by simp))
        replace HS := Lib.hid (HS.out.other (.cells #[] 79))
        go_enter Try.func27, Try.ntmps27
        go_wp2_with (at_builtin; refine wpList_appG rfl (.tmp 30) (.tmp 32) _ 79 _ 3 24 rfl info_row Try.underlying25 rfl (by decide) (w.heap.size + 1 + 1) _ 0 [] rfl HO.out _ A d.l.length cap (flat encD d.l) rfl ((HD.out.call HS.out.below).sees) HNIL.out (encD_one _) (by omega) (by omega) (by simp) ?_)
        intro v1 y1 ho1 hg1
        have HO1 := Lib.hid ho1
        have HB1 : Hid (Below (w.heap.size + 1 + 1) _ y1) := Lib.hid ((Below.refl _ _).grown hg1 (by simp) fun k hk => (HO.out.lt k hk).1)
        have HS1 : Hid (St w y1 [(w.heap.size + 1, 27, #[.slice none 0 0, .int .i64 0, .int .i64 0]), (w.heap.size, 27, #[.slice A d.l.length cap, .int .i64 d.closed, .int .i64 d.mark])]) := Lib.hid (HS.out.callB HB1.out (by omega) (by simp; omega))
        have hz1 : w.heap.size + 1 + 1 ≤ y1.heap.size := by have := HB1.out.size; simp at this; omega
        clear ho1 hg1 HB1 HO HS c0 c1 c2 cz d0 d1 d2 f0 f1 f2 z0
        go_wp2_with fail
        go_loopw [8, 9] (fun v i wr => ∃ k : Nat, k ≤ l.length ∧ i = .int .i64 (k : Int) ∧ wr.ownsRow (w.heap.size + 1 + 1) 79 3 v (d.l.length + k) (flat encD (d.l ++ (l.take k).map (fun e => (t, e)))) ∧ St w wr [(w.heap.size + 1, 27, #[.slice none 0 0, .int .i64 0, .int .i64 0]), (w.heap.size, 27, #[.slice A d.l.length cap, .int .i64 d.closed, .int .i64 d.mark])] ∧ w.heap.size + 1 + 1 ≤ wr.heap.size ∧ ∀ j a, j < k → l[j]? = some a → whyE s t a.1 (l.take j) = 0) (fun _ i _ => l.length - (intOf i).toNat)
        case atStart => exact ⟨0, by omega, rfl, by simpa using HO1.out, HS1.out, hz1, fun j a h => by omega⟩
        case round =>
          obtain ⟨k, hk, rfl, ho, hst, hzr, hz0⟩ := hrel
          have HO := Lib.hid ho
          have HS := Lib.hid hst
          have HZ0 := Lib.hid hz0
          clear ho hst hz0 HO1 HS1
          obtain ⟨c0, c1, c2, cz, d0, d1, d2, f0, f1, f2, z0⟩ := put_facts HS.out
          by_cases hlt : k < l.length
          · obtain ⟨y, hy⟩ : ∃ y, l[k]? = some y := ⟨_, List.getElem?_eq_getElem hlt⟩
            have HY := Lib.hid hy
            obtain ⟨b0, off, rfl, hb0, hcell⟩ := (HSE.out.below HS.out.below).item encE_len (by omega) k y hy
            have q0 := hcell 0 _ rfl
            have q1 := hcell 1 _ rfl
            rw [Nat.add_zero] at q0
            have i2 : (k : Int) < (l.length : Int) := by omega
            have i3 : (k : Int) < (cap2 : Int) := by omega
            have HNOK := Lib.hid (fun hne => HNO.out k y hy HZ0.out hne)
            clear hy hcell
            by_cases hk1 : isK y.1 = false
            · have hw : whyE s t y.1 (l.take k) = 123 := by
                rcases HWH.out k y.1 with ⟨_, h2⟩ | ⟨h1, _⟩ | ⟨h1, _⟩ | ⟨h1, _⟩
                · exact h2
                all_goals rw [hk1] at h1; cases h1
              obtain ⟨he1, he2⟩ := HNOK.out (by rw [hw]; decide)
              rw [hw] at he1
              have HE1 := Lib.hid he1
              have HE2 := Lib.hid he2
              have h6 := (isK_no y.1).1 hk1
              clear hw he1 he2 hk1
              by_cases h0 : y.1 < 0
              · clear h6
                go_wp2_with fail
                refine bodyPost_ret (by simp [results, Try.results27, go_sem, d0, d1, d2, f0, f1, f2, z0]; try rfl) rfl ?_
                rw [HE1.out, HE2.out]
                refine ⟨A, cap, rfl, and_dv HD.out ?_⟩
                have hb := HS.out.below
                go_grown
              · have h7 : 8191 < y.1 := by omega
                clear h6
                go_wp2_with fail
                refine bodyPost_ret (by simp [results, Try.results27, go_sem, d0, d1, d2, f0, f1, f2, z0]; try rfl) rfl ?_
                rw [HE1.out, HE2.out]
                refine ⟨A, cap, rfl, and_dv HD.out ?_⟩
                have hb := HS.out.below
                go_grown
            · have hk2 : isK y.1 = true := by simpa using hk1
              obtain ⟨g1, g2⟩ := (isK_iff y.1).1 hk2
              have g3 : ¬ y.1 < 0 := by omega
              have g4 : ¬ 8191 < y.1 := by omega
              clear hk1
              go_wp2_with fail
              go_loopw [11] (fun a wx => ∃ n : Nat, n ≤ k ∧ a = .int .i64 (n : Int) ∧ (∀ e ∈ l.take n, e.1 ≠ y.1) ∧ wx = wr) (fun a _ => k - (intOf a).toNat)
              case atStart => exact ⟨0, by omega, rfl, by simp, rfl⟩
              case round =>
                obtain ⟨n, hn9, rfl, hne, e⟩ := hrel
                subst e
                have HNE := Lib.hid hne
                clear hne
                by_cases hnk : n < k
                · obtain ⟨x, hx⟩ : ∃ x, l[n]? = some x := ⟨_, List.getElem?_eq_getElem (by omega)⟩
                  obtain ⟨b0', off', hA', hb0', hcell⟩ := (HSE.out.below HS.out.below).item encE_len (by omega) n x hx
                  injection hA' with hA'
                  injection hA' with e1 e2
                  subst e1 e2
                  have r0 := hcell 0 _ rfl
                  rw [Nat.add_zero] at r0
                  have i4 : (n : Int) < (l.length : Int) := by omega
                  have i5 : (n : Int) < (cap2 : Int) := by omega
                  have i6 : (n : Int) < (k : Int) := by omega
                  have HX := Lib.hid hx
                  clear hx hcell
                  by_cases hxy : x.1 = y.1
                  · have j1 : (x.1 == y.1) = true := by simpa using hxy
                    have hany : ((l.take k).any fun e => e.1 == y.1) = true := by
                      rw [List.any_eq_true]
                      exact ⟨x, List.mem_of_getElem? (by rw [List.getElem?_take_of_lt hnk]; exact HX.out), by simpa using hxy⟩
                    have hw : whyE s t y.1 (l.take k) = 124 := by
                      rcases HWH.out k y.1 with ⟨h1, h2⟩ | ⟨_, _, h2⟩ | ⟨_, h1, _⟩ | ⟨_, h1, _⟩
                      · rw [hk2] at h1; cases h1
                      · exact h2
                      all_goals rw [hany] at h1; cases h1
                    obtain ⟨he1, he2⟩ := HNOK.out (by rw [hw]; decide)
                    rw [hw] at he1
                    have HE1 := Lib.hid he1
                    have HE2 := Lib.hid he2
                    clear hw he1 he2 hany hxy
                    go_wp2_with fail
                    refine bodyPost_ret (by simp [results, Try.results27, go_sem, d0, d1, d2, f0, f1, f2, z0]; try rfl) rfl ?_
                    rw [HE1.out, HE2.out]
                    refine ⟨A, cap, rfl, and_dv HD.out ?_⟩
                    have hb := HS.out.below
                    go_grown
                  · have j1 : (x.1 == y.1) = false := by simpa using hxy
                    have HNE2 : Hid (∀ e ∈ l.take (n + 1), e.1 ≠ y.1) := Lib.hid (by
                      rw [List.take_add_one, HX.out]
                      intro e he
                      rcases List.mem_append.1 he with he | he
                      · exact HNE.out e he
                      · have : e = x := by simpa using he
                        subst this
                        exact hxy)
                    clear hxy
                    go_wp2_with fail
                    go_roundw
                    case rel => exact ⟨n + 1, by omega, by go_num, HNE2.out, by first | rfl | trivial⟩
                    case measure => simp [intOf]; omega
                · obtain rfl : n = k := by omega
                  have hany : ((l.take n).any fun e => e.1 == y.1) = false := by
                    rw [List.any_eq_false]
                    exact fun e he => by simpa using HNE.out e he
                  have HWN := Lib.hid (HWH.out n y.1)
                  rw [hk2, hany] at HWN
                  obtain ⟨r1, r2⟩ := HREL.out y.1
                  have HL := Lib.hid (fun w0 (h0 : Dv w0 A cap d.l) => HLAST.out w0 h0 y.1)
                  have HV := Lib.hid (fun w0 (h0 : Dv w0 A cap d.l) => HVERS.out w0 h0 y.1)
                  rw [r1, r2] at HL
                  rw [H79S.out] at HV
                  have HWZ : Hid (whyE s t y.1 (l.take n) = 0 → ∀ j a, j < n + 1 → l[j]? = some a → whyE s t a.1 (l.take j) = 0) := Lib.hid fun hy0 j a hj ha => by
                    by_cases hjk : j < n
                    · exact HZ0.out j a hjk ha
                    · have : j = n := by omega
                      subst this
                      have := HY.out.symm.trans ha
                      injection this with this
                      subst this
                      exact hy0
                  have HMS := Lib.hid (map_take_snoc t l n y HY.out)
                  clear r1 r2 hany HNE hk2
                  unfold lastS verL at *
                  cases hch : s.ch y.1 with
                  | none =>
                    rw [hch] at HL HV
                    have hw0 : whyE s t y.1 (l.take n) = 0 := by
                      rcases HWN.out with ⟨h1, _⟩ | ⟨_, h1, _⟩ | ⟨_, _, _, h2⟩ | ⟨_, _, c, h2, _⟩
                      · cases h1
                      · cases h1
                      · exact h2
                      · rw [hch] at h2; cases h2
                    have HWZ2 := Lib.hid (HWZ.out hw0)
                    clear hw0 HWZ HWN HNOK hch
                    go_wp2_with fail
                    refine (HL.out _ (HD.out.call HS.out.below)).mono ?_
                    rintro e w2 ⟨rfl, hb2⟩
                    have hz2 : w.heap.size + 1 + 1 ≤ w2.heap.size := Nat.le_trans hzr hb2.size
                    replace HS := Lib.hid ((HS.out.call hb2).other (.cells #[.int .i64 0, .int .i64 0] 36))
                    replace HO := Lib.hid ((own_keep HO.out hb2 (Nat.le_refl _)).alloc (.cells #[.int .i64 0, .int .i64 0] 36))
                    clear hb2 c0 c1 c2 cz d0 d1 d2 f0 f1 f2 z0
                    obtain ⟨c0, c1, c2, cz, d0, d1, d2, f0, f1, f2, z0⟩ := put_facts HS.out
                    go_wp2_with fail
                    refine (HV.out _ (HD.out.call HS.out.below)).mono ?_
                    rintro e w3 ⟨rfl, hb3⟩
                    have hz3 : w.heap.size + 1 + 1 ≤ w3.heap.size := by have := hb3.size; simp at this; omega
                    replace HS := Lib.hid (HS.out.call hb3)
                    replace HO := Lib.hid (own_keep HO.out hb3 (Nat.le_refl _))
                    have q2 := (HSE.out.below HS.out.below).item encE_len (by omega) n y HY.out
                    obtain ⟨b0', off', hA', hb0', hcell⟩ := q2
                    injection hA' with hA'
                    injection hA' with e1 e2
                    subst e1 e2
                    have u0 := hcell 0 _ rfl
                    have u1 := hcell 1 _ rfl
                    rw [Nat.add_zero] at u0
                    clear hb3 hcell q0 q1 c0 c1 c2 cz d0 d1 d2 f0 f1 f2 z0
                    obtain ⟨c0, c1, c2, cz, d0, d1, d2, f0, f1, f2, z0⟩ := put_facts HS.out
                    have HSN := Lib.hid (sees_row w3 w3.heap.size rfl t y.1 y.2)
                    replace HO := Lib.hid (HO.out.alloc (.cells #[.int .i64 t, .int .i64 y.1, .int .i64 y.2] 79))
                    replace HS := Lib.hid (HS.out.other (.cells #[.int .i64 t, .int .i64 y.1, .int .i64 y.2] 79))
                    go_wp2_with (at_builtin; refine wpList_appG rfl (.tmp 84) (.tmp 91) _ 79 _ 3 24 rfl info_row Try.underlying25 rfl (by decide) (w.heap.size + 1 + 1) _ (d.l.length + n) _ rfl HO.out _ _ 1 1 (flat encD [(t, (y.1, y.2))]) rfl HSN.out (fun h => by cases h) (encD_one _) (by omega) (by omega) (by simp; omega) ?_)
                    intro v1 y1 ho1 hg1
                    rw [← flat_append, List.append_assoc] at ho1
                    have HO3 := Lib.hid ho1
                    have HB3 : Hid (Below (w.heap.size + 1 + 1) _ y1) := Lib.hid ((Below.refl _ _).grown hg1 (by simp; omega) fun k hk => (HO.out.lt k hk).1)
                    have HS3 : Hid (St w y1 [(w.heap.size + 1, 27, #[.slice none 0 0, .int .i64 0, .int .i64 0]), (w.heap.size, 27, #[.slice A d.l.length cap, .int .i64 d.closed, .int .i64 d.mark])]) := Lib.hid (HS.out.callB HB3.out (by omega) (by simp; omega))
                    have hz4 : w.heap.size + 1 + 1 ≤ y1.heap.size := by have := HB3.out.size; simp at this; omega
                    clear ho1 hg1 HB3
                    go_wp2_with fail
                    go_roundw
                    case rel => exact ⟨n + 1, by omega, by go_num, by first | (rw [HMS.out]; exact HO3.out) | (rw [HMS.out, List.map_take]; exact HO3.out) | (have := HO3.out; rw [← List.map_take] at this; rw [HMS.out]; exact this), HS3.out, hz4, HWZ2.out⟩
                    case measure => simp [intOf]; omega
                  | some c =>
                    rw [hch] at HL HV
                    have HWN2 : Hid ((t ≤ (lastV c.l).1 ∧ whyE s t y.1 (l.take n) = 121) ∨ ((lastV c.l).1 < t ∧ c.l.length = 10000 ∧ whyE s t y.1 (l.take n) = 125) ∨ ((lastV c.l).1 < t ∧ c.l.length ≠ 10000 ∧ whyE s t y.1 (l.take n) = 0)) := Lib.hid (by
                      rcases HWN.out with ⟨h1, _⟩ | ⟨_, h1, _⟩ | ⟨_, _, h2, _⟩ | ⟨_, _, c', h2, h3⟩
                      · cases h1
                      · cases h1
                      · rw [hch] at h2; cases h2
                      · rw [hch] at h2; injection h2 with h2; subst h2; exact h3)
                    clear HWN hch
                    generalize hlv : lastV c.l = lv at *
                    by_cases hge : t ≤ lv.1
                    · have hw : whyE s t y.1 (l.take n) = 121 := by rcases HWN2.out with ⟨_, h⟩ | ⟨h, _⟩ | ⟨h, _⟩ <;> first | exact h | omega
                      obtain ⟨he1, he2⟩ := HNOK.out (by rw [hw]; decide)
                      rw [hw] at he1
                      have HE1 := Lib.hid he1
                      have HE2 := Lib.hid he2
                      clear hw he1 he2
                      go_wp2_with fail
                      refine (HL.out _ (HD.out.call HS.out.below)).mono ?_
                      rintro e w2 ⟨rfl, hb2⟩
                      have hz2 : w.heap.size + 1 + 1 ≤ w2.heap.size := Nat.le_trans hzr hb2.size
                      replace HS := Lib.hid ((HS.out.call hb2).other (.cells #[.int .i64 lv.1, .int .i64 lv.2] 36))
                      replace HO := Lib.hid ((own_keep HO.out hb2 (Nat.le_refl _)).alloc (.cells #[.int .i64 lv.1, .int .i64 lv.2] 36))
                      clear hb2 c0 c1 c2 cz d0 d1 d2 f0 f1 f2 z0
                      obtain ⟨c0, c1, c2, cz, d0, d1, d2, f0, f1, f2, z0⟩ := put_facts HS.out
                      go_wp2_with fail
                      refine bodyPost_ret (by simp [results, Try.results27, go_sem, d0, d1, d2, f0, f1, f2, z0]; try rfl) rfl ?_
                      rw [HE1.out, HE2.out]
                      refine ⟨A, cap, rfl, and_dv HD.out ?_⟩
                      have hb := HS.out.below
                      go_grown
                    · have hlt2 : lv.1 < t := by omega
                      by_cases hfull : c.l.length = 10000
                      · have hw : whyE s t y.1 (l.take n) = 125 := by rcases HWN2.out with ⟨h, _⟩ | ⟨_, _, h⟩ | ⟨_, h, _⟩ <;> first | exact h | omega
                        obtain ⟨he1, he2⟩ := HNOK.out (by rw [hw]; decide)
                        rw [hw] at he1
                        have HE1 := Lib.hid he1
                        have HE2 := Lib.hid he2
                        simp only [hfull] at HV
                        clear hw he1 he2 hfull
                        go_wp2_with fail
                        refine (HL.out _ (HD.out.call HS.out.below)).mono ?_
                        rintro e w2 ⟨rfl, hb2⟩
                        have hz2 : w.heap.size + 1 + 1 ≤ w2.heap.size := Nat.le_trans hzr hb2.size
                        replace HS := Lib.hid ((HS.out.call hb2).other (.cells #[.int .i64 lv.1, .int .i64 lv.2] 36))
                        replace HO := Lib.hid ((own_keep HO.out hb2 (Nat.le_refl _)).alloc (.cells #[.int .i64 lv.1, .int .i64 lv.2] 36))
                        clear hb2 c0 c1 c2 cz d0 d1 d2 f0 f1 f2 z0
                        obtain ⟨c0, c1, c2, cz, d0, d1, d2, f0, f1, f2, z0⟩ := put_facts HS.out
                        go_wp2_with fail
                        refine (HV.out _ (HD.out.call HS.out.below)).mono ?_
                        rintro e w3 ⟨rfl, hb3⟩
                        have hz3 : w.heap.size + 1 + 1 ≤ w3.heap.size := by have := hb3.size; simp at this; omega
                        replace HS := Lib.hid (HS.out.call hb3)
                        replace HO := Lib.hid (own_keep HO.out hb3 (Nat.le_refl _))
                        have q2 := (HSE.out.below HS.out.below).item encE_len (by omega) n y HY.out
                        obtain ⟨b0', off', hA', hb0', hcell⟩ := q2
                        injection hA' with hA'
                        injection hA' with e1 e2
                        subst e1 e2
                        have u0 := hcell 0 _ rfl
                        have u1 := hcell 1 _ rfl
                        rw [Nat.add_zero] at u0
                        clear hb3 hcell q0 q1 c0 c1 c2 cz d0 d1 d2 f0 f1 f2 z0
                        obtain ⟨c0, c1, c2, cz, d0, d1, d2, f0, f1, f2, z0⟩ := put_facts HS.out
                        go_wp2_with fail
                        refine bodyPost_ret (by simp [results, Try.results27, go_sem, d0, d1, d2, f0, f1, f2, z0]; try rfl) rfl ?_
                        rw [HE1.out, HE2.out]
                        refine ⟨A, cap, rfl, and_dv HD.out ?_⟩
                        have hb := HS.out.below
                        go_grown
                      · have hw : whyE s t y.1 (l.take n) = 0 := by rcases HWN2.out with ⟨h, _⟩ | ⟨_, h, _⟩ | ⟨_, _, h⟩ <;> first | exact h | omega
                        have HWZ2 := Lib.hid (HWZ.out hw)
                        simp only at HV
                        generalize c.l.length = nl at *
                        have jf : ((nl : Int) == 10000) = false := by simp; omega
                        clear hw hfull
                        go_wp2_with fail
                        refine (HL.out _ (HD.out.call HS.out.below)).mono ?_
                        rintro e w2 ⟨rfl, hb2⟩
                        have hz2 : w.heap.size + 1 + 1 ≤ w2.heap.size := Nat.le_trans hzr hb2.size
                        replace HS := Lib.hid ((HS.out.call hb2).other (.cells #[.int .i64 lv.1, .int .i64 lv.2] 36))
                        replace HO := Lib.hid ((own_keep HO.out hb2 (Nat.le_refl _)).alloc (.cells #[.int .i64 lv.1, .int .i64 lv.2] 36))
                        clear hb2 c0 c1 c2 cz d0 d1 d2 f0 f1 f2 z0
                        obtain ⟨c0, c1, c2, cz, d0, d1, d2, f0, f1, f2, z0⟩ := put_facts HS.out
                        go_wp2_with fail
                        refine (HV.out _ (HD.out.call HS.out.below)).mono ?_
                        rintro e w3 ⟨rfl, hb3⟩
                        have hz3 : w.heap.size + 1 + 1 ≤ w3.heap.size := by have := hb3.size; simp at this; omega
                        replace HS := Lib.hid (HS.out.call hb3)
                        replace HO := Lib.hid (own_keep HO.out hb3 (Nat.le_refl _))
                        have q2 := (HSE.out.below HS.out.below).item encE_len (by omega) n y HY.out
                        obtain ⟨b0', off', hA', hb0', hcell⟩ := q2
                        injection hA' with hA'
                        injection hA' with e1 e2
                        subst e1 e2
                        have u0 := hcell 0 _ rfl
                        have u1 := hcell 1 _ rfl
                        rw [Nat.add_zero] at u0
                        clear hb3 hcell q0 q1 c0 c1 c2 cz d0 d1 d2 f0 f1 f2 z0
                        obtain ⟨c0, c1, c2, cz, d0, d1, d2, f0, f1, f2, z0⟩ := put_facts HS.out
                        have HSN := Lib.hid (sees_row w3 w3.heap.size rfl t y.1 y.2)
                        replace HO := Lib.hid (HO.out.alloc (.cells #[.int .i64 t, .int .i64 y.1, .int .i64 y.2] 79))
                        replace HS := Lib.hid (HS.out.other (.cells #[.int .i64 t, .int .i64 y.1, .int .i64 y.2] 79))
                        go_wp2_with (at_builtin; refine wpList_appG rfl (.tmp 84) (.tmp 91) _ 79 _ 3 24 rfl info_row Try.underlying25 rfl (by decide) (w.heap.size + 1 + 1) _ (d.l.length + n) _ rfl HO.out _ _ 1 1 (flat encD [(t, (y.1, y.2))]) rfl HSN.out (fun h => by cases h) (encD_one _) (by omega) (by omega) (by simp; omega) ?_)
                        intro v1 y1 ho1 hg1
                        rw [← flat_append, List.append_assoc] at ho1
                        have HO3 := Lib.hid ho1
                        have HB3 : Hid (Below (w.heap.size + 1 + 1) _ y1) := Lib.hid ((Below.refl _ _).grown hg1 (by simp; omega) fun k hk => (HO.out.lt k hk).1)
                        have HS3 : Hid (St w y1 [(w.heap.size + 1, 27, #[.slice none 0 0, .int .i64 0, .int .i64 0]), (w.heap.size, 27, #[.slice A d.l.length cap, .int .i64 d.closed, .int .i64 d.mark])]) := Lib.hid (HS.out.callB HB3.out (by omega) (by simp; omega))
                        have hz4 : w.heap.size + 1 + 1 ≤ y1.heap.size := by have := HB3.out.size; simp at this; omega
                        clear ho1 hg1 HB3
                        go_wp2_with fail
                        go_roundw
                        case rel => exact ⟨n + 1, by omega, by go_num, by first | (rw [HMS.out]; exact HO3.out) | (rw [HMS.out, List.map_take]; exact HO3.out) | (have := HO3.out; rw [← List.map_take] at this; rw [HMS.out]; exact this), HS3.out, hz4, HWZ2.out⟩
                        case measure => simp [intOf]; omega
          · obtain rfl : k = l.length := by omega
            rw [List.take_length] at HO
            obtain ⟨he1, he2⟩ := HYES.out fun j a ha => HZ0.out j a (List.getElem?_eq_some_iff.1 ha).1 ha
            have HE1 := Lib.hid he1
            have HE2 := Lib.hid he2
            clear he1 he2
            obtain ⟨A3, cap3, rfl, h31, h32, h33⟩ := own_slice0 HO.out
            have k0 := (HS.out.knows.at 1 rfl).free 0
            go_wp2_with fail
            refine bodyPost_ret (by simp [results, Try.results27, go_sem, c0, c1, c2, cz, d0, d1, d2, f0, f1, f2, z0]; try rfl) rfl ?_
            rw [HE1.out, HE2.out]
            have hlen : (d.l ++ l.map (fun e => ((t, e) : Dr))).length = d.l.length + l.length := by simp
            refine ⟨A3, cap3, by rw [hlen], ?_, ?_, at_own HO.out (by omega) (by simp)⟩
            · have hb := HS.out.below
              go_grown
            · refine Dv.own (B := w.heap.size + 1 + 1) (ow_at HO.out fun b hb => ?_) hlen
              have hbb := (HO.out.lt b hb).1
              repeat (first | rfl | (refine (Below.heap_setCell _ _ _ _ (by simp; omega)).trans ?_))
  · have HE : Hid (putSE s t l = 120 ∧ putD d s t l = d.l) := Lib.hid (by
      unfold putD
      have hcl := HCL.out
      rcases putS_cases s t l with ⟨_, h2, h3⟩ | ⟨h1, _⟩ | ⟨h1, _⟩ | ⟨h1, _⟩ | ⟨h1, _⟩
      · rw [h2]; exact ⟨rfl, rfl⟩
      all_goals omega)
    rw [HE.out.1, HE.out.2]
    clear HE HLAST HVERS HREL
    by_cases h0 : t < 1
    · clear ht
      go_enter Try.func27, Try.ntmps27
      go_wp2_with fail
      refine bodyPost_ret (by simp [results, Try.results27, go_sem, d0, d1, d2, f0, f1, f2, z0]; try rfl) rfl ?_
      refine ⟨A, cap, rfl, and_dv HD.out ?_⟩
      have hb := HS.out.below
      go_grown
    · have h9 : 1125899906842624 < t := by omega
      clear ht
      go_enter Try.func27, Try.ntmps27
      go_wp2_with fail
      refine bodyPost_ret (by simp [results, Try.results27, go_sem, d0, d1, d2, f0, f1, f2, z0]; try rfl) rfl ?_
      refine ⟨A, cap, rfl, and_dv HD.out ?_⟩
      have hb := HS.out.below
      go_grown
end Go.Proofs.Ytcpcepbjdohdmaa
