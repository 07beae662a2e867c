/- The document's clock: Now. -/
import Derived.Test.YtpnojhcjaneleaaClkU
namespace Go.Proofs.Ytpnojhcjaneleaa
open Go.RowKit Go.Sp Go.Fl Go.Ck
set_option linter.unusedVariables false
set_option linter.unusedSimpArgs false
set_option maxRecDepth 100000

theorem rnow_end {w W : World} {x : Nat} {A : Option Addr} {n cap : Nat} {l : List Tk} {c c' : Ck} {k L M : Int} (hT : IsT w A n cap l) (hI : Is6 c l) (hc : c' = c) (hb : Below w.heap.size w W) :
    ∃ (A' : Option Addr) (n' cap' : Nat) (l' : List Tk), (Ending.returned (.tuple #[.agg #[.float .f64 x, .slice A n cap], .agg #[.int .i64 L, .int .i64 M], .int .i64 k])) = .returned (.tuple #[.agg #[.float .f64 x, .slice A' n' cap'], .agg #[.int .i64 L, .int .i64 M], .int .i64 k]) ∧ Below w.heap.size w W ∧ IsT W A' n' cap' l' ∧ Is6 c' l' ∧ l'.length ≤ l.length + 1 ∧ (∀ p, A' = some p → A' = A ∨ w.heap.size ≤ p.block) :=
  ⟨A, n, cap, l, rfl, hb, hT.call hb, by rw [hc]; exact hI, by omega, fun _ _ => .inl rfl⟩
theorem atK_next (l : List Tk) (k : Nat) (v : Tk) (h : l[k]? = some v) : atK l (k + 1) = if v.s then (k : Int) else atK l k := by
  show (if (l.getD k default).s then (k : Int) else atK l k) = _
  rw [getD_of h]
theorem flK_next (l : List Tk) (k : Nat) (v : Tk) (h : l[k]? = some v) : flK l (k + 1) = if flK l k < v.f then v.f else flK l k := by
  show (if flK l k < (l.getD k default).f then (l.getD k default).f else flK l k) = _
  rw [getD_of h]

set_option maxHeartbeats 16000000 in
theorem rnow_any (c : Ck) (o : Ok c) (l : List Tk) (hi : Is6 c l) (A : Option Addr) (n cap : Nat) (w : World) (hT : IsT w A n cap l) (hl : l.length ≤ 1000) (h : Int) (hh : R64 h) :
    Calls Try.prog 15 #[.agg #[.float .f64 c.rate, .slice A n cap], .int .i64 h] w fun r w' =>
      ∃ (A' : Option Addr) (n' cap' : Nat) (l' : List Tk), r = .returned (.tuple #[.agg #[.float .f64 c.rate, .slice A' n' cap'], .agg #[.int .i64 (c.nowL h), .int .i64 (c.nowH h)], .int .i64 (c.nowE h)]) ∧ Below w.heap.size w w' ∧ IsT w' A' n' cap' l' ∧ Is6 (c.now h) l' ∧ l'.length ≤ l.length + 1 ∧ (∀ p, A' = some p → A' = A ∨ w.heap.size ≤ p.block) := by
  have HA := Lib.hid (fun w0 => rtime_any h w0)
  have H := Lib.hid ((((St.start w).alloc w.heap.size rfl 32 #[.float .f64 c.rate, .slice A n cap]).alloc (w.heap.size + 1) (by simp) 32 #[.float .f64 0, .slice none 0 0]).alloc (w.heap.size + 1 + 1) (by simp) 39 #[.int .i64 0, .int .i64 0])
  have HT := Lib.hid hT
  have HI := Lib.hid hi
  cases ht : isT h with
  | false =>
    rcases now_cases c o h with ⟨_, a, _⟩ | ⟨_, a, _⟩ | ⟨_, a, _⟩ | ⟨_, a, _⟩ | ⟨E0, a, nL, nH, E⟩
    case' inl => rw [ht] at a; cases a
    case' inr.inl => rw [ht] at a; cases a
    case' inr.inr.inl => rw [ht] at a; cases a
    case' inr.inr.inr.inl => rw [ht] at a; cases a
    rw [ht] at HA
    rw [E0, nL, nH]
    have HN := Lib.hid E
    generalize hrt : c.rate = rt at *
    clear ht a E0 nL nH E o hi hT hh
    obtain ⟨c0, c1, d0, d1, z0⟩ := H.out.two 2 w.heap.size rfl
    obtain ⟨p0, p1, q0, q1, y0⟩ := H.out.two 1 (w.heap.size + 1) rfl
    obtain ⟨s0, s1, t0, t1, u0⟩ := H.out.two 0 (w.heap.size + 1 + 1) rfl
    go_enter Try.func15, Try.ntmps15
    go_wp2_with fail
    refine (HA.out _).mono ?_
    rintro r w1 ⟨rfl, e1⟩
    subst w1
    go_wp2_with fail
    go_region
    all_goals go_wp2_with fail
    all_goals
      refine bodyPost_ret (by simp [results, Try.results15, go_sem, p0, p1, q0, q1, y0, s0, s1, t0, t1, u0]; try rfl) rfl ?_
      refine rnow_end HT.out HI.out HN.out ?_
      have hb := H.out.below
      go_grown
  | true =>
    rw [ht] at HA
    have HO := Lib.hid o
    have hcnt := hT.count
    subst hcnt
    have HC := Lib.hid (now_cases c o h)
    have HTT := Lib.hid ht
    have HHH := Lib.hid hh
    clear ht o hi hT hh
    go_enter Try.func15, Try.ntmps15
    go_wp2_with fail
    refine (HA.out _).mono ?_
    rintro r w1 ⟨rfl, e1⟩
    subst w1
    replace H := Lib.hid (H.out.alloc (w.heap.size + 1 + 1 + 1) (by simp) 39 #[.int .i64 0, .int .i64 0])
    go_wp2_with fail
    go_loopw [8, 9, 10] (fun a f i wr => ∃ k : Nat, k ≤ l.length ∧ i = .int .i64 (k : Int) ∧ a = .int .i64 (atK l k) ∧ f = .int .i64 (flK l k) ∧ St w wr [(w.heap.size + 1 + 1 + 1, 39, #[.int .i64 0, .int .i64 0]), (w.heap.size + 1 + 1, 39, #[.int .i64 0, .int .i64 0]), (w.heap.size + 1, 32, #[.float .f64 0, .slice none 0 0]), (w.heap.size, 32, #[.float .f64 c.rate, .slice A l.length cap])]) (fun _ _ i _ => l.length - (intOf i).toNat)
    case atStart => exact ⟨0, by omega, rfl, rfl, rfl, H.out⟩
    case round =>
      obtain ⟨k, hk, rfl, rfl, rfl, hst⟩ := hrel
      have HQ := Lib.hid hst
      clear hst H
      obtain ⟨c0, c1, d0, d1, z0⟩ := HQ.out.two 3 w.heap.size rfl
      by_cases hlt : k < l.length
      · obtain ⟨v, hv⟩ : ∃ v, l[k]? = some v := ⟨_, List.getElem?_eq_getElem hlt⟩
        obtain ⟨b0, off, rfl, hb0, hcc⟩ := (HT.out.sees.below HQ.out.below).item encT_len (by omega) k v hv
        have g1 := hcc 1 _ rfl
        have g4 := hcc 4 _ rfl
        have A1 := Lib.hid (atK_next l k v hv)
        have F1 := Lib.hid (flK_next l k v hv)
        have hkl : (k : Int) < (l.length : Int) := by omega
        have hk2 : (k : Int) ≤ 1000 := by omega
        clear hcc hv
        obtain ⟨vh, vs, vt, ve, vf⟩ := v
        simp only at g1 g4 A1 F1
        generalize atK l k = a at *
        generalize flK l k = f at *
        have key : f < vf ∨ vf ≤ f := by omega
        cases vs <;> rcases key with k1 | k1
        all_goals
          first
            | rw [if_pos k1] at F1
            | rw [if_neg (by omega)] at F1
          simp at A1
          go_wp2_with fail
          go_roundw
          case rel => exact ⟨k + 1, by omega, by go_num, by rw [A1.out], by rw [F1.out], HQ.out⟩
          case measure => simp [intOf]; omega
      · obtain rfl : k = l.length := by omega
        have hfl := HI.out.floor
        rw [hfl]
        clear hfl
        obtain ⟨p0, p1, q0, q1, y0⟩ := HQ.out.two 2 (w.heap.size + 1) rfl
        obtain ⟨s0, s1, t0, t1, u0⟩ := HQ.out.two 1 (w.heap.size + 1 + 1) rfl
        obtain ⟨r0, r1, x0, x1, v0⟩ := HQ.out.two 0 (w.heap.size + 1 + 1 + 1) rfl
        rcases HI.out.basis with ⟨hon, hat⟩ | ⟨hon, j, v, hat, hv, hv1, hv2, hv3⟩
        · rw [hat]
          rcases HC.out with ⟨_, _, a, _⟩ | ⟨_, _, a, _⟩ | ⟨_, _, a, _⟩ | ⟨E0, _, a, nL, nH, E⟩ | ⟨_, a, _⟩
          case' inl => rw [hon] at a; cases a
          case' inr.inl => rw [hon] at a; cases a
          case' inr.inr.inl => rw [hon] at a; cases a
          case' inr.inr.inr.inr => rw [HTT.out] at a; cases a
          have HE0 := Lib.hid E0; have HNL := Lib.hid nL; have HNH := Lib.hid nH
          have HN := Lib.hid E
          clear E0 a nL nH E hon hat
          go_wp2_with fail
          go_region
          all_goals go_wp2_with fail
          all_goals
            refine bodyPost_ret (by simp [results, Try.results15, go_sem, p0, p1, q0, q1, y0, s0, s1, t0, t1, u0]; try rfl) rfl ?_
            rw [HE0.out, HNL.out, HNH.out]
            refine rnow_end HT.out HI.out HN.out ?_
            have hb := HQ.out.below
            go_grown
        · have hjl : j < l.length := (List.getElem?_eq_some_iff.1 hv).1
          rcases kinds c l HI.out with ⟨e0, -⟩ | ⟨k', u, hk', hu, hul⟩
          · rw [e0] at hjl; exact absurd hjl (by simp)
          obtain ⟨b0, off, hA, hb0, hcc⟩ := (HT.out.sees.below HQ.out.below).item encT_len (by omega) j v hv
          obtain ⟨b1, off1, hA1, hb1, hcd⟩ := (HT.out.sees.below HQ.out.below).item encT_len (by omega) k' u hu
          subst hA
          injection hA1 with hA1
          injection hA1 with hA2 hA3
          subst hA2 hA3
          have g0 := hcc 0 _ rfl
          have g1 := hcc 1 _ rfl
          have g2 := hcc 2 _ rfl
          have g3 := hcc 3 _ rfl
          have g4 := hcc 4 _ rfl
          have f0 := hcd 0 _ rfl
          rw [Nat.add_zero] at g0 f0
          rw [hul] at f0
          obtain ⟨vh, vs, vt, ve, vf⟩ := v
          simp only at hv1 hv2 hv3 g0 g1 g2 g3 g4
          subst hv1 hv2 hv3
          rw [hat]
          have hbt := HO.out.basis hon
          have HB9 := Lib.hid hbt
          have hk2 : ((l.length : Nat) : Int) = (k' : Int) + 1 := by omega
          have hk3 : (k' : Int) ≤ 1000 := by omega
          have HT2 := Lib.hid (show IsT w (some ⟨b0, off, none⟩) (k' + 1) cap l from by have := HT.out; rw [hk'] at this; exact this)
          have hj2 : (j : Int) ≤ k' := by omega
          have hj3 : (j : Int) < (l.length : Int) := by omega
          clear hcc hcd hat hu hul hv
          rcases HC.out with ⟨E0, _, a, b, d, e, sr, nr, mr, l1, l2, l3, l4, nL, nH, E⟩ | ⟨E0, _, a, b, d, e, sr, nr, nL, nH, E⟩ | ⟨E0, _, a, b, nL, nH, E⟩ | ⟨_, _, a, _⟩ | ⟨_, a, _⟩
          · have HE0 := Lib.hid E0; have HNL := Lib.hid nL; have HNH := Lib.hid nH
            have HIS := Lib.hid (HI.out.now HO.out h E0 HHH.out)
            have HP := Lib.hid (fun w0 => rprod_any (h - c.r) c.rate true (crated_num HO.out.rate) (by omega) (by omega) w0)
            rw [prodT_value ((isT_iff _).2 nr) (crated_rated HO.out.rate)] at HP
            have em : moreT (h - c.r) c.rate = c.more h := rfl
            rw [em] at HP
            obtain ⟨⟨b1', b2'⟩, ⟨b3', b4'⟩, b5', b6'⟩ := hbt
            obtain ⟨of1, of2⟩ := HO.out.floor
            have k9 : ¬ 1125899906842624 - c.t < h - c.r := by unfold Ck.sum at sr; omega
            have k8 : h - c.r ≤ 1125899906842624 - c.t := by omega
            have M1 := mx_cases (c.sum h - c.e - c.more h) c.floor
            have M2 := mn_cases (c.sum h + c.e + c.more h) 1125899906842624
            have M3 := mx_cases (mn (c.sum h + c.e + c.more h) 1125899906842624) (c.lo h)
            have m1 : c.lo h = mx (c.sum h - c.e - c.more h) c.floor := rfl
            have m2 : c.hi h = mx (mn (c.sum h + c.e + c.more h) 1125899906842624) (c.lo h) := rfl
            have m3 : c.sum h = c.t + (h - c.r) := rfl
            rw [← m1] at M1
            rw [← m2] at M3
            generalize mn (c.sum h + c.e + c.more h) 1125899906842624 = mnv at *
            rw [m3] at M1 M2
            have key : ((c.t + (h - c.r) - c.e - c.more h < c.floor ∧ c.lo h = c.floor) ∨ (c.floor ≤ c.t + (h - c.r) - c.e - c.more h ∧ c.lo h = c.t + (h - c.r) - c.e - c.more h)) ∧
                ((1125899906842624 < c.t + (h - c.r) + c.e + c.more h ∧ ((1125899906842624 < c.lo h ∧ c.hi h = c.lo h) ∨ (c.lo h ≤ 1125899906842624 ∧ c.hi h = 1125899906842624))) ∨
                 (c.t + (h - c.r) + c.e + c.more h ≤ 1125899906842624 ∧ ((c.t + (h - c.r) + c.e + c.more h < c.lo h ∧ c.hi h = c.lo h) ∨ (c.lo h ≤ c.t + (h - c.r) + c.e + c.more h ∧ c.hi h = c.t + (h - c.r) + c.e + c.more h)))) := by omega
            clear M1 M2 M3 m1 m2 m3 em E0 a nL nH E hon e sr
            obtain ⟨nr1, nr2⟩ := nr
            obtain ⟨mr1, mr2⟩ := mr
            generalize c.more h = mm at *
            generalize c.lo h = lo at *
            generalize c.hi h = hi at *
            go_wp2_with fail
            refine (HP.out _).mono ?_
            rintro r ym ⟨rfl, hb⟩
            replace HQ := Lib.hid ((HQ.out.alloc wr.heap.size rfl 77 #[.int .i64 c.r, .bool vs, .int .i64 c.t, .int .i64 c.e, .int .i64 vf]).call hb)
            clear hb c0 c1 d0 d1 z0 p0 p1 q0 q1 y0 s0 s1 t0 t1 u0 r0 r1 x0 x1 v0 g0 g1 g2 g3 g4 f0
            obtain ⟨c0, c1, d0, d1, z0⟩ := HQ.out.two 4 w.heap.size rfl
            obtain ⟨e0, e1, e2, e3, e4⟩ := (HQ.out.knows.at 0 rfl).five
            rcases key with ⟨⟨kk1, hl9⟩ | ⟨kk1, hl9⟩, ⟨kk2, ⟨kk3, hh9⟩ | ⟨kk3, hh9⟩⟩ | ⟨kk2, ⟨kk3, hh9⟩ | ⟨kk3, hh9⟩⟩⟩
            all_goals rw [hl9] at kk3
            all_goals
              first
                | (exfalso; omega)
                | skip
            · skip
              have HLO := Lib.hid hl9
              have HHI := Lib.hid hh9
              clear hl9 hh9
              go_wp2_with fail
              have HS9 : Hid (St w (ym.alloc (.cells #[.int .i64 (c.floor), .int .i64 (1125899906842624)] 39)) [(w.heap.size, 32, #[.float .f64 c.rate, Value.slice (some ⟨b0, off, none⟩) (k' + 1) cap]), (w.heap.size + 1, 32, #[.float .f64 0, .slice none 0 0]), (w.heap.size + 1 + 1, 39, #[.int .i64 0, .int .i64 0]), (ym.heap.size, 39, #[.int .i64 lo, .int .i64 hi])]) := Lib.hid (by rw [HHI.out, HLO.out]; exact (HQ.out.alloc ym.heap.size rfl 39 #[.int .i64 (c.floor), .int .i64 (1125899906842624)]).few (by simp [hk']))
              have hdm : ∀ r ∈ ([(w.heap.size + 1, 32, #[.float .f64 0, .slice none 0 0]), (w.heap.size + 1 + 1, 39, #[.int .i64 0, .int .i64 0]), (ym.heap.size, 39, #[.int .i64 lo, .int .i64 hi])] : List Row), r.1 ≠ w.heap.size := by intro r hr; simp at hr; rcases hr with rfl | rfl | rfl <;> (show _ ≠ _; simp <;> omega)
              have HDM := Lib.hid hdm
              have HLT := Lib.hid (show w.heap.size + 1 + 1 < ym.heap.size from by have := (HQ.out.knows.at 2 rfl).lt; omega)
              refine Iv.region (fun f aa yw => ∃ v110 v111 v112 v113 v114 v115 v116 v117 v118 v119 v120 v121 v122 v123 v124 v125 v126 p0 v1 p8 v2, aa = ⟨#[Value.agg #[Value.float FloatKind.f64 c.rate, Value.slice (some { block := b0, off := off }) (k' + 1) cap], Value.int IntKind.i64 h, Value.pointer (some { block := w.heap.size, off := 0 }), undef, Value.pointer (some { block := w.heap.size + 1, off := 0 }), Value.pointer (some { block := w.heap.size + 1 + 1, off := 0 }), Value.int IntKind.i64 0, Value.pointer (some { block := w.heap.size + 1 + 1 + 1, off := 0 }), Value.int IntKind.i64 (j : Int), Value.int IntKind.i64 c.floor, Value.int IntKind.i64 ((k' : Int) + 1), Value.pointer (some { block := wr.heap.size, off := 0 }), Value.int IntKind.i64 (h - c.r), Value.int IntKind.i64 mm, Value.int IntKind.i64 0, Value.pointer (some { block := ym.heap.size, off := 0 }), Value.agg #[Value.int IntKind.i64 0, Value.int IntKind.i64 0], Value.int IntKind.i64 h, Value.bool true, Value.bool false, undef, undef, Value.int IntKind.i64 ((k' : Int) + 1), Value.pointer (some { block := w.heap.size, off := 1 }), Value.slice (some { block := b0, off := off }) (k' + 1) cap, Value.int IntKind.i64 ((k' : Int) + 1), Value.bool false, u27, u28, u29, u30, u31, u32, u33, u34, u35, u36, u37, u38, u39, u40, u41, u42, u43, u44, u45, u46, u47, u48, u49, Value.int IntKind.i64 (j : Int), Value.bool (decide ((j : Int) < 0)), undef, undef, Value.pointer (some { block := w.heap.size, off := 1 }), Value.slice (some { block := b0, off := off }) (k' + 1) cap, Value.pointer (some { block := w.heap.size, off := 1 }), Value.slice (some { block := b0, off := off }) (k' + 1) cap, Value.int IntKind.i64 ((k' : Int) + 1), Value.int IntKind.i64 (k' : Int), Value.pointer (some { block := b0, off := off + k' * 5 }), Value.pointer (some { block := b0, off := off + k' * 5 }), Value.int IntKind.i64 c.last, Value.int IntKind.i64 h, Value.bool (decide (h < c.last)), undef, undef, Value.pointer (some { block := w.heap.size, off := 1 }), Value.slice (some { block := b0, off := off }) (k' + 1) cap, Value.int IntKind.i64 (j : Int), Value.pointer (some { block := b0, off := off + j * 5 }), Value.agg #[Value.int IntKind.i64 c.r, Value.bool vs, Value.int IntKind.i64 c.t, Value.int IntKind.i64 c.e, Value.int IntKind.i64 vf], Value.int IntKind.i64 h, Value.pointer (some { block := wr.heap.size, off := 0 }), Value.int IntKind.i64 c.r, Value.int IntKind.i64 (h - c.r), Value.int IntKind.i64 (h - c.r), Value.pointer (some { block := wr.heap.size, off := 2 }), Value.int IntKind.i64 c.t, Value.int IntKind.i64 (1125899906842624 - c.t), Value.bool false, undef, undef, Value.tuple #[Value.int IntKind.i64 mm, Value.int IntKind.i64 0], Value.int IntKind.i64 (h - c.r), Value.pointer (some { block := w.heap.size, off := 0 }), Value.float FloatKind.f64 c.rate, Value.tuple #[Value.int IntKind.i64 mm, Value.int IntKind.i64 0], Value.int IntKind.i64 mm, Value.int IntKind.i64 0, Value.pointer (some { block := wr.heap.size, off := 2 }), Value.int IntKind.i64 c.t, Value.int IntKind.i64 (h - c.r), Value.int IntKind.i64 (c.t + (h - c.r)), Value.pointer (some { block := wr.heap.size, off := 3 }), Value.int IntKind.i64 c.e, Value.int IntKind.i64 (c.t + (h - c.r) - c.e), Value.int IntKind.i64 mm, Value.int IntKind.i64 (c.t + (h - c.r) - c.e - mm), Value.pointer (some { block := wr.heap.size, off := 2 }), Value.int IntKind.i64 c.t, Value.int IntKind.i64 (h - c.r), Value.int IntKind.i64 (c.t + (h - c.r)), Value.pointer (some { block := wr.heap.size, off := 3 }), Value.int IntKind.i64 c.e, Value.int IntKind.i64 (c.t + (h - c.r) + c.e), Value.int IntKind.i64 mm, Value.int IntKind.i64 (c.t + (h - c.r) + c.e + mm), Value.agg #[Value.int IntKind.i64 (c.t + (h - c.r) - c.e - mm), Value.int IntKind.i64 (c.t + (h - c.r) + c.e + mm)], Value.pointer (some { block := ym.heap.size, off := 0 }), v110, v111, v112, v113, v114, v115, v116, v117, v118, v119, v120, v121, v122, v123, v124, v125, v126, sl (f 0) (.slice (some ⟨p0, 0, none⟩) 0 0), sl (f 1) (.pointer (some ⟨w.heap.size, 1, none⟩)), sl (f 2) (Value.slice (some ⟨b0, off, none⟩) (k' + 1) cap), sl (f 3) (v1), sl (f 4) (.int .i64 h), sl (f 5) (.pointer (some ⟨ym.heap.size, 0, none⟩)), sl (f 6) (.int .i64 lo), sl (f 7) (.agg #[.int .i64 h, .bool false, .int .i64 0, .int .i64 0, .int .i64 lo]), sl (f 8) (.slice (some ⟨p8, 0, none⟩) 1 1), sl (f 9) (v2), sl (f 10) (.pointer (some ⟨w.heap.size, 1, none⟩)), undef, undef], []⟩ ∧ Ap w yw [(w.heap.size, 32, #[.float .f64 c.rate, if f 11 = true then v2 else Value.slice (some ⟨b0, off, none⟩) (k' + 1) cap]), (w.heap.size + 1, 32, #[.float .f64 0, .slice none 0 0]), (w.heap.size + 1 + 1, 39, #[.int .i64 0, .int .i64 0]), (ym.heap.size, 39, #[.int .i64 lo, .int .i64 hi])] (ym.heap.size + 1) p0 p8 (k' + 1) v1 v2 l h lo (f 0) (f 3) (f 8) (f 9) ∧ (f 11 = true → f 2 = true) ∧ (f 11 = true → f 3 = true ∧ f 9 = true)) (by kernel_rfl) (by kernel_rfl) ?_ ?_ ?_
              · exact ⟨_, _, _, _, _, _, _, _, _, _, _, _, _, _, _, _, _, 0, undef, 0, undef, rfl, Ap.start (HS9.out.drewN 1) (by simp) _ _ _ _ _ _ _ _, (fun h => by cases h), fun h => by cases h⟩
              · refine ⟨?_, ?_, ?_, ?_, ?_, ?_, ?_, ?_, ?_, ?_, ?_, ?_, trivial⟩
                · rintro f a0 yw Q' ⟨v110, v111, v112, v113, v114, v115, v116, v117, v118, v119, v120, v121, v122, v123, v124, v125, v126, p0, v1, p8, v2, rfl, hw⟩ hi hd hQ
                  replace hQ := Lib.hid hQ
                  simp [Iv.depsB, Region.binds] at hd
                  try simp only [hi, hd, sl_true, sl_false]
                  try simp only [hi, sl_true, sl_false]
                  have hw2 := hw
                  rw [hi] at hw2
                  go_wp2_with fail
                  refine hQ.out _ _ ⟨v110, v111, v112, v113, v114, v115, v116, v117, v118, v119, v120, v121, v122, v123, v124, v125, v126, yw.heap.size, v1, p8, v2, ?_, ?_⟩
                  · simp [Iv.upd, hi, hd, sl_true, sl_false]
                  · simpa [Iv.upd] using (show _ ∧ _ from ⟨hw2.1.made, hw2.2⟩)
                · rintro f a0 yw Q' ⟨v110, v111, v112, v113, v114, v115, v116, v117, v118, v119, v120, v121, v122, v123, v124, v125, v126, p0, v1, p8, v2, rfl, hw⟩ hi hd hQ
                  replace hQ := Lib.hid hQ
                  simp [Iv.depsB, Region.binds] at hd
                  try simp only [hi, hd, sl_true, sl_false]
                  try simp only [hi, sl_true, sl_false]
                  go_wp2_with fail
                  refine hQ.out _ _ ⟨v110, v111, v112, v113, v114, v115, v116, v117, v118, v119, v120, v121, v122, v123, v124, v125, v126, p0, v1, p8, v2, ?_, ?_⟩
                  · simp [Iv.upd, hi, hd, sl_true, sl_false]
                  · simpa [Iv.upd, hi, hd] using hw
                · rintro f a0 yw Q' ⟨v110, v111, v112, v113, v114, v115, v116, v117, v118, v119, v120, v121, v122, v123, v124, v125, v126, p0, v1, p8, v2, rfl, hw⟩ hi hd hQ
                  replace hQ := Lib.hid hQ
                  simp [Iv.depsB, Region.binds] at hd
                  try simp only [hi, hd, sl_true, sl_false]
                  try simp only [hi, sl_true, sl_false]
                  have hwk : Whole yw w.heap.size 32 #[.float .f64 c.rate, Value.slice (some ⟨b0, off, none⟩) (k' + 1) cap] := by
                    have e11 : f 11 = false := by
                      cases h11 : f 11 with
                      | false => rfl
                      | true => have := hw.2.1 h11; rw [hi] at this; cases this
                    have := hw.1.st.knows.at 0 rfl
                    simpa [e11] using this
                  obtain ⟨c0, c1, d0, d1, z0⟩ := (show Knows _ [_] from fun r hr => by rw [List.mem_singleton.1 hr]; exact hwk).two 0 w.heap.size rfl
                  clear hwk
                  go_wp2_with fail
                  refine hQ.out _ _ ⟨v110, v111, v112, v113, v114, v115, v116, v117, v118, v119, v120, v121, v122, v123, v124, v125, v126, p0, v1, p8, v2, ?_, ?_⟩
                  · simp [Iv.upd, hi, hd, sl_true, sl_false]
                  · simpa [Iv.upd, hi, hd] using (show _ ∧ _ from ⟨hw.1, hw.2.2⟩)
                · rintro f a0 yw Q' ⟨v110, v111, v112, v113, v114, v115, v116, v117, v118, v119, v120, v121, v122, v123, v124, v125, v126, p0, v1, p8, v2, rfl, hw⟩ hi hd hQ
                  replace hQ := Lib.hid hQ
                  simp [Iv.depsB, Region.binds] at hd
                  try simp only [hi, hd, sl_true, sl_false]
                  try simp only [hi, sl_true, sl_false]
                  have ea : f 0 = true := by simp [hd]
                  have hw2 := hw
                  rw [hi, ea] at hw2
                  have HW2 := Lib.hid hw2
                  clear hw2
                  go_wp2_with (at_builtin; refine wpList_appG rfl (.tmp 127) (.tmp 129) _ 77 _ 5 40 rfl info_taken Try.underlying30 rfl (by decide) (ym.heap.size + 1) _ 0 [] rfl (HW2.out.1.own0 rfl rfl) w.heap.size _ _ cap (flat encT l) rfl (HT2.out.sees.below HW2.out.1.st.below) HT2.out.nil (encT_one l) (by omega) (by omega) HW2.out.1.low.2.1 ?_)
                  intro vn yn ho hg
                  try rw [Nat.zero_add] at ho
                  try rw [List.nil_append] at ho
                  refine hQ.out _ _ ⟨v110, v111, v112, v113, v114, v115, v116, v117, v118, v119, v120, v121, v122, v123, v124, v125, v126, p0, vn, p8, v2, ?_, ?_⟩
                  · simp [Iv.upd, hi, hd, sl_true, sl_false]
                  · have hz := HW2.out.2
                    refine ⟨by simpa [Iv.upd, ea] using HW2.out.1.app1 ho hg, by simpa [Iv.upd] using hz.1, fun h11 => ?_⟩
                    have := (hz.2 (by simpa [Iv.upd] using h11)).1
                    cases this
                · rintro f a0 yw Q' ⟨v110, v111, v112, v113, v114, v115, v116, v117, v118, v119, v120, v121, v122, v123, v124, v125, v126, p0, v1, p8, v2, rfl, hw⟩ hi hd hQ
                  replace hQ := Lib.hid hQ
                  simp [Iv.depsB, Region.binds] at hd
                  try simp only [hi, hd, sl_true, sl_false]
                  try simp only [hi, sl_true, sl_false]
                  go_wp2_with fail
                  refine hQ.out _ _ ⟨v110, v111, v112, v113, v114, v115, v116, v117, v118, v119, v120, v121, v122, v123, v124, v125, v126, p0, v1, p8, v2, ?_, ?_⟩
                  · simp [Iv.upd, hi, hd, sl_true, sl_false]
                  · simpa [Iv.upd, hi, hd] using hw
                · rintro f a0 yw Q' ⟨v110, v111, v112, v113, v114, v115, v116, v117, v118, v119, v120, v121, v122, v123, v124, v125, v126, p0, v1, p8, v2, rfl, hw⟩ hi hd hQ
                  replace hQ := Lib.hid hQ
                  simp [Iv.depsB, Region.binds] at hd
                  try simp only [hi, hd, sl_true, sl_false]
                  try simp only [hi, sl_true, sl_false]
                  go_wp2_with fail
                  refine hQ.out _ _ ⟨v110, v111, v112, v113, v114, v115, v116, v117, v118, v119, v120, v121, v122, v123, v124, v125, v126, p0, v1, p8, v2, ?_, ?_⟩
                  · simp [Iv.upd, hi, hd, sl_true, sl_false]
                  · simpa [Iv.upd, hi, hd] using hw
                · rintro f a0 yw Q' ⟨v110, v111, v112, v113, v114, v115, v116, v117, v118, v119, v120, v121, v122, v123, v124, v125, v126, p0, v1, p8, v2, rfl, hw⟩ hi hd hQ
                  replace hQ := Lib.hid hQ
                  simp [Iv.depsB, Region.binds] at hd
                  try simp only [hi, hd, sl_true, sl_false]
                  try simp only [hi, sl_true, sl_false]
                  obtain ⟨c0, c1, d0, d1, z0⟩ := hw.1.st.two 3 ym.heap.size rfl
                  go_wp2_with fail
                  refine hQ.out _ _ ⟨v110, v111, v112, v113, v114, v115, v116, v117, v118, v119, v120, v121, v122, v123, v124, v125, v126, p0, v1, p8, v2, ?_, ?_⟩
                  · simp [Iv.upd, hi, hd, sl_true, sl_false]
                  · simpa [Iv.upd, hi, hd] using hw
                · rintro f a0 yw Q' ⟨v110, v111, v112, v113, v114, v115, v116, v117, v118, v119, v120, v121, v122, v123, v124, v125, v126, p0, v1, p8, v2, rfl, hw⟩ hi hd hQ
                  replace hQ := Lib.hid hQ
                  simp [Iv.depsB, Region.binds] at hd
                  try simp only [hi, hd, sl_true, sl_false]
                  try simp only [hi, sl_true, sl_false]
                  go_wp2_with fail
                  refine hQ.out _ _ ⟨v110, v111, v112, v113, v114, v115, v116, v117, v118, v119, v120, v121, v122, v123, v124, v125, v126, p0, v1, p8, v2, ?_, ?_⟩
                  · simp [Iv.upd, hi, hd, sl_true, sl_false]
                  · simpa [Iv.upd, hi, hd] using hw
                · rintro f a0 yw Q' ⟨v110, v111, v112, v113, v114, v115, v116, v117, v118, v119, v120, v121, v122, v123, v124, v125, v126, p0, v1, p8, v2, rfl, hw⟩ hi hd hQ
                  replace hQ := Lib.hid hQ
                  simp [Iv.depsB, Region.binds] at hd
                  try simp only [hi, hd, sl_true, sl_false]
                  try simp only [hi, sl_true, sl_false]
                  have hw2 := hw
                  rw [hi] at hw2
                  have HW2 := Lib.hid hw2
                  clear hw2
                  go_wp2_with fail
                  refine hQ.out _ _ ⟨v110, v111, v112, v113, v114, v115, v116, v117, v118, v119, v120, v121, v122, v123, v124, v125, v126, p0, v1, yw.heap.size, v2, ?_, ?_⟩
                  · simp [Iv.upd, hi, hd, sl_true, sl_false]
                  · simpa [Iv.upd] using (show _ ∧ _ from ⟨HW2.out.1.item8, HW2.out.2⟩)
                · rintro f a0 yw Q' ⟨v110, v111, v112, v113, v114, v115, v116, v117, v118, v119, v120, v121, v122, v123, v124, v125, v126, p0, v1, p8, v2, rfl, hw⟩ hi hd hQ
                  replace hQ := Lib.hid hQ
                  simp [Iv.depsB, Region.binds] at hd
                  try simp only [hi, hd, sl_true, sl_false]
                  try simp only [hi, sl_true, sl_false]
                  have ea : f 3 = true := by simp [hd]
                  have eb : f 8 = true := by simp [hd]
                  have hw2 := hw
                  rw [hi, ea, eb] at hw2
                  have HW2 := Lib.hid hw2
                  clear hw2
                  go_wp2_with (at_builtin; refine wpList_appG rfl (.tmp 130) (.tmp 135) _ 77 _ 5 40 rfl info_taken Try.underlying30 rfl (by decide) (ym.heap.size + 1) _ _ (flat encT l) rfl (HW2.out.1.own1 rfl rfl) (p8 + 1) (some ⟨p8, 0, none⟩) 1 1 (encT ⟨h, false, 0, 0, lo⟩) rfl HW2.out.1.sees (fun h => by cases h) (by intro u hu; exact encT_one [⟨h, false, 0, 0, lo⟩] u (by rw [flat_one]; exact hu)) (by omega) (by omega) HW2.out.1.low.2.1 ?_)
                  intro vn yn ho hg
                  rw [← flat_one (enc := encT), ← flat_append] at ho
                  refine hQ.out _ _ ⟨v110, v111, v112, v113, v114, v115, v116, v117, v118, v119, v120, v121, v122, v123, v124, v125, v126, p0, v1, p8, vn, ?_, ?_⟩
                  · simp [Iv.upd, hi, hd, sl_true, sl_false]
                  · have hz := HW2.out.2
                    have e11 : f 11 = false := by
                      cases h11 : f 11 with
                      | false => rfl
                      | true => have := (hz.2 h11).2; cases this
                    have hk := HW2.out.1.app2 ho hg
                    rw [e11] at hk
                    refine ⟨by simpa [Iv.upd, ea, eb, e11] using hk, by simp [Iv.upd, e11], by simp [Iv.upd, e11]⟩
                · rintro f a0 yw Q' ⟨v110, v111, v112, v113, v114, v115, v116, v117, v118, v119, v120, v121, v122, v123, v124, v125, v126, p0, v1, p8, v2, rfl, hw⟩ hi hd hQ
                  replace hQ := Lib.hid hQ
                  simp [Iv.depsB, Region.binds] at hd
                  try simp only [hi, hd, sl_true, sl_false]
                  try simp only [hi, sl_true, sl_false]
                  go_wp2_with fail
                  refine hQ.out _ _ ⟨v110, v111, v112, v113, v114, v115, v116, v117, v118, v119, v120, v121, v122, v123, v124, v125, v126, p0, v1, p8, v2, ?_, ?_⟩
                  · simp [Iv.upd, hi, hd, sl_true, sl_false]
                  · simpa [Iv.upd, hi, hd] using hw
                · rintro f a0 yw Q' ⟨v110, v111, v112, v113, v114, v115, v116, v117, v118, v119, v120, v121, v122, v123, v124, v125, v126, p0, v1, p8, v2, rfl, hw⟩ hi hd hQ
                  replace hQ := Lib.hid hQ
                  simp [Iv.depsB, Region.binds] at hd
                  try simp only [hi, hd, sl_true, sl_false]
                  try simp only [hi, sl_true, sl_false]
                  have ea : f 3 = true := by simp [hd]
                  have eb : f 9 = true := by simp [hd]
                  have hw2 := hw.1
                  rw [hi, ea, eb] at hw2
                  have hwk : Whole yw w.heap.size 32 #[.float .f64 c.rate, Value.slice (some ⟨b0, off, none⟩) (k' + 1) cap] := hw2.st.knows.at 0 rfl
                  obtain ⟨c0, c1, d0, d1, z0⟩ := (show Knows _ [_] from fun r hr => by rw [List.mem_singleton.1 hr]; exact hwk).two 0 w.heap.size rfl
                  clear hwk
                  obtain ⟨A9, c9, rfl, -, -, -⟩ := own_slice0 (hw2.own2 rfl)
                  have HK := Lib.hid (hw2.stored (i := 1) (u := .slice A9 (k' + 1 + 1) c9) (Nat.le_refl _) HDM.out)
                  clear hw2
                  go_wp2_with fail
                  refine hQ.out _ _ ⟨v110, v111, v112, v113, v114, v115, v116, v117, v118, v119, v120, v121, v122, v123, v124, v125, v126, p0, v1, p8, .slice A9 (k' + 1 + 1) c9, ?_, ?_⟩
                  · simp [Iv.upd, hi, hd, sl_true, sl_false]
                  · have hk := HK.out
                    refine ⟨by simpa [Iv.upd, ea, eb] using hk, by simp [Iv.upd, hd], by simp [Iv.upd, hd]⟩
              · rintro f a0 wz ⟨v110, v111, v112, v113, v114, v115, v116, v117, v118, v119, v120, v121, v122, v123, v124, v125, v126, p0, v1, p8, v2, rfl, hw⟩ hall
                simp only [hall 0 (by decide), hall 1 (by decide), hall 2 (by decide), hall 3 (by decide), hall 4 (by decide), hall 5 (by decide), hall 6 (by decide), hall 7 (by decide), hall 8 (by decide), hall 9 (by decide), hall 10 (by decide), hall 11 (by decide), sl_true, ↓reduceIte] at hw ⊢
                clear hall
                have HS8 := Lib.hid hw.1.st
                have HO8 := Lib.hid (hw.1.own2 rfl)
                clear hw
                obtain ⟨A2, cp2, rfl, -, -, -⟩ := own_slice0 HO8.out
                obtain ⟨c0, c1, d0, d1, z0⟩ := HS8.out.two 0 w.heap.size rfl
                obtain ⟨p0', p1, q0, q1, y0⟩ := HS8.out.two 1 (w.heap.size + 1) rfl
                obtain ⟨s0, s1, t0, t1, u0⟩ := HS8.out.two 2 (w.heap.size + 1 + 1) rfl
                obtain ⟨r0, r1, x0, x1, v0⟩ := HS8.out.two 3 ym.heap.size rfl
                have hlt9 : w.heap.size + 1 + 1 < ym.heap.size := HLT.out
                go_wp2_with fail
                go_region
                all_goals go_wp2_with fail
                all_goals
                  refine bodyPost_ret (by simp [results, Try.results15, go_sem, p0', p1, q0, q1, y0, s0, s1, t0, t1, u0]; try rfl) rfl ?_
                  rw [HE0.out, HNL.out, HNH.out]
                  refine ⟨A2, _, cp2, _, rfl, ?_, isT_of_own (B := ym.heap.size + 1) ?_ (by simp; try omega), HIS.out, by simp, fun p hp => .inr (own_low HO8.out hp (by have := HLT.out; omega))⟩
                  rotate_left
                  · repeat (first | exact HO8.out | refine own_drew ?_ | (refine own_away ?_ ?_ _; rotate_left; (· dsimp only; omega)))
                  have hb := HS8.out.below
                  go_grown
            · skip
              have HLO := Lib.hid hl9
              have HHI := Lib.hid hh9
              clear hl9 hh9
              go_wp2_with fail
              have HS9 : Hid (St w (ym.alloc (.cells #[.int .i64 (c.floor), .int .i64 (c.floor)] 39)) [(w.heap.size, 32, #[.float .f64 c.rate, Value.slice (some ⟨b0, off, none⟩) (k' + 1) cap]), (w.heap.size + 1, 32, #[.float .f64 0, .slice none 0 0]), (w.heap.size + 1 + 1, 39, #[.int .i64 0, .int .i64 0]), (ym.heap.size, 39, #[.int .i64 lo, .int .i64 hi])]) := Lib.hid (by rw [HHI.out, HLO.out]; exact (HQ.out.alloc ym.heap.size rfl 39 #[.int .i64 (c.floor), .int .i64 (c.floor)]).few (by simp [hk']))
              have hdm : ∀ r ∈ ([(w.heap.size + 1, 32, #[.float .f64 0, .slice none 0 0]), (w.heap.size + 1 + 1, 39, #[.int .i64 0, .int .i64 0]), (ym.heap.size, 39, #[.int .i64 lo, .int .i64 hi])] : List Row), r.1 ≠ w.heap.size := by intro r hr; simp at hr; rcases hr with rfl | rfl | rfl <;> (show _ ≠ _; simp <;> omega)
              have HDM := Lib.hid hdm
              have HLT := Lib.hid (show w.heap.size + 1 + 1 < ym.heap.size from by have := (HQ.out.knows.at 2 rfl).lt; omega)
              refine Iv.region (fun f aa yw => ∃ v110 v111 v112 v113 v114 v115 v116 v117 v118 v119 v120 v121 v122 v123 v124 v125 v126 p0 v1 p8 v2, aa = ⟨#[Value.agg #[Value.float FloatKind.f64 c.rate, Value.slice (some { block := b0, off := off }) (k' + 1) cap], Value.int IntKind.i64 h, Value.pointer (some { block := w.heap.size, off := 0 }), undef, Value.pointer (some { block := w.heap.size + 1, off := 0 }), Value.pointer (some { block := w.heap.size + 1 + 1, off := 0 }), Value.int IntKind.i64 0, Value.pointer (some { block := w.heap.size + 1 + 1 + 1, off := 0 }), Value.int IntKind.i64 (j : Int), Value.int IntKind.i64 c.floor, Value.int IntKind.i64 ((k' : Int) + 1), Value.pointer (some { block := wr.heap.size, off := 0 }), Value.int IntKind.i64 (h - c.r), Value.int IntKind.i64 mm, Value.int IntKind.i64 0, Value.pointer (some { block := ym.heap.size, off := 0 }), Value.agg #[Value.int IntKind.i64 0, Value.int IntKind.i64 0], Value.int IntKind.i64 h, Value.bool true, Value.bool false, undef, undef, Value.int IntKind.i64 ((k' : Int) + 1), Value.pointer (some { block := w.heap.size, off := 1 }), Value.slice (some { block := b0, off := off }) (k' + 1) cap, Value.int IntKind.i64 ((k' : Int) + 1), Value.bool false, u27, u28, u29, u30, u31, u32, u33, u34, u35, u36, u37, u38, u39, u40, u41, u42, u43, u44, u45, u46, u47, u48, u49, Value.int IntKind.i64 (j : Int), Value.bool (decide ((j : Int) < 0)), undef, undef, Value.pointer (some { block := w.heap.size, off := 1 }), Value.slice (some { block := b0, off := off }) (k' + 1) cap, Value.pointer (some { block := w.heap.size, off := 1 }), Value.slice (some { block := b0, off := off }) (k' + 1) cap, Value.int IntKind.i64 ((k' : Int) + 1), Value.int IntKind.i64 (k' : Int), Value.pointer (some { block := b0, off := off + k' * 5 }), Value.pointer (some { block := b0, off := off + k' * 5 }), Value.int IntKind.i64 c.last, Value.int IntKind.i64 h, Value.bool (decide (h < c.last)), undef, undef, Value.pointer (some { block := w.heap.size, off := 1 }), Value.slice (some { block := b0, off := off }) (k' + 1) cap, Value.int IntKind.i64 (j : Int), Value.pointer (some { block := b0, off := off + j * 5 }), Value.agg #[Value.int IntKind.i64 c.r, Value.bool vs, Value.int IntKind.i64 c.t, Value.int IntKind.i64 c.e, Value.int IntKind.i64 vf], Value.int IntKind.i64 h, Value.pointer (some { block := wr.heap.size, off := 0 }), Value.int IntKind.i64 c.r, Value.int IntKind.i64 (h - c.r), Value.int IntKind.i64 (h - c.r), Value.pointer (some { block := wr.heap.size, off := 2 }), Value.int IntKind.i64 c.t, Value.int IntKind.i64 (1125899906842624 - c.t), Value.bool false, undef, undef, Value.tuple #[Value.int IntKind.i64 mm, Value.int IntKind.i64 0], Value.int IntKind.i64 (h - c.r), Value.pointer (some { block := w.heap.size, off := 0 }), Value.float FloatKind.f64 c.rate, Value.tuple #[Value.int IntKind.i64 mm, Value.int IntKind.i64 0], Value.int IntKind.i64 mm, Value.int IntKind.i64 0, Value.pointer (some { block := wr.heap.size, off := 2 }), Value.int IntKind.i64 c.t, Value.int IntKind.i64 (h - c.r), Value.int IntKind.i64 (c.t + (h - c.r)), Value.pointer (some { block := wr.heap.size, off := 3 }), Value.int IntKind.i64 c.e, Value.int IntKind.i64 (c.t + (h - c.r) - c.e), Value.int IntKind.i64 mm, Value.int IntKind.i64 (c.t + (h - c.r) - c.e - mm), Value.pointer (some { block := wr.heap.size, off := 2 }), Value.int IntKind.i64 c.t, Value.int IntKind.i64 (h - c.r), Value.int IntKind.i64 (c.t + (h - c.r)), Value.pointer (some { block := wr.heap.size, off := 3 }), Value.int IntKind.i64 c.e, Value.int IntKind.i64 (c.t + (h - c.r) + c.e), Value.int IntKind.i64 mm, Value.int IntKind.i64 (c.t + (h - c.r) + c.e + mm), Value.agg #[Value.int IntKind.i64 (c.t + (h - c.r) - c.e - mm), Value.int IntKind.i64 (c.t + (h - c.r) + c.e + mm)], Value.pointer (some { block := ym.heap.size, off := 0 }), v110, v111, v112, v113, v114, v115, v116, v117, v118, v119, v120, v121, v122, v123, v124, v125, v126, sl (f 0) (.slice (some ⟨p0, 0, none⟩) 0 0), sl (f 1) (.pointer (some ⟨w.heap.size, 1, none⟩)), sl (f 2) (Value.slice (some ⟨b0, off, none⟩) (k' + 1) cap), sl (f 3) (v1), sl (f 4) (.int .i64 h), sl (f 5) (.pointer (some ⟨ym.heap.size, 0, none⟩)), sl (f 6) (.int .i64 lo), sl (f 7) (.agg #[.int .i64 h, .bool false, .int .i64 0, .int .i64 0, .int .i64 lo]), sl (f 8) (.slice (some ⟨p8, 0, none⟩) 1 1), sl (f 9) (v2), sl (f 10) (.pointer (some ⟨w.heap.size, 1, none⟩)), undef, undef], []⟩ ∧ Ap w yw [(w.heap.size, 32, #[.float .f64 c.rate, if f 11 = true then v2 else Value.slice (some ⟨b0, off, none⟩) (k' + 1) cap]), (w.heap.size + 1, 32, #[.float .f64 0, .slice none 0 0]), (w.heap.size + 1 + 1, 39, #[.int .i64 0, .int .i64 0]), (ym.heap.size, 39, #[.int .i64 lo, .int .i64 hi])] (ym.heap.size + 1) p0 p8 (k' + 1) v1 v2 l h lo (f 0) (f 3) (f 8) (f 9) ∧ (f 11 = true → f 2 = true) ∧ (f 11 = true → f 3 = true ∧ f 9 = true)) (by kernel_rfl) (by kernel_rfl) ?_ ?_ ?_
              · exact ⟨_, _, _, _, _, _, _, _, _, _, _, _, _, _, _, _, _, 0, undef, 0, undef, rfl, Ap.start (HS9.out.drewN 1) (by simp) _ _ _ _ _ _ _ _, (fun h => by cases h), fun h => by cases h⟩
              · refine ⟨?_, ?_, ?_, ?_, ?_, ?_, ?_, ?_, ?_, ?_, ?_, ?_, trivial⟩
                · rintro f a0 yw Q' ⟨v110, v111, v112, v113, v114, v115, v116, v117, v118, v119, v120, v121, v122, v123, v124, v125, v126, p0, v1, p8, v2, rfl, hw⟩ hi hd hQ
                  replace hQ := Lib.hid hQ
                  simp [Iv.depsB, Region.binds] at hd
                  try simp only [hi, hd, sl_true, sl_false]
                  try simp only [hi, sl_true, sl_false]
                  have hw2 := hw
                  rw [hi] at hw2
                  go_wp2_with fail
                  refine hQ.out _ _ ⟨v110, v111, v112, v113, v114, v115, v116, v117, v118, v119, v120, v121, v122, v123, v124, v125, v126, yw.heap.size, v1, p8, v2, ?_, ?_⟩
                  · simp [Iv.upd, hi, hd, sl_true, sl_false]
                  · simpa [Iv.upd] using (show _ ∧ _ from ⟨hw2.1.made, hw2.2⟩)
                · rintro f a0 yw Q' ⟨v110, v111, v112, v113, v114, v115, v116, v117, v118, v119, v120, v121, v122, v123, v124, v125, v126, p0, v1, p8, v2, rfl, hw⟩ hi hd hQ
                  replace hQ := Lib.hid hQ
                  simp [Iv.depsB, Region.binds] at hd
                  try simp only [hi, hd, sl_true, sl_false]
                  try simp only [hi, sl_true, sl_false]
                  go_wp2_with fail
                  refine hQ.out _ _ ⟨v110, v111, v112, v113, v114, v115, v116, v117, v118, v119, v120, v121, v122, v123, v124, v125, v126, p0, v1, p8, v2, ?_, ?_⟩
                  · simp [Iv.upd, hi, hd, sl_true, sl_false]
                  · simpa [Iv.upd, hi, hd] using hw
                · rintro f a0 yw Q' ⟨v110, v111, v112, v113, v114, v115, v116, v117, v118, v119, v120, v121, v122, v123, v124, v125, v126, p0, v1, p8, v2, rfl, hw⟩ hi hd hQ
                  replace hQ := Lib.hid hQ
                  simp [Iv.depsB, Region.binds] at hd
                  try simp only [hi, hd, sl_true, sl_false]
                  try simp only [hi, sl_true, sl_false]
                  have hwk : Whole yw w.heap.size 32 #[.float .f64 c.rate, Value.slice (some ⟨b0, off, none⟩) (k' + 1) cap] := by
                    have e11 : f 11 = false := by
                      cases h11 : f 11 with
                      | false => rfl
                      | true => have := hw.2.1 h11; rw [hi] at this; cases this
                    have := hw.1.st.knows.at 0 rfl
                    simpa [e11] using this
                  obtain ⟨c0, c1, d0, d1, z0⟩ := (show Knows _ [_] from fun r hr => by rw [List.mem_singleton.1 hr]; exact hwk).two 0 w.heap.size rfl
                  clear hwk
                  go_wp2_with fail
                  refine hQ.out _ _ ⟨v110, v111, v112, v113, v114, v115, v116, v117, v118, v119, v120, v121, v122, v123, v124, v125, v126, p0, v1, p8, v2, ?_, ?_⟩
                  · simp [Iv.upd, hi, hd, sl_true, sl_false]
                  · simpa [Iv.upd, hi, hd] using (show _ ∧ _ from ⟨hw.1, hw.2.2⟩)
                · rintro f a0 yw Q' ⟨v110, v111, v112, v113, v114, v115, v116, v117, v118, v119, v120, v121, v122, v123, v124, v125, v126, p0, v1, p8, v2, rfl, hw⟩ hi hd hQ
                  replace hQ := Lib.hid hQ
                  simp [Iv.depsB, Region.binds] at hd
                  try simp only [hi, hd, sl_true, sl_false]
                  try simp only [hi, sl_true, sl_false]
                  have ea : f 0 = true := by simp [hd]
                  have hw2 := hw
                  rw [hi, ea] at hw2
                  have HW2 := Lib.hid hw2
                  clear hw2
                  go_wp2_with (at_builtin; refine wpList_appG rfl (.tmp 127) (.tmp 129) _ 77 _ 5 40 rfl info_taken Try.underlying30 rfl (by decide) (ym.heap.size + 1) _ 0 [] rfl (HW2.out.1.own0 rfl rfl) w.heap.size _ _ cap (flat encT l) rfl (HT2.out.sees.below HW2.out.1.st.below) HT2.out.nil (encT_one l) (by omega) (by omega) HW2.out.1.low.2.1 ?_)
                  intro vn yn ho hg
                  try rw [Nat.zero_add] at ho
                  try rw [List.nil_append] at ho
                  refine hQ.out _ _ ⟨v110, v111, v112, v113, v114, v115, v116, v117, v118, v119, v120, v121, v122, v123, v124, v125, v126, p0, vn, p8, v2, ?_, ?_⟩
                  · simp [Iv.upd, hi, hd, sl_true, sl_false]
                  · have hz := HW2.out.2
                    refine ⟨by simpa [Iv.upd, ea] using HW2.out.1.app1 ho hg, by simpa [Iv.upd] using hz.1, fun h11 => ?_⟩
                    have := (hz.2 (by simpa [Iv.upd] using h11)).1
                    cases this
                · rintro f a0 yw Q' ⟨v110, v111, v112, v113, v114, v115, v116, v117, v118, v119, v120, v121, v122, v123, v124, v125, v126, p0, v1, p8, v2, rfl, hw⟩ hi hd hQ
                  replace hQ := Lib.hid hQ
                  simp [Iv.depsB, Region.binds] at hd
                  try simp only [hi, hd, sl_true, sl_false]
                  try simp only [hi, sl_true, sl_false]
                  go_wp2_with fail
                  refine hQ.out _ _ ⟨v110, v111, v112, v113, v114, v115, v116, v117, v118, v119, v120, v121, v122, v123, v124, v125, v126, p0, v1, p8, v2, ?_, ?_⟩
                  · simp [Iv.upd, hi, hd, sl_true, sl_false]
                  · simpa [Iv.upd, hi, hd] using hw
                · rintro f a0 yw Q' ⟨v110, v111, v112, v113, v114, v115, v116, v117, v118, v119, v120, v121, v122, v123, v124, v125, v126, p0, v1, p8, v2, rfl, hw⟩ hi hd hQ
                  replace hQ := Lib.hid hQ
                  simp [Iv.depsB, Region.binds] at hd
                  try simp only [hi, hd, sl_true, sl_false]
                  try simp only [hi, sl_true, sl_false]
                  go_wp2_with fail
                  refine hQ.out _ _ ⟨v110, v111, v112, v113, v114, v115, v116, v117, v118, v119, v120, v121, v122, v123, v124, v125, v126, p0, v1, p8, v2, ?_, ?_⟩
                  · simp [Iv.upd, hi, hd, sl_true, sl_false]
                  · simpa [Iv.upd, hi, hd] using hw
                · rintro f a0 yw Q' ⟨v110, v111, v112, v113, v114, v115, v116, v117, v118, v119, v120, v121, v122, v123, v124, v125, v126, p0, v1, p8, v2, rfl, hw⟩ hi hd hQ
                  replace hQ := Lib.hid hQ
                  simp [Iv.depsB, Region.binds] at hd
                  try simp only [hi, hd, sl_true, sl_false]
                  try simp only [hi, sl_true, sl_false]
                  obtain ⟨c0, c1, d0, d1, z0⟩ := hw.1.st.two 3 ym.heap.size rfl
                  go_wp2_with fail
                  refine hQ.out _ _ ⟨v110, v111, v112, v113, v114, v115, v116, v117, v118, v119, v120, v121, v122, v123, v124, v125, v126, p0, v1, p8, v2, ?_, ?_⟩
                  · simp [Iv.upd, hi, hd, sl_true, sl_false]
                  · simpa [Iv.upd, hi, hd] using hw
                · rintro f a0 yw Q' ⟨v110, v111, v112, v113, v114, v115, v116, v117, v118, v119, v120, v121, v122, v123, v124, v125, v126, p0, v1, p8, v2, rfl, hw⟩ hi hd hQ
                  replace hQ := Lib.hid hQ
                  simp [Iv.depsB, Region.binds] at hd
                  try simp only [hi, hd, sl_true, sl_false]
                  try simp only [hi, sl_true, sl_false]
                  go_wp2_with fail
                  refine hQ.out _ _ ⟨v110, v111, v112, v113, v114, v115, v116, v117, v118, v119, v120, v121, v122, v123, v124, v125, v126, p0, v1, p8, v2, ?_, ?_⟩
                  · simp [Iv.upd, hi, hd, sl_true, sl_false]
                  · simpa [Iv.upd, hi, hd] using hw
                · rintro f a0 yw Q' ⟨v110, v111, v112, v113, v114, v115, v116, v117, v118, v119, v120, v121, v122, v123, v124, v125, v126, p0, v1, p8, v2, rfl, hw⟩ hi hd hQ
                  replace hQ := Lib.hid hQ
                  simp [Iv.depsB, Region.binds] at hd
                  try simp only [hi, hd, sl_true, sl_false]
                  try simp only [hi, sl_true, sl_false]
                  have hw2 := hw
                  rw [hi] at hw2
                  have HW2 := Lib.hid hw2
                  clear hw2
                  go_wp2_with fail
                  refine hQ.out _ _ ⟨v110, v111, v112, v113, v114, v115, v116, v117, v118, v119, v120, v121, v122, v123, v124, v125, v126, p0, v1, yw.heap.size, v2, ?_, ?_⟩
                  · simp [Iv.upd, hi, hd, sl_true, sl_false]
                  · simpa [Iv.upd] using (show _ ∧ _ from ⟨HW2.out.1.item8, HW2.out.2⟩)
                · rintro f a0 yw Q' ⟨v110, v111, v112, v113, v114, v115, v116, v117, v118, v119, v120, v121, v122, v123, v124, v125, v126, p0, v1, p8, v2, rfl, hw⟩ hi hd hQ
                  replace hQ := Lib.hid hQ
                  simp [Iv.depsB, Region.binds] at hd
                  try simp only [hi, hd, sl_true, sl_false]
                  try simp only [hi, sl_true, sl_false]
                  have ea : f 3 = true := by simp [hd]
                  have eb : f 8 = true := by simp [hd]
                  have hw2 := hw
                  rw [hi, ea, eb] at hw2
                  have HW2 := Lib.hid hw2
                  clear hw2
                  go_wp2_with (at_builtin; refine wpList_appG rfl (.tmp 130) (.tmp 135) _ 77 _ 5 40 rfl info_taken Try.underlying30 rfl (by decide) (ym.heap.size + 1) _ _ (flat encT l) rfl (HW2.out.1.own1 rfl rfl) (p8 + 1) (some ⟨p8, 0, none⟩) 1 1 (encT ⟨h, false, 0, 0, lo⟩) rfl HW2.out.1.sees (fun h => by cases h) (by intro u hu; exact encT_one [⟨h, false, 0, 0, lo⟩] u (by rw [flat_one]; exact hu)) (by omega) (by omega) HW2.out.1.low.2.1 ?_)
                  intro vn yn ho hg
                  rw [← flat_one (enc := encT), ← flat_append] at ho
                  refine hQ.out _ _ ⟨v110, v111, v112, v113, v114, v115, v116, v117, v118, v119, v120, v121, v122, v123, v124, v125, v126, p0, v1, p8, vn, ?_, ?_⟩
                  · simp [Iv.upd, hi, hd, sl_true, sl_false]
                  · have hz := HW2.out.2
                    have e11 : f 11 = false := by
                      cases h11 : f 11 with
                      | false => rfl
                      | true => have := (hz.2 h11).2; cases this
                    have hk := HW2.out.1.app2 ho hg
                    rw [e11] at hk
                    refine ⟨by simpa [Iv.upd, ea, eb, e11] using hk, by simp [Iv.upd, e11], by simp [Iv.upd, e11]⟩
                · rintro f a0 yw Q' ⟨v110, v111, v112, v113, v114, v115, v116, v117, v118, v119, v120, v121, v122, v123, v124, v125, v126, p0, v1, p8, v2, rfl, hw⟩ hi hd hQ
                  replace hQ := Lib.hid hQ
                  simp [Iv.depsB, Region.binds] at hd
                  try simp only [hi, hd, sl_true, sl_false]
                  try simp only [hi, sl_true, sl_false]
                  go_wp2_with fail
                  refine hQ.out _ _ ⟨v110, v111, v112, v113, v114, v115, v116, v117, v118, v119, v120, v121, v122, v123, v124, v125, v126, p0, v1, p8, v2, ?_, ?_⟩
                  · simp [Iv.upd, hi, hd, sl_true, sl_false]
                  · simpa [Iv.upd, hi, hd] using hw
                · rintro f a0 yw Q' ⟨v110, v111, v112, v113, v114, v115, v116, v117, v118, v119, v120, v121, v122, v123, v124, v125, v126, p0, v1, p8, v2, rfl, hw⟩ hi hd hQ
                  replace hQ := Lib.hid hQ
                  simp [Iv.depsB, Region.binds] at hd
                  try simp only [hi, hd, sl_true, sl_false]
                  try simp only [hi, sl_true, sl_false]
                  have ea : f 3 = true := by simp [hd]
                  have eb : f 9 = true := by simp [hd]
                  have hw2 := hw.1
                  rw [hi, ea, eb] at hw2
                  have hwk : Whole yw w.heap.size 32 #[.float .f64 c.rate, Value.slice (some ⟨b0, off, none⟩) (k' + 1) cap] := hw2.st.knows.at 0 rfl
                  obtain ⟨c0, c1, d0, d1, z0⟩ := (show Knows _ [_] from fun r hr => by rw [List.mem_singleton.1 hr]; exact hwk).two 0 w.heap.size rfl
                  clear hwk
                  obtain ⟨A9, c9, rfl, -, -, -⟩ := own_slice0 (hw2.own2 rfl)
                  have HK := Lib.hid (hw2.stored (i := 1) (u := .slice A9 (k' + 1 + 1) c9) (Nat.le_refl _) HDM.out)
                  clear hw2
                  go_wp2_with fail
                  refine hQ.out _ _ ⟨v110, v111, v112, v113, v114, v115, v116, v117, v118, v119, v120, v121, v122, v123, v124, v125, v126, p0, v1, p8, .slice A9 (k' + 1 + 1) c9, ?_, ?_⟩
                  · simp [Iv.upd, hi, hd, sl_true, sl_false]
                  · have hk := HK.out
                    refine ⟨by simpa [Iv.upd, ea, eb] using hk, by simp [Iv.upd, hd], by simp [Iv.upd, hd]⟩
              · rintro f a0 wz ⟨v110, v111, v112, v113, v114, v115, v116, v117, v118, v119, v120, v121, v122, v123, v124, v125, v126, p0, v1, p8, v2, rfl, hw⟩ hall
                simp only [hall 0 (by decide), hall 1 (by decide), hall 2 (by decide), hall 3 (by decide), hall 4 (by decide), hall 5 (by decide), hall 6 (by decide), hall 7 (by decide), hall 8 (by decide), hall 9 (by decide), hall 10 (by decide), hall 11 (by decide), sl_true, ↓reduceIte] at hw ⊢
                clear hall
                have HS8 := Lib.hid hw.1.st
                have HO8 := Lib.hid (hw.1.own2 rfl)
                clear hw
                obtain ⟨A2, cp2, rfl, -, -, -⟩ := own_slice0 HO8.out
                obtain ⟨c0, c1, d0, d1, z0⟩ := HS8.out.two 0 w.heap.size rfl
                obtain ⟨p0', p1, q0, q1, y0⟩ := HS8.out.two 1 (w.heap.size + 1) rfl
                obtain ⟨s0, s1, t0, t1, u0⟩ := HS8.out.two 2 (w.heap.size + 1 + 1) rfl
                obtain ⟨r0, r1, x0, x1, v0⟩ := HS8.out.two 3 ym.heap.size rfl
                have hlt9 : w.heap.size + 1 + 1 < ym.heap.size := HLT.out
                go_wp2_with fail
                go_region
                all_goals go_wp2_with fail
                all_goals
                  refine bodyPost_ret (by simp [results, Try.results15, go_sem, p0', p1, q0, q1, y0, s0, s1, t0, t1, u0]; try rfl) rfl ?_
                  rw [HE0.out, HNL.out, HNH.out]
                  refine ⟨A2, _, cp2, _, rfl, ?_, isT_of_own (B := ym.heap.size + 1) ?_ (by simp; try omega), HIS.out, by simp, fun p hp => .inr (own_low HO8.out hp (by have := HLT.out; omega))⟩
                  rotate_left
                  · repeat (first | exact HO8.out | refine own_drew ?_ | (refine own_away ?_ ?_ _; rotate_left; (· dsimp only; omega)))
                  have hb := HS8.out.below
                  go_grown
            · skip
              have HLO := Lib.hid hl9
              have HHI := Lib.hid hh9
              clear hl9 hh9
              go_wp2_with fail
              have HS9 : Hid (St w (ym.alloc (.cells #[.int .i64 (c.floor), .int .i64 (c.t + (h - c.r) + c.e + mm)] 39)) [(w.heap.size, 32, #[.float .f64 c.rate, Value.slice (some ⟨b0, off, none⟩) (k' + 1) cap]), (w.heap.size + 1, 32, #[.float .f64 0, .slice none 0 0]), (w.heap.size + 1 + 1, 39, #[.int .i64 0, .int .i64 0]), (ym.heap.size, 39, #[.int .i64 lo, .int .i64 hi])]) := Lib.hid (by rw [HHI.out, HLO.out]; exact (HQ.out.alloc ym.heap.size rfl 39 #[.int .i64 (c.floor), .int .i64 (c.t + (h - c.r) + c.e + mm)]).few (by simp [hk']))
              have hdm : ∀ r ∈ ([(w.heap.size + 1, 32, #[.float .f64 0, .slice none 0 0]), (w.heap.size + 1 + 1, 39, #[.int .i64 0, .int .i64 0]), (ym.heap.size, 39, #[.int .i64 lo, .int .i64 hi])] : List Row), r.1 ≠ w.heap.size := by intro r hr; simp at hr; rcases hr with rfl | rfl | rfl <;> (show _ ≠ _; simp <;> omega)
              have HDM := Lib.hid hdm
              have HLT := Lib.hid (show w.heap.size + 1 + 1 < ym.heap.size from by have := (HQ.out.knows.at 2 rfl).lt; omega)
              refine Iv.region (fun f aa yw => ∃ v110 v111 v112 v113 v114 v115 v116 v117 v118 v119 v120 v121 v122 v123 v124 v125 v126 p0 v1 p8 v2, aa = ⟨#[Value.agg #[Value.float FloatKind.f64 c.rate, Value.slice (some { block := b0, off := off }) (k' + 1) cap], Value.int IntKind.i64 h, Value.pointer (some { block := w.heap.size, off := 0 }), undef, Value.pointer (some { block := w.heap.size + 1, off := 0 }), Value.pointer (some { block := w.heap.size + 1 + 1, off := 0 }), Value.int IntKind.i64 0, Value.pointer (some { block := w.heap.size + 1 + 1 + 1, off := 0 }), Value.int IntKind.i64 (j : Int), Value.int IntKind.i64 c.floor, Value.int IntKind.i64 ((k' : Int) + 1), Value.pointer (some { block := wr.heap.size, off := 0 }), Value.int IntKind.i64 (h - c.r), Value.int IntKind.i64 mm, Value.int IntKind.i64 0, Value.pointer (some { block := ym.heap.size, off := 0 }), Value.agg #[Value.int IntKind.i64 0, Value.int IntKind.i64 0], Value.int IntKind.i64 h, Value.bool true, Value.bool false, undef, undef, Value.int IntKind.i64 ((k' : Int) + 1), Value.pointer (some { block := w.heap.size, off := 1 }), Value.slice (some { block := b0, off := off }) (k' + 1) cap, Value.int IntKind.i64 ((k' : Int) + 1), Value.bool false, u27, u28, u29, u30, u31, u32, u33, u34, u35, u36, u37, u38, u39, u40, u41, u42, u43, u44, u45, u46, u47, u48, u49, Value.int IntKind.i64 (j : Int), Value.bool (decide ((j : Int) < 0)), undef, undef, Value.pointer (some { block := w.heap.size, off := 1 }), Value.slice (some { block := b0, off := off }) (k' + 1) cap, Value.pointer (some { block := w.heap.size, off := 1 }), Value.slice (some { block := b0, off := off }) (k' + 1) cap, Value.int IntKind.i64 ((k' : Int) + 1), Value.int IntKind.i64 (k' : Int), Value.pointer (some { block := b0, off := off + k' * 5 }), Value.pointer (some { block := b0, off := off + k' * 5 }), Value.int IntKind.i64 c.last, Value.int IntKind.i64 h, Value.bool (decide (h < c.last)), undef, undef, Value.pointer (some { block := w.heap.size, off := 1 }), Value.slice (some { block := b0, off := off }) (k' + 1) cap, Value.int IntKind.i64 (j : Int), Value.pointer (some { block := b0, off := off + j * 5 }), Value.agg #[Value.int IntKind.i64 c.r, Value.bool vs, Value.int IntKind.i64 c.t, Value.int IntKind.i64 c.e, Value.int IntKind.i64 vf], Value.int IntKind.i64 h, Value.pointer (some { block := wr.heap.size, off := 0 }), Value.int IntKind.i64 c.r, Value.int IntKind.i64 (h - c.r), Value.int IntKind.i64 (h - c.r), Value.pointer (some { block := wr.heap.size, off := 2 }), Value.int IntKind.i64 c.t, Value.int IntKind.i64 (1125899906842624 - c.t), Value.bool false, undef, undef, Value.tuple #[Value.int IntKind.i64 mm, Value.int IntKind.i64 0], Value.int IntKind.i64 (h - c.r), Value.pointer (some { block := w.heap.size, off := 0 }), Value.float FloatKind.f64 c.rate, Value.tuple #[Value.int IntKind.i64 mm, Value.int IntKind.i64 0], Value.int IntKind.i64 mm, Value.int IntKind.i64 0, Value.pointer (some { block := wr.heap.size, off := 2 }), Value.int IntKind.i64 c.t, Value.int IntKind.i64 (h - c.r), Value.int IntKind.i64 (c.t + (h - c.r)), Value.pointer (some { block := wr.heap.size, off := 3 }), Value.int IntKind.i64 c.e, Value.int IntKind.i64 (c.t + (h - c.r) - c.e), Value.int IntKind.i64 mm, Value.int IntKind.i64 (c.t + (h - c.r) - c.e - mm), Value.pointer (some { block := wr.heap.size, off := 2 }), Value.int IntKind.i64 c.t, Value.int IntKind.i64 (h - c.r), Value.int IntKind.i64 (c.t + (h - c.r)), Value.pointer (some { block := wr.heap.size, off := 3 }), Value.int IntKind.i64 c.e, Value.int IntKind.i64 (c.t + (h - c.r) + c.e), Value.int IntKind.i64 mm, Value.int IntKind.i64 (c.t + (h - c.r) + c.e + mm), Value.agg #[Value.int IntKind.i64 (c.t + (h - c.r) - c.e - mm), Value.int IntKind.i64 (c.t + (h - c.r) + c.e + mm)], Value.pointer (some { block := ym.heap.size, off := 0 }), v110, v111, v112, v113, v114, v115, v116, v117, v118, v119, v120, v121, v122, v123, v124, v125, v126, sl (f 0) (.slice (some ⟨p0, 0, none⟩) 0 0), sl (f 1) (.pointer (some ⟨w.heap.size, 1, none⟩)), sl (f 2) (Value.slice (some ⟨b0, off, none⟩) (k' + 1) cap), sl (f 3) (v1), sl (f 4) (.int .i64 h), sl (f 5) (.pointer (some ⟨ym.heap.size, 0, none⟩)), sl (f 6) (.int .i64 lo), sl (f 7) (.agg #[.int .i64 h, .bool false, .int .i64 0, .int .i64 0, .int .i64 lo]), sl (f 8) (.slice (some ⟨p8, 0, none⟩) 1 1), sl (f 9) (v2), sl (f 10) (.pointer (some ⟨w.heap.size, 1, none⟩)), undef, undef], []⟩ ∧ Ap w yw [(w.heap.size, 32, #[.float .f64 c.rate, if f 11 = true then v2 else Value.slice (some ⟨b0, off, none⟩) (k' + 1) cap]), (w.heap.size + 1, 32, #[.float .f64 0, .slice none 0 0]), (w.heap.size + 1 + 1, 39, #[.int .i64 0, .int .i64 0]), (ym.heap.size, 39, #[.int .i64 lo, .int .i64 hi])] (ym.heap.size + 1) p0 p8 (k' + 1) v1 v2 l h lo (f 0) (f 3) (f 8) (f 9) ∧ (f 11 = true → f 2 = true) ∧ (f 11 = true → f 3 = true ∧ f 9 = true)) (by kernel_rfl) (by kernel_rfl) ?_ ?_ ?_
              · exact ⟨_, _, _, _, _, _, _, _, _, _, _, _, _, _, _, _, _, 0, undef, 0, undef, rfl, Ap.start (HS9.out.drewN 1) (by simp) _ _ _ _ _ _ _ _, (fun h => by cases h), fun h => by cases h⟩
              · refine ⟨?_, ?_, ?_, ?_, ?_, ?_, ?_, ?_, ?_, ?_, ?_, ?_, trivial⟩
                · rintro f a0 yw Q' ⟨v110, v111, v112, v113, v114, v115, v116, v117, v118, v119, v120, v121, v122, v123, v124, v125, v126, p0, v1, p8, v2, rfl, hw⟩ hi hd hQ
                  replace hQ := Lib.hid hQ
                  simp [Iv.depsB, Region.binds] at hd
                  try simp only [hi, hd, sl_true, sl_false]
                  try simp only [hi, sl_true, sl_false]
                  have hw2 := hw
                  rw [hi] at hw2
                  go_wp2_with fail
                  refine hQ.out _ _ ⟨v110, v111, v112, v113, v114, v115, v116, v117, v118, v119, v120, v121, v122, v123, v124, v125, v126, yw.heap.size, v1, p8, v2, ?_, ?_⟩
                  · simp [Iv.upd, hi, hd, sl_true, sl_false]
                  · simpa [Iv.upd] using (show _ ∧ _ from ⟨hw2.1.made, hw2.2⟩)
                · rintro f a0 yw Q' ⟨v110, v111, v112, v113, v114, v115, v116, v117, v118, v119, v120, v121, v122, v123, v124, v125, v126, p0, v1, p8, v2, rfl, hw⟩ hi hd hQ
                  replace hQ := Lib.hid hQ
                  simp [Iv.depsB, Region.binds] at hd
                  try simp only [hi, hd, sl_true, sl_false]
                  try simp only [hi, sl_true, sl_false]
                  go_wp2_with fail
                  refine hQ.out _ _ ⟨v110, v111, v112, v113, v114, v115, v116, v117, v118, v119, v120, v121, v122, v123, v124, v125, v126, p0, v1, p8, v2, ?_, ?_⟩
                  · simp [Iv.upd, hi, hd, sl_true, sl_false]
                  · simpa [Iv.upd, hi, hd] using hw
                · rintro f a0 yw Q' ⟨v110, v111, v112, v113, v114, v115, v116, v117, v118, v119, v120, v121, v122, v123, v124, v125, v126, p0, v1, p8, v2, rfl, hw⟩ hi hd hQ
                  replace hQ := Lib.hid hQ
                  simp [Iv.depsB, Region.binds] at hd
                  try simp only [hi, hd, sl_true, sl_false]
                  try simp only [hi, sl_true, sl_false]
                  have hwk : Whole yw w.heap.size 32 #[.float .f64 c.rate, Value.slice (some ⟨b0, off, none⟩) (k' + 1) cap] := by
                    have e11 : f 11 = false := by
                      cases h11 : f 11 with
                      | false => rfl
                      | true => have := hw.2.1 h11; rw [hi] at this; cases this
                    have := hw.1.st.knows.at 0 rfl
                    simpa [e11] using this
                  obtain ⟨c0, c1, d0, d1, z0⟩ := (show Knows _ [_] from fun r hr => by rw [List.mem_singleton.1 hr]; exact hwk).two 0 w.heap.size rfl
                  clear hwk
                  go_wp2_with fail
                  refine hQ.out _ _ ⟨v110, v111, v112, v113, v114, v115, v116, v117, v118, v119, v120, v121, v122, v123, v124, v125, v126, p0, v1, p8, v2, ?_, ?_⟩
                  · simp [Iv.upd, hi, hd, sl_true, sl_false]
                  · simpa [Iv.upd, hi, hd] using (show _ ∧ _ from ⟨hw.1, hw.2.2⟩)
                · rintro f a0 yw Q' ⟨v110, v111, v112, v113, v114, v115, v116, v117, v118, v119, v120, v121, v122, v123, v124, v125, v126, p0, v1, p8, v2, rfl, hw⟩ hi hd hQ
                  replace hQ := Lib.hid hQ
                  simp [Iv.depsB, Region.binds] at hd
                  try simp only [hi, hd, sl_true, sl_false]
                  try simp only [hi, sl_true, sl_false]
                  have ea : f 0 = true := by simp [hd]
                  have hw2 := hw
                  rw [hi, ea] at hw2
                  have HW2 := Lib.hid hw2
                  clear hw2
                  go_wp2_with (at_builtin; refine wpList_appG rfl (.tmp 127) (.tmp 129) _ 77 _ 5 40 rfl info_taken Try.underlying30 rfl (by decide) (ym.heap.size + 1) _ 0 [] rfl (HW2.out.1.own0 rfl rfl) w.heap.size _ _ cap (flat encT l) rfl (HT2.out.sees.below HW2.out.1.st.below) HT2.out.nil (encT_one l) (by omega) (by omega) HW2.out.1.low.2.1 ?_)
                  intro vn yn ho hg
                  try rw [Nat.zero_add] at ho
                  try rw [List.nil_append] at ho
                  refine hQ.out _ _ ⟨v110, v111, v112, v113, v114, v115, v116, v117, v118, v119, v120, v121, v122, v123, v124, v125, v126, p0, vn, p8, v2, ?_, ?_⟩
                  · simp [Iv.upd, hi, hd, sl_true, sl_false]
                  · have hz := HW2.out.2
                    refine ⟨by simpa [Iv.upd, ea] using HW2.out.1.app1 ho hg, by simpa [Iv.upd] using hz.1, fun h11 => ?_⟩
                    have := (hz.2 (by simpa [Iv.upd] using h11)).1
                    cases this
                · rintro f a0 yw Q' ⟨v110, v111, v112, v113, v114, v115, v116, v117, v118, v119, v120, v121, v122, v123, v124, v125, v126, p0, v1, p8, v2, rfl, hw⟩ hi hd hQ
                  replace hQ := Lib.hid hQ
                  simp [Iv.depsB, Region.binds] at hd
                  try simp only [hi, hd, sl_true, sl_false]
                  try simp only [hi, sl_true, sl_false]
                  go_wp2_with fail
                  refine hQ.out _ _ ⟨v110, v111, v112, v113, v114, v115, v116, v117, v118, v119, v120, v121, v122, v123, v124, v125, v126, p0, v1, p8, v2, ?_, ?_⟩
                  · simp [Iv.upd, hi, hd, sl_true, sl_false]
                  · simpa [Iv.upd, hi, hd] using hw
                · rintro f a0 yw Q' ⟨v110, v111, v112, v113, v114, v115, v116, v117, v118, v119, v120, v121, v122, v123, v124, v125, v126, p0, v1, p8, v2, rfl, hw⟩ hi hd hQ
                  replace hQ := Lib.hid hQ
                  simp [Iv.depsB, Region.binds] at hd
                  try simp only [hi, hd, sl_true, sl_false]
                  try simp only [hi, sl_true, sl_false]
                  go_wp2_with fail
                  refine hQ.out _ _ ⟨v110, v111, v112, v113, v114, v115, v116, v117, v118, v119, v120, v121, v122, v123, v124, v125, v126, p0, v1, p8, v2, ?_, ?_⟩
                  · simp [Iv.upd, hi, hd, sl_true, sl_false]
                  · simpa [Iv.upd, hi, hd] using hw
                · rintro f a0 yw Q' ⟨v110, v111, v112, v113, v114, v115, v116, v117, v118, v119, v120, v121, v122, v123, v124, v125, v126, p0, v1, p8, v2, rfl, hw⟩ hi hd hQ
                  replace hQ := Lib.hid hQ
                  simp [Iv.depsB, Region.binds] at hd
                  try simp only [hi, hd, sl_true, sl_false]
                  try simp only [hi, sl_true, sl_false]
                  obtain ⟨c0, c1, d0, d1, z0⟩ := hw.1.st.two 3 ym.heap.size rfl
                  go_wp2_with fail
                  refine hQ.out _ _ ⟨v110, v111, v112, v113, v114, v115, v116, v117, v118, v119, v120, v121, v122, v123, v124, v125, v126, p0, v1, p8, v2, ?_, ?_⟩
                  · simp [Iv.upd, hi, hd, sl_true, sl_false]
                  · simpa [Iv.upd, hi, hd] using hw
                · rintro f a0 yw Q' ⟨v110, v111, v112, v113, v114, v115, v116, v117, v118, v119, v120, v121, v122, v123, v124, v125, v126, p0, v1, p8, v2, rfl, hw⟩ hi hd hQ
                  replace hQ := Lib.hid hQ
                  simp [Iv.depsB, Region.binds] at hd
                  try simp only [hi, hd, sl_true, sl_false]
                  try simp only [hi, sl_true, sl_false]
                  go_wp2_with fail
                  refine hQ.out _ _ ⟨v110, v111, v112, v113, v114, v115, v116, v117, v118, v119, v120, v121, v122, v123, v124, v125, v126, p0, v1, p8, v2, ?_, ?_⟩
                  · simp [Iv.upd, hi, hd, sl_true, sl_false]
                  · simpa [Iv.upd, hi, hd] using hw
                · rintro f a0 yw Q' ⟨v110, v111, v112, v113, v114, v115, v116, v117, v118, v119, v120, v121, v122, v123, v124, v125, v126, p0, v1, p8, v2, rfl, hw⟩ hi hd hQ
                  replace hQ := Lib.hid hQ
                  simp [Iv.depsB, Region.binds] at hd
                  try simp only [hi, hd, sl_true, sl_false]
                  try simp only [hi, sl_true, sl_false]
                  have hw2 := hw
                  rw [hi] at hw2
                  have HW2 := Lib.hid hw2
                  clear hw2
                  go_wp2_with fail
                  refine hQ.out _ _ ⟨v110, v111, v112, v113, v114, v115, v116, v117, v118, v119, v120, v121, v122, v123, v124, v125, v126, p0, v1, yw.heap.size, v2, ?_, ?_⟩
                  · simp [Iv.upd, hi, hd, sl_true, sl_false]
                  · simpa [Iv.upd] using (show _ ∧ _ from ⟨HW2.out.1.item8, HW2.out.2⟩)
                · rintro f a0 yw Q' ⟨v110, v111, v112, v113, v114, v115, v116, v117, v118, v119, v120, v121, v122, v123, v124, v125, v126, p0, v1, p8, v2, rfl, hw⟩ hi hd hQ
                  replace hQ := Lib.hid hQ
                  simp [Iv.depsB, Region.binds] at hd
                  try simp only [hi, hd, sl_true, sl_false]
                  try simp only [hi, sl_true, sl_false]
                  have ea : f 3 = true := by simp [hd]
                  have eb : f 8 = true := by simp [hd]
                  have hw2 := hw
                  rw [hi, ea, eb] at hw2
                  have HW2 := Lib.hid hw2
                  clear hw2
                  go_wp2_with (at_builtin; refine wpList_appG rfl (.tmp 130) (.tmp 135) _ 77 _ 5 40 rfl info_taken Try.underlying30 rfl (by decide) (ym.heap.size + 1) _ _ (flat encT l) rfl (HW2.out.1.own1 rfl rfl) (p8 + 1) (some ⟨p8, 0, none⟩) 1 1 (encT ⟨h, false, 0, 0, lo⟩) rfl HW2.out.1.sees (fun h => by cases h) (by intro u hu; exact encT_one [⟨h, false, 0, 0, lo⟩] u (by rw [flat_one]; exact hu)) (by omega) (by omega) HW2.out.1.low.2.1 ?_)
                  intro vn yn ho hg
                  rw [← flat_one (enc := encT), ← flat_append] at ho
                  refine hQ.out _ _ ⟨v110, v111, v112, v113, v114, v115, v116, v117, v118, v119, v120, v121, v122, v123, v124, v125, v126, p0, v1, p8, vn, ?_, ?_⟩
                  · simp [Iv.upd, hi, hd, sl_true, sl_false]
                  · have hz := HW2.out.2
                    have e11 : f 11 = false := by
                      cases h11 : f 11 with
                      | false => rfl
                      | true => have := (hz.2 h11).2; cases this
                    have hk := HW2.out.1.app2 ho hg
                    rw [e11] at hk
                    refine ⟨by simpa [Iv.upd, ea, eb, e11] using hk, by simp [Iv.upd, e11], by simp [Iv.upd, e11]⟩
                · rintro f a0 yw Q' ⟨v110, v111, v112, v113, v114, v115, v116, v117, v118, v119, v120, v121, v122, v123, v124, v125, v126, p0, v1, p8, v2, rfl, hw⟩ hi hd hQ
                  replace hQ := Lib.hid hQ
                  simp [Iv.depsB, Region.binds] at hd
                  try simp only [hi, hd, sl_true, sl_false]
                  try simp only [hi, sl_true, sl_false]
                  go_wp2_with fail
                  refine hQ.out _ _ ⟨v110, v111, v112, v113, v114, v115, v116, v117, v118, v119, v120, v121, v122, v123, v124, v125, v126, p0, v1, p8, v2, ?_, ?_⟩
                  · simp [Iv.upd, hi, hd, sl_true, sl_false]
                  · simpa [Iv.upd, hi, hd] using hw
                · rintro f a0 yw Q' ⟨v110, v111, v112, v113, v114, v115, v116, v117, v118, v119, v120, v121, v122, v123, v124, v125, v126, p0, v1, p8, v2, rfl, hw⟩ hi hd hQ
                  replace hQ := Lib.hid hQ
                  simp [Iv.depsB, Region.binds] at hd
                  try simp only [hi, hd, sl_true, sl_false]
                  try simp only [hi, sl_true, sl_false]
                  have ea : f 3 = true := by simp [hd]
                  have eb : f 9 = true := by simp [hd]
                  have hw2 := hw.1
                  rw [hi, ea, eb] at hw2
                  have hwk : Whole yw w.heap.size 32 #[.float .f64 c.rate, Value.slice (some ⟨b0, off, none⟩) (k' + 1) cap] := hw2.st.knows.at 0 rfl
                  obtain ⟨c0, c1, d0, d1, z0⟩ := (show Knows _ [_] from fun r hr => by rw [List.mem_singleton.1 hr]; exact hwk).two 0 w.heap.size rfl
                  clear hwk
                  obtain ⟨A9, c9, rfl, -, -, -⟩ := own_slice0 (hw2.own2 rfl)
                  have HK := Lib.hid (hw2.stored (i := 1) (u := .slice A9 (k' + 1 + 1) c9) (Nat.le_refl _) HDM.out)
                  clear hw2
                  go_wp2_with fail
                  refine hQ.out _ _ ⟨v110, v111, v112, v113, v114, v115, v116, v117, v118, v119, v120, v121, v122, v123, v124, v125, v126, p0, v1, p8, .slice A9 (k' + 1 + 1) c9, ?_, ?_⟩
                  · simp [Iv.upd, hi, hd, sl_true, sl_false]
                  · have hk := HK.out
                    refine ⟨by simpa [Iv.upd, ea, eb] using hk, by simp [Iv.upd, hd], by simp [Iv.upd, hd]⟩
              · rintro f a0 wz ⟨v110, v111, v112, v113, v114, v115, v116, v117, v118, v119, v120, v121, v122, v123, v124, v125, v126, p0, v1, p8, v2, rfl, hw⟩ hall
                simp only [hall 0 (by decide), hall 1 (by decide), hall 2 (by decide), hall 3 (by decide), hall 4 (by decide), hall 5 (by decide), hall 6 (by decide), hall 7 (by decide), hall 8 (by decide), hall 9 (by decide), hall 10 (by decide), hall 11 (by decide), sl_true, ↓reduceIte] at hw ⊢
                clear hall
                have HS8 := Lib.hid hw.1.st
                have HO8 := Lib.hid (hw.1.own2 rfl)
                clear hw
                obtain ⟨A2, cp2, rfl, -, -, -⟩ := own_slice0 HO8.out
                obtain ⟨c0, c1, d0, d1, z0⟩ := HS8.out.two 0 w.heap.size rfl
                obtain ⟨p0', p1, q0, q1, y0⟩ := HS8.out.two 1 (w.heap.size + 1) rfl
                obtain ⟨s0, s1, t0, t1, u0⟩ := HS8.out.two 2 (w.heap.size + 1 + 1) rfl
                obtain ⟨r0, r1, x0, x1, v0⟩ := HS8.out.two 3 ym.heap.size rfl
                have hlt9 : w.heap.size + 1 + 1 < ym.heap.size := HLT.out
                go_wp2_with fail
                go_region
                all_goals go_wp2_with fail
                all_goals
                  refine bodyPost_ret (by simp [results, Try.results15, go_sem, p0', p1, q0, q1, y0, s0, s1, t0, t1, u0]; try rfl) rfl ?_
                  rw [HE0.out, HNL.out, HNH.out]
                  refine ⟨A2, _, cp2, _, rfl, ?_, isT_of_own (B := ym.heap.size + 1) ?_ (by simp; try omega), HIS.out, by simp, fun p hp => .inr (own_low HO8.out hp (by have := HLT.out; omega))⟩
                  rotate_left
                  · repeat (first | exact HO8.out | refine own_drew ?_ | (refine own_away ?_ ?_ _; rotate_left; (· dsimp only; omega)))
                  have hb := HS8.out.below
                  go_grown
            · skip
              have HLO := Lib.hid hl9
              have HHI := Lib.hid hh9
              clear hl9 hh9
              go_wp2_with fail
              have HS9 : Hid (St w (ym.alloc (.cells #[.int .i64 (c.t + (h - c.r) - c.e - mm), .int .i64 (1125899906842624)] 39)) [(w.heap.size, 32, #[.float .f64 c.rate, Value.slice (some ⟨b0, off, none⟩) (k' + 1) cap]), (w.heap.size + 1, 32, #[.float .f64 0, .slice none 0 0]), (w.heap.size + 1 + 1, 39, #[.int .i64 0, .int .i64 0]), (ym.heap.size, 39, #[.int .i64 lo, .int .i64 hi])]) := Lib.hid (by rw [HHI.out, HLO.out]; exact (HQ.out.alloc ym.heap.size rfl 39 #[.int .i64 (c.t + (h - c.r) - c.e - mm), .int .i64 (1125899906842624)]).few (by simp [hk']))
              have hdm : ∀ r ∈ ([(w.heap.size + 1, 32, #[.float .f64 0, .slice none 0 0]), (w.heap.size + 1 + 1, 39, #[.int .i64 0, .int .i64 0]), (ym.heap.size, 39, #[.int .i64 lo, .int .i64 hi])] : List Row), r.1 ≠ w.heap.size := by intro r hr; simp at hr; rcases hr with rfl | rfl | rfl <;> (show _ ≠ _; simp <;> omega)
              have HDM := Lib.hid hdm
              have HLT := Lib.hid (show w.heap.size + 1 + 1 < ym.heap.size from by have := (HQ.out.knows.at 2 rfl).lt; omega)
              refine Iv.region (fun f aa yw => ∃ v110 v111 v112 v113 v114 v115 v116 v117 v118 v119 v120 v121 v122 v123 v124 v125 v126 p0 v1 p8 v2, aa = ⟨#[Value.agg #[Value.float FloatKind.f64 c.rate, Value.slice (some { block := b0, off := off }) (k' + 1) cap], Value.int IntKind.i64 h, Value.pointer (some { block := w.heap.size, off := 0 }), undef, Value.pointer (some { block := w.heap.size + 1, off := 0 }), Value.pointer (some { block := w.heap.size + 1 + 1, off := 0 }), Value.int IntKind.i64 0, Value.pointer (some { block := w.heap.size + 1 + 1 + 1, off := 0 }), Value.int IntKind.i64 (j : Int), Value.int IntKind.i64 c.floor, Value.int IntKind.i64 ((k' : Int) + 1), Value.pointer (some { block := wr.heap.size, off := 0 }), Value.int IntKind.i64 (h - c.r), Value.int IntKind.i64 mm, Value.int IntKind.i64 0, Value.pointer (some { block := ym.heap.size, off := 0 }), Value.agg #[Value.int IntKind.i64 0, Value.int IntKind.i64 0], Value.int IntKind.i64 h, Value.bool true, Value.bool false, undef, undef, Value.int IntKind.i64 ((k' : Int) + 1), Value.pointer (some { block := w.heap.size, off := 1 }), Value.slice (some { block := b0, off := off }) (k' + 1) cap, Value.int IntKind.i64 ((k' : Int) + 1), Value.bool false, u27, u28, u29, u30, u31, u32, u33, u34, u35, u36, u37, u38, u39, u40, u41, u42, u43, u44, u45, u46, u47, u48, u49, Value.int IntKind.i64 (j : Int), Value.bool (decide ((j : Int) < 0)), undef, undef, Value.pointer (some { block := w.heap.size, off := 1 }), Value.slice (some { block := b0, off := off }) (k' + 1) cap, Value.pointer (some { block := w.heap.size, off := 1 }), Value.slice (some { block := b0, off := off }) (k' + 1) cap, Value.int IntKind.i64 ((k' : Int) + 1), Value.int IntKind.i64 (k' : Int), Value.pointer (some { block := b0, off := off + k' * 5 }), Value.pointer (some { block := b0, off := off + k' * 5 }), Value.int IntKind.i64 c.last, Value.int IntKind.i64 h, Value.bool (decide (h < c.last)), undef, undef, Value.pointer (some { block := w.heap.size, off := 1 }), Value.slice (some { block := b0, off := off }) (k' + 1) cap, Value.int IntKind.i64 (j : Int), Value.pointer (some { block := b0, off := off + j * 5 }), Value.agg #[Value.int IntKind.i64 c.r, Value.bool vs, Value.int IntKind.i64 c.t, Value.int IntKind.i64 c.e, Value.int IntKind.i64 vf], Value.int IntKind.i64 h, Value.pointer (some { block := wr.heap.size, off := 0 }), Value.int IntKind.i64 c.r, Value.int IntKind.i64 (h - c.r), Value.int IntKind.i64 (h - c.r), Value.pointer (some { block := wr.heap.size, off := 2 }), Value.int IntKind.i64 c.t, Value.int IntKind.i64 (1125899906842624 - c.t), Value.bool false, undef, undef, Value.tuple #[Value.int IntKind.i64 mm, Value.int IntKind.i64 0], Value.int IntKind.i64 (h - c.r), Value.pointer (some { block := w.heap.size, off := 0 }), Value.float FloatKind.f64 c.rate, Value.tuple #[Value.int IntKind.i64 mm, Value.int IntKind.i64 0], Value.int IntKind.i64 mm, Value.int IntKind.i64 0, Value.pointer (some { block := wr.heap.size, off := 2 }), Value.int IntKind.i64 c.t, Value.int IntKind.i64 (h - c.r), Value.int IntKind.i64 (c.t + (h - c.r)), Value.pointer (some { block := wr.heap.size, off := 3 }), Value.int IntKind.i64 c.e, Value.int IntKind.i64 (c.t + (h - c.r) - c.e), Value.int IntKind.i64 mm, Value.int IntKind.i64 (c.t + (h - c.r) - c.e - mm), Value.pointer (some { block := wr.heap.size, off := 2 }), Value.int IntKind.i64 c.t, Value.int IntKind.i64 (h - c.r), Value.int IntKind.i64 (c.t + (h - c.r)), Value.pointer (some { block := wr.heap.size, off := 3 }), Value.int IntKind.i64 c.e, Value.int IntKind.i64 (c.t + (h - c.r) + c.e), Value.int IntKind.i64 mm, Value.int IntKind.i64 (c.t + (h - c.r) + c.e + mm), Value.agg #[Value.int IntKind.i64 (c.t + (h - c.r) - c.e - mm), Value.int IntKind.i64 (c.t + (h - c.r) + c.e + mm)], Value.pointer (some { block := ym.heap.size, off := 0 }), v110, v111, v112, v113, v114, v115, v116, v117, v118, v119, v120, v121, v122, v123, v124, v125, v126, sl (f 0) (.slice (some ⟨p0, 0, none⟩) 0 0), sl (f 1) (.pointer (some ⟨w.heap.size, 1, none⟩)), sl (f 2) (Value.slice (some ⟨b0, off, none⟩) (k' + 1) cap), sl (f 3) (v1), sl (f 4) (.int .i64 h), sl (f 5) (.pointer (some ⟨ym.heap.size, 0, none⟩)), sl (f 6) (.int .i64 lo), sl (f 7) (.agg #[.int .i64 h, .bool false, .int .i64 0, .int .i64 0, .int .i64 lo]), sl (f 8) (.slice (some ⟨p8, 0, none⟩) 1 1), sl (f 9) (v2), sl (f 10) (.pointer (some ⟨w.heap.size, 1, none⟩)), undef, undef], []⟩ ∧ Ap w yw [(w.heap.size, 32, #[.float .f64 c.rate, if f 11 = true then v2 else Value.slice (some ⟨b0, off, none⟩) (k' + 1) cap]), (w.heap.size + 1, 32, #[.float .f64 0, .slice none 0 0]), (w.heap.size + 1 + 1, 39, #[.int .i64 0, .int .i64 0]), (ym.heap.size, 39, #[.int .i64 lo, .int .i64 hi])] (ym.heap.size + 1) p0 p8 (k' + 1) v1 v2 l h lo (f 0) (f 3) (f 8) (f 9) ∧ (f 11 = true → f 2 = true) ∧ (f 11 = true → f 3 = true ∧ f 9 = true)) (by kernel_rfl) (by kernel_rfl) ?_ ?_ ?_
              · exact ⟨_, _, _, _, _, _, _, _, _, _, _, _, _, _, _, _, _, 0, undef, 0, undef, rfl, Ap.start (HS9.out.drewN 1) (by simp) _ _ _ _ _ _ _ _, (fun h => by cases h), fun h => by cases h⟩
              · refine ⟨?_, ?_, ?_, ?_, ?_, ?_, ?_, ?_, ?_, ?_, ?_, ?_, trivial⟩
                · rintro f a0 yw Q' ⟨v110, v111, v112, v113, v114, v115, v116, v117, v118, v119, v120, v121, v122, v123, v124, v125, v126, p0, v1, p8, v2, rfl, hw⟩ hi hd hQ
                  replace hQ := Lib.hid hQ
                  simp [Iv.depsB, Region.binds] at hd
                  try simp only [hi, hd, sl_true, sl_false]
                  try simp only [hi, sl_true, sl_false]
                  have hw2 := hw
                  rw [hi] at hw2
                  go_wp2_with fail
                  refine hQ.out _ _ ⟨v110, v111, v112, v113, v114, v115, v116, v117, v118, v119, v120, v121, v122, v123, v124, v125, v126, yw.heap.size, v1, p8, v2, ?_, ?_⟩
                  · simp [Iv.upd, hi, hd, sl_true, sl_false]
                  · simpa [Iv.upd] using (show _ ∧ _ from ⟨hw2.1.made, hw2.2⟩)
                · rintro f a0 yw Q' ⟨v110, v111, v112, v113, v114, v115, v116, v117, v118, v119, v120, v121, v122, v123, v124, v125, v126, p0, v1, p8, v2, rfl, hw⟩ hi hd hQ
                  replace hQ := Lib.hid hQ
                  simp [Iv.depsB, Region.binds] at hd
                  try simp only [hi, hd, sl_true, sl_false]
                  try simp only [hi, sl_true, sl_false]
                  go_wp2_with fail
                  refine hQ.out _ _ ⟨v110, v111, v112, v113, v114, v115, v116, v117, v118, v119, v120, v121, v122, v123, v124, v125, v126, p0, v1, p8, v2, ?_, ?_⟩
                  · simp [Iv.upd, hi, hd, sl_true, sl_false]
                  · simpa [Iv.upd, hi, hd] using hw
                · rintro f a0 yw Q' ⟨v110, v111, v112, v113, v114, v115, v116, v117, v118, v119, v120, v121, v122, v123, v124, v125, v126, p0, v1, p8, v2, rfl, hw⟩ hi hd hQ
                  replace hQ := Lib.hid hQ
                  simp [Iv.depsB, Region.binds] at hd
                  try simp only [hi, hd, sl_true, sl_false]
                  try simp only [hi, sl_true, sl_false]
                  have hwk : Whole yw w.heap.size 32 #[.float .f64 c.rate, Value.slice (some ⟨b0, off, none⟩) (k' + 1) cap] := by
                    have e11 : f 11 = false := by
                      cases h11 : f 11 with
                      | false => rfl
                      | true => have := hw.2.1 h11; rw [hi] at this; cases this
                    have := hw.1.st.knows.at 0 rfl
                    simpa [e11] using this
                  obtain ⟨c0, c1, d0, d1, z0⟩ := (show Knows _ [_] from fun r hr => by rw [List.mem_singleton.1 hr]; exact hwk).two 0 w.heap.size rfl
                  clear hwk
                  go_wp2_with fail
                  refine hQ.out _ _ ⟨v110, v111, v112, v113, v114, v115, v116, v117, v118, v119, v120, v121, v122, v123, v124, v125, v126, p0, v1, p8, v2, ?_, ?_⟩
                  · simp [Iv.upd, hi, hd, sl_true, sl_false]
                  · simpa [Iv.upd, hi, hd] using (show _ ∧ _ from ⟨hw.1, hw.2.2⟩)
                · rintro f a0 yw Q' ⟨v110, v111, v112, v113, v114, v115, v116, v117, v118, v119, v120, v121, v122, v123, v124, v125, v126, p0, v1, p8, v2, rfl, hw⟩ hi hd hQ
                  replace hQ := Lib.hid hQ
                  simp [Iv.depsB, Region.binds] at hd
                  try simp only [hi, hd, sl_true, sl_false]
                  try simp only [hi, sl_true, sl_false]
                  have ea : f 0 = true := by simp [hd]
                  have hw2 := hw
                  rw [hi, ea] at hw2
                  have HW2 := Lib.hid hw2
                  clear hw2
                  go_wp2_with (at_builtin; refine wpList_appG rfl (.tmp 127) (.tmp 129) _ 77 _ 5 40 rfl info_taken Try.underlying30 rfl (by decide) (ym.heap.size + 1) _ 0 [] rfl (HW2.out.1.own0 rfl rfl) w.heap.size _ _ cap (flat encT l) rfl (HT2.out.sees.below HW2.out.1.st.below) HT2.out.nil (encT_one l) (by omega) (by omega) HW2.out.1.low.2.1 ?_)
                  intro vn yn ho hg
                  try rw [Nat.zero_add] at ho
                  try rw [List.nil_append] at ho
                  refine hQ.out _ _ ⟨v110, v111, v112, v113, v114, v115, v116, v117, v118, v119, v120, v121, v122, v123, v124, v125, v126, p0, vn, p8, v2, ?_, ?_⟩
                  · simp [Iv.upd, hi, hd, sl_true, sl_false]
                  · have hz := HW2.out.2
                    refine ⟨by simpa [Iv.upd, ea] using HW2.out.1.app1 ho hg, by simpa [Iv.upd] using hz.1, fun h11 => ?_⟩
                    have := (hz.2 (by simpa [Iv.upd] using h11)).1
                    cases this
                · rintro f a0 yw Q' ⟨v110, v111, v112, v113, v114, v115, v116, v117, v118, v119, v120, v121, v122, v123, v124, v125, v126, p0, v1, p8, v2, rfl, hw⟩ hi hd hQ
                  replace hQ := Lib.hid hQ
                  simp [Iv.depsB, Region.binds] at hd
                  try simp only [hi, hd, sl_true, sl_false]
                  try simp only [hi, sl_true, sl_false]
                  go_wp2_with fail
                  refine hQ.out _ _ ⟨v110, v111, v112, v113, v114, v115, v116, v117, v118, v119, v120, v121, v122, v123, v124, v125, v126, p0, v1, p8, v2, ?_, ?_⟩
                  · simp [Iv.upd, hi, hd, sl_true, sl_false]
                  · simpa [Iv.upd, hi, hd] using hw
                · rintro f a0 yw Q' ⟨v110, v111, v112, v113, v114, v115, v116, v117, v118, v119, v120, v121, v122, v123, v124, v125, v126, p0, v1, p8, v2, rfl, hw⟩ hi hd hQ
                  replace hQ := Lib.hid hQ
                  simp [Iv.depsB, Region.binds] at hd
                  try simp only [hi, hd, sl_true, sl_false]
                  try simp only [hi, sl_true, sl_false]
                  go_wp2_with fail
                  refine hQ.out _ _ ⟨v110, v111, v112, v113, v114, v115, v116, v117, v118, v119, v120, v121, v122, v123, v124, v125, v126, p0, v1, p8, v2, ?_, ?_⟩
                  · simp [Iv.upd, hi, hd, sl_true, sl_false]
                  · simpa [Iv.upd, hi, hd] using hw
                · rintro f a0 yw Q' ⟨v110, v111, v112, v113, v114, v115, v116, v117, v118, v119, v120, v121, v122, v123, v124, v125, v126, p0, v1, p8, v2, rfl, hw⟩ hi hd hQ
                  replace hQ := Lib.hid hQ
                  simp [Iv.depsB, Region.binds] at hd
                  try simp only [hi, hd, sl_true, sl_false]
                  try simp only [hi, sl_true, sl_false]
                  obtain ⟨c0, c1, d0, d1, z0⟩ := hw.1.st.two 3 ym.heap.size rfl
                  go_wp2_with fail
                  refine hQ.out _ _ ⟨v110, v111, v112, v113, v114, v115, v116, v117, v118, v119, v120, v121, v122, v123, v124, v125, v126, p0, v1, p8, v2, ?_, ?_⟩
                  · simp [Iv.upd, hi, hd, sl_true, sl_false]
                  · simpa [Iv.upd, hi, hd] using hw
                · rintro f a0 yw Q' ⟨v110, v111, v112, v113, v114, v115, v116, v117, v118, v119, v120, v121, v122, v123, v124, v125, v126, p0, v1, p8, v2, rfl, hw⟩ hi hd hQ
                  replace hQ := Lib.hid hQ
                  simp [Iv.depsB, Region.binds] at hd
                  try simp only [hi, hd, sl_true, sl_false]
                  try simp only [hi, sl_true, sl_false]
                  go_wp2_with fail
                  refine hQ.out _ _ ⟨v110, v111, v112, v113, v114, v115, v116, v117, v118, v119, v120, v121, v122, v123, v124, v125, v126, p0, v1, p8, v2, ?_, ?_⟩
                  · simp [Iv.upd, hi, hd, sl_true, sl_false]
                  · simpa [Iv.upd, hi, hd] using hw
                · rintro f a0 yw Q' ⟨v110, v111, v112, v113, v114, v115, v116, v117, v118, v119, v120, v121, v122, v123, v124, v125, v126, p0, v1, p8, v2, rfl, hw⟩ hi hd hQ
                  replace hQ := Lib.hid hQ
                  simp [Iv.depsB, Region.binds] at hd
                  try simp only [hi, hd, sl_true, sl_false]
                  try simp only [hi, sl_true, sl_false]
                  have hw2 := hw
                  rw [hi] at hw2
                  have HW2 := Lib.hid hw2
                  clear hw2
                  go_wp2_with fail
                  refine hQ.out _ _ ⟨v110, v111, v112, v113, v114, v115, v116, v117, v118, v119, v120, v121, v122, v123, v124, v125, v126, p0, v1, yw.heap.size, v2, ?_, ?_⟩
                  · simp [Iv.upd, hi, hd, sl_true, sl_false]
                  · simpa [Iv.upd] using (show _ ∧ _ from ⟨HW2.out.1.item8, HW2.out.2⟩)
                · rintro f a0 yw Q' ⟨v110, v111, v112, v113, v114, v115, v116, v117, v118, v119, v120, v121, v122, v123, v124, v125, v126, p0, v1, p8, v2, rfl, hw⟩ hi hd hQ
                  replace hQ := Lib.hid hQ
                  simp [Iv.depsB, Region.binds] at hd
                  try simp only [hi, hd, sl_true, sl_false]
                  try simp only [hi, sl_true, sl_false]
                  have ea : f 3 = true := by simp [hd]
                  have eb : f 8 = true := by simp [hd]
                  have hw2 := hw
                  rw [hi, ea, eb] at hw2
                  have HW2 := Lib.hid hw2
                  clear hw2
                  go_wp2_with (at_builtin; refine wpList_appG rfl (.tmp 130) (.tmp 135) _ 77 _ 5 40 rfl info_taken Try.underlying30 rfl (by decide) (ym.heap.size + 1) _ _ (flat encT l) rfl (HW2.out.1.own1 rfl rfl) (p8 + 1) (some ⟨p8, 0, none⟩) 1 1 (encT ⟨h, false, 0, 0, lo⟩) rfl HW2.out.1.sees (fun h => by cases h) (by intro u hu; exact encT_one [⟨h, false, 0, 0, lo⟩] u (by rw [flat_one]; exact hu)) (by omega) (by omega) HW2.out.1.low.2.1 ?_)
                  intro vn yn ho hg
                  rw [← flat_one (enc := encT), ← flat_append] at ho
                  refine hQ.out _ _ ⟨v110, v111, v112, v113, v114, v115, v116, v117, v118, v119, v120, v121, v122, v123, v124, v125, v126, p0, v1, p8, vn, ?_, ?_⟩
                  · simp [Iv.upd, hi, hd, sl_true, sl_false]
                  · have hz := HW2.out.2
                    have e11 : f 11 = false := by
                      cases h11 : f 11 with
                      | false => rfl
                      | true => have := (hz.2 h11).2; cases this
                    have hk := HW2.out.1.app2 ho hg
                    rw [e11] at hk
                    refine ⟨by simpa [Iv.upd, ea, eb, e11] using hk, by simp [Iv.upd, e11], by simp [Iv.upd, e11]⟩
                · rintro f a0 yw Q' ⟨v110, v111, v112, v113, v114, v115, v116, v117, v118, v119, v120, v121, v122, v123, v124, v125, v126, p0, v1, p8, v2, rfl, hw⟩ hi hd hQ
                  replace hQ := Lib.hid hQ
                  simp [Iv.depsB, Region.binds] at hd
                  try simp only [hi, hd, sl_true, sl_false]
                  try simp only [hi, sl_true, sl_false]
                  go_wp2_with fail
                  refine hQ.out _ _ ⟨v110, v111, v112, v113, v114, v115, v116, v117, v118, v119, v120, v121, v122, v123, v124, v125, v126, p0, v1, p8, v2, ?_, ?_⟩
                  · simp [Iv.upd, hi, hd, sl_true, sl_false]
                  · simpa [Iv.upd, hi, hd] using hw
                · rintro f a0 yw Q' ⟨v110, v111, v112, v113, v114, v115, v116, v117, v118, v119, v120, v121, v122, v123, v124, v125, v126, p0, v1, p8, v2, rfl, hw⟩ hi hd hQ
                  replace hQ := Lib.hid hQ
                  simp [Iv.depsB, Region.binds] at hd
                  try simp only [hi, hd, sl_true, sl_false]
                  try simp only [hi, sl_true, sl_false]
                  have ea : f 3 = true := by simp [hd]
                  have eb : f 9 = true := by simp [hd]
                  have hw2 := hw.1
                  rw [hi, ea, eb] at hw2
                  have hwk : Whole yw w.heap.size 32 #[.float .f64 c.rate, Value.slice (some ⟨b0, off, none⟩) (k' + 1) cap] := hw2.st.knows.at 0 rfl
                  obtain ⟨c0, c1, d0, d1, z0⟩ := (show Knows _ [_] from fun r hr => by rw [List.mem_singleton.1 hr]; exact hwk).two 0 w.heap.size rfl
                  clear hwk
                  obtain ⟨A9, c9, rfl, -, -, -⟩ := own_slice0 (hw2.own2 rfl)
                  have HK := Lib.hid (hw2.stored (i := 1) (u := .slice A9 (k' + 1 + 1) c9) (Nat.le_refl _) HDM.out)
                  clear hw2
                  go_wp2_with fail
                  refine hQ.out _ _ ⟨v110, v111, v112, v113, v114, v115, v116, v117, v118, v119, v120, v121, v122, v123, v124, v125, v126, p0, v1, p8, .slice A9 (k' + 1 + 1) c9, ?_, ?_⟩
                  · simp [Iv.upd, hi, hd, sl_true, sl_false]
                  · have hk := HK.out
                    refine ⟨by simpa [Iv.upd, ea, eb] using hk, by simp [Iv.upd, hd], by simp [Iv.upd, hd]⟩
              · rintro f a0 wz ⟨v110, v111, v112, v113, v114, v115, v116, v117, v118, v119, v120, v121, v122, v123, v124, v125, v126, p0, v1, p8, v2, rfl, hw⟩ hall
                simp only [hall 0 (by decide), hall 1 (by decide), hall 2 (by decide), hall 3 (by decide), hall 4 (by decide), hall 5 (by decide), hall 6 (by decide), hall 7 (by decide), hall 8 (by decide), hall 9 (by decide), hall 10 (by decide), hall 11 (by decide), sl_true, ↓reduceIte] at hw ⊢
                clear hall
                have HS8 := Lib.hid hw.1.st
                have HO8 := Lib.hid (hw.1.own2 rfl)
                clear hw
                obtain ⟨A2, cp2, rfl, -, -, -⟩ := own_slice0 HO8.out
                obtain ⟨c0, c1, d0, d1, z0⟩ := HS8.out.two 0 w.heap.size rfl
                obtain ⟨p0', p1, q0, q1, y0⟩ := HS8.out.two 1 (w.heap.size + 1) rfl
                obtain ⟨s0, s1, t0, t1, u0⟩ := HS8.out.two 2 (w.heap.size + 1 + 1) rfl
                obtain ⟨r0, r1, x0, x1, v0⟩ := HS8.out.two 3 ym.heap.size rfl
                have hlt9 : w.heap.size + 1 + 1 < ym.heap.size := HLT.out
                go_wp2_with fail
                go_region
                all_goals go_wp2_with fail
                all_goals
                  refine bodyPost_ret (by simp [results, Try.results15, go_sem, p0', p1, q0, q1, y0, s0, s1, t0, t1, u0]; try rfl) rfl ?_
                  rw [HE0.out, HNL.out, HNH.out]
                  refine ⟨A2, _, cp2, _, rfl, ?_, isT_of_own (B := ym.heap.size + 1) ?_ (by simp; try omega), HIS.out, by simp, fun p hp => .inr (own_low HO8.out hp (by have := HLT.out; omega))⟩
                  rotate_left
                  · repeat (first | exact HO8.out | refine own_drew ?_ | (refine own_away ?_ ?_ _; rotate_left; (· dsimp only; omega)))
                  have hb := HS8.out.below
                  go_grown
            · skip
              have HLO := Lib.hid hl9
              have HHI := Lib.hid hh9
              clear hl9 hh9
              go_wp2_with fail
              have HS9 : Hid (St w (ym.alloc (.cells #[.int .i64 (c.t + (h - c.r) - c.e - mm), .int .i64 (c.t + (h - c.r) + c.e + mm)] 39)) [(w.heap.size, 32, #[.float .f64 c.rate, Value.slice (some ⟨b0, off, none⟩) (k' + 1) cap]), (w.heap.size + 1, 32, #[.float .f64 0, .slice none 0 0]), (w.heap.size + 1 + 1, 39, #[.int .i64 0, .int .i64 0]), (ym.heap.size, 39, #[.int .i64 lo, .int .i64 hi])]) := Lib.hid (by rw [HHI.out, HLO.out]; exact (HQ.out.alloc ym.heap.size rfl 39 #[.int .i64 (c.t + (h - c.r) - c.e - mm), .int .i64 (c.t + (h - c.r) + c.e + mm)]).few (by simp [hk']))
              have hdm : ∀ r ∈ ([(w.heap.size + 1, 32, #[.float .f64 0, .slice none 0 0]), (w.heap.size + 1 + 1, 39, #[.int .i64 0, .int .i64 0]), (ym.heap.size, 39, #[.int .i64 lo, .int .i64 hi])] : List Row), r.1 ≠ w.heap.size := by intro r hr; simp at hr; rcases hr with rfl | rfl | rfl <;> (show _ ≠ _; simp <;> omega)
              have HDM := Lib.hid hdm
              have HLT := Lib.hid (show w.heap.size + 1 + 1 < ym.heap.size from by have := (HQ.out.knows.at 2 rfl).lt; omega)
              refine Iv.region (fun f aa yw => ∃ v110 v111 v112 v113 v114 v115 v116 v117 v118 v119 v120 v121 v122 v123 v124 v125 v126 p0 v1 p8 v2, aa = ⟨#[Value.agg #[Value.float FloatKind.f64 c.rate, Value.slice (some { block := b0, off := off }) (k' + 1) cap], Value.int IntKind.i64 h, Value.pointer (some { block := w.heap.size, off := 0 }), undef, Value.pointer (some { block := w.heap.size + 1, off := 0 }), Value.pointer (some { block := w.heap.size + 1 + 1, off := 0 }), Value.int IntKind.i64 0, Value.pointer (some { block := w.heap.size + 1 + 1 + 1, off := 0 }), Value.int IntKind.i64 (j : Int), Value.int IntKind.i64 c.floor, Value.int IntKind.i64 ((k' : Int) + 1), Value.pointer (some { block := wr.heap.size, off := 0 }), Value.int IntKind.i64 (h - c.r), Value.int IntKind.i64 mm, Value.int IntKind.i64 0, Value.pointer (some { block := ym.heap.size, off := 0 }), Value.agg #[Value.int IntKind.i64 0, Value.int IntKind.i64 0], Value.int IntKind.i64 h, Value.bool true, Value.bool false, undef, undef, Value.int IntKind.i64 ((k' : Int) + 1), Value.pointer (some { block := w.heap.size, off := 1 }), Value.slice (some { block := b0, off := off }) (k' + 1) cap, Value.int IntKind.i64 ((k' : Int) + 1), Value.bool false, u27, u28, u29, u30, u31, u32, u33, u34, u35, u36, u37, u38, u39, u40, u41, u42, u43, u44, u45, u46, u47, u48, u49, Value.int IntKind.i64 (j : Int), Value.bool (decide ((j : Int) < 0)), undef, undef, Value.pointer (some { block := w.heap.size, off := 1 }), Value.slice (some { block := b0, off := off }) (k' + 1) cap, Value.pointer (some { block := w.heap.size, off := 1 }), Value.slice (some { block := b0, off := off }) (k' + 1) cap, Value.int IntKind.i64 ((k' : Int) + 1), Value.int IntKind.i64 (k' : Int), Value.pointer (some { block := b0, off := off + k' * 5 }), Value.pointer (some { block := b0, off := off + k' * 5 }), Value.int IntKind.i64 c.last, Value.int IntKind.i64 h, Value.bool (decide (h < c.last)), undef, undef, Value.pointer (some { block := w.heap.size, off := 1 }), Value.slice (some { block := b0, off := off }) (k' + 1) cap, Value.int IntKind.i64 (j : Int), Value.pointer (some { block := b0, off := off + j * 5 }), Value.agg #[Value.int IntKind.i64 c.r, Value.bool vs, Value.int IntKind.i64 c.t, Value.int IntKind.i64 c.e, Value.int IntKind.i64 vf], Value.int IntKind.i64 h, Value.pointer (some { block := wr.heap.size, off := 0 }), Value.int IntKind.i64 c.r, Value.int IntKind.i64 (h - c.r), Value.int IntKind.i64 (h - c.r), Value.pointer (some { block := wr.heap.size, off := 2 }), Value.int IntKind.i64 c.t, Value.int IntKind.i64 (1125899906842624 - c.t), Value.bool false, undef, undef, Value.tuple #[Value.int IntKind.i64 mm, Value.int IntKind.i64 0], Value.int IntKind.i64 (h - c.r), Value.pointer (some { block := w.heap.size, off := 0 }), Value.float FloatKind.f64 c.rate, Value.tuple #[Value.int IntKind.i64 mm, Value.int IntKind.i64 0], Value.int IntKind.i64 mm, Value.int IntKind.i64 0, Value.pointer (some { block := wr.heap.size, off := 2 }), Value.int IntKind.i64 c.t, Value.int IntKind.i64 (h - c.r), Value.int IntKind.i64 (c.t + (h - c.r)), Value.pointer (some { block := wr.heap.size, off := 3 }), Value.int IntKind.i64 c.e, Value.int IntKind.i64 (c.t + (h - c.r) - c.e), Value.int IntKind.i64 mm, Value.int IntKind.i64 (c.t + (h - c.r) - c.e - mm), Value.pointer (some { block := wr.heap.size, off := 2 }), Value.int IntKind.i64 c.t, Value.int IntKind.i64 (h - c.r), Value.int IntKind.i64 (c.t + (h - c.r)), Value.pointer (some { block := wr.heap.size, off := 3 }), Value.int IntKind.i64 c.e, Value.int IntKind.i64 (c.t + (h - c.r) + c.e), Value.int IntKind.i64 mm, Value.int IntKind.i64 (c.t + (h - c.r) + c.e + mm), Value.agg #[Value.int IntKind.i64 (c.t + (h - c.r) - c.e - mm), Value.int IntKind.i64 (c.t + (h - c.r) + c.e + mm)], Value.pointer (some { block := ym.heap.size, off := 0 }), v110, v111, v112, v113, v114, v115, v116, v117, v118, v119, v120, v121, v122, v123, v124, v125, v126, sl (f 0) (.slice (some ⟨p0, 0, none⟩) 0 0), sl (f 1) (.pointer (some ⟨w.heap.size, 1, none⟩)), sl (f 2) (Value.slice (some ⟨b0, off, none⟩) (k' + 1) cap), sl (f 3) (v1), sl (f 4) (.int .i64 h), sl (f 5) (.pointer (some ⟨ym.heap.size, 0, none⟩)), sl (f 6) (.int .i64 lo), sl (f 7) (.agg #[.int .i64 h, .bool false, .int .i64 0, .int .i64 0, .int .i64 lo]), sl (f 8) (.slice (some ⟨p8, 0, none⟩) 1 1), sl (f 9) (v2), sl (f 10) (.pointer (some ⟨w.heap.size, 1, none⟩)), undef, undef], []⟩ ∧ Ap w yw [(w.heap.size, 32, #[.float .f64 c.rate, if f 11 = true then v2 else Value.slice (some ⟨b0, off, none⟩) (k' + 1) cap]), (w.heap.size + 1, 32, #[.float .f64 0, .slice none 0 0]), (w.heap.size + 1 + 1, 39, #[.int .i64 0, .int .i64 0]), (ym.heap.size, 39, #[.int .i64 lo, .int .i64 hi])] (ym.heap.size + 1) p0 p8 (k' + 1) v1 v2 l h lo (f 0) (f 3) (f 8) (f 9) ∧ (f 11 = true → f 2 = true) ∧ (f 11 = true → f 3 = true ∧ f 9 = true)) (by kernel_rfl) (by kernel_rfl) ?_ ?_ ?_
              · exact ⟨_, _, _, _, _, _, _, _, _, _, _, _, _, _, _, _, _, 0, undef, 0, undef, rfl, Ap.start (HS9.out.drewN 1) (by simp) _ _ _ _ _ _ _ _, (fun h => by cases h), fun h => by cases h⟩
              · refine ⟨?_, ?_, ?_, ?_, ?_, ?_, ?_, ?_, ?_, ?_, ?_, ?_, trivial⟩
                · rintro f a0 yw Q' ⟨v110, v111, v112, v113, v114, v115, v116, v117, v118, v119, v120, v121, v122, v123, v124, v125, v126, p0, v1, p8, v2, rfl, hw⟩ hi hd hQ
                  replace hQ := Lib.hid hQ
                  simp [Iv.depsB, Region.binds] at hd
                  try simp only [hi, hd, sl_true, sl_false]
                  try simp only [hi, sl_true, sl_false]
                  have hw2 := hw
                  rw [hi] at hw2
                  go_wp2_with fail
                  refine hQ.out _ _ ⟨v110, v111, v112, v113, v114, v115, v116, v117, v118, v119, v120, v121, v122, v123, v124, v125, v126, yw.heap.size, v1, p8, v2, ?_, ?_⟩
                  · simp [Iv.upd, hi, hd, sl_true, sl_false]
                  · simpa [Iv.upd] using (show _ ∧ _ from ⟨hw2.1.made, hw2.2⟩)
                · rintro f a0 yw Q' ⟨v110, v111, v112, v113, v114, v115, v116, v117, v118, v119, v120, v121, v122, v123, v124, v125, v126, p0, v1, p8, v2, rfl, hw⟩ hi hd hQ
                  replace hQ := Lib.hid hQ
                  simp [Iv.depsB, Region.binds] at hd
                  try simp only [hi, hd, sl_true, sl_false]
                  try simp only [hi, sl_true, sl_false]
                  go_wp2_with fail
                  refine hQ.out _ _ ⟨v110, v111, v112, v113, v114, v115, v116, v117, v118, v119, v120, v121, v122, v123, v124, v125, v126, p0, v1, p8, v2, ?_, ?_⟩
                  · simp [Iv.upd, hi, hd, sl_true, sl_false]
                  · simpa [Iv.upd, hi, hd] using hw
                · rintro f a0 yw Q' ⟨v110, v111, v112, v113, v114, v115, v116, v117, v118, v119, v120, v121, v122, v123, v124, v125, v126, p0, v1, p8, v2, rfl, hw⟩ hi hd hQ
                  replace hQ := Lib.hid hQ
                  simp [Iv.depsB, Region.binds] at hd
                  try simp only [hi, hd, sl_true, sl_false]
                  try simp only [hi, sl_true, sl_false]
                  have hwk : Whole yw w.heap.size 32 #[.float .f64 c.rate, Value.slice (some ⟨b0, off, none⟩) (k' + 1) cap] := by
                    have e11 : f 11 = false := by
                      cases h11 : f 11 with
                      | false => rfl
                      | true => have := hw.2.1 h11; rw [hi] at this; cases this
                    have := hw.1.st.knows.at 0 rfl
                    simpa [e11] using this
                  obtain ⟨c0, c1, d0, d1, z0⟩ := (show Knows _ [_] from fun r hr => by rw [List.mem_singleton.1 hr]; exact hwk).two 0 w.heap.size rfl
                  clear hwk
                  go_wp2_with fail
                  refine hQ.out _ _ ⟨v110, v111, v112, v113, v114, v115, v116, v117, v118, v119, v120, v121, v122, v123, v124, v125, v126, p0, v1, p8, v2, ?_, ?_⟩
                  · simp [Iv.upd, hi, hd, sl_true, sl_false]
                  · simpa [Iv.upd, hi, hd] using (show _ ∧ _ from ⟨hw.1, hw.2.2⟩)
                · rintro f a0 yw Q' ⟨v110, v111, v112, v113, v114, v115, v116, v117, v118, v119, v120, v121, v122, v123, v124, v125, v126, p0, v1, p8, v2, rfl, hw⟩ hi hd hQ
                  replace hQ := Lib.hid hQ
                  simp [Iv.depsB, Region.binds] at hd
                  try simp only [hi, hd, sl_true, sl_false]
                  try simp only [hi, sl_true, sl_false]
                  have ea : f 0 = true := by simp [hd]
                  have hw2 := hw
                  rw [hi, ea] at hw2
                  have HW2 := Lib.hid hw2
                  clear hw2
                  go_wp2_with (at_builtin; refine wpList_appG rfl (.tmp 127) (.tmp 129) _ 77 _ 5 40 rfl info_taken Try.underlying30 rfl (by decide) (ym.heap.size + 1) _ 0 [] rfl (HW2.out.1.own0 rfl rfl) w.heap.size _ _ cap (flat encT l) rfl (HT2.out.sees.below HW2.out.1.st.below) HT2.out.nil (encT_one l) (by omega) (by omega) HW2.out.1.low.2.1 ?_)
                  intro vn yn ho hg
                  try rw [Nat.zero_add] at ho
                  try rw [List.nil_append] at ho
                  refine hQ.out _ _ ⟨v110, v111, v112, v113, v114, v115, v116, v117, v118, v119, v120, v121, v122, v123, v124, v125, v126, p0, vn, p8, v2, ?_, ?_⟩
                  · simp [Iv.upd, hi, hd, sl_true, sl_false]
                  · have hz := HW2.out.2
                    refine ⟨by simpa [Iv.upd, ea] using HW2.out.1.app1 ho hg, by simpa [Iv.upd] using hz.1, fun h11 => ?_⟩
                    have := (hz.2 (by simpa [Iv.upd] using h11)).1
                    cases this
                · rintro f a0 yw Q' ⟨v110, v111, v112, v113, v114, v115, v116, v117, v118, v119, v120, v121, v122, v123, v124, v125, v126, p0, v1, p8, v2, rfl, hw⟩ hi hd hQ
                  replace hQ := Lib.hid hQ
                  simp [Iv.depsB, Region.binds] at hd
                  try simp only [hi, hd, sl_true, sl_false]
                  try simp only [hi, sl_true, sl_false]
                  go_wp2_with fail
                  refine hQ.out _ _ ⟨v110, v111, v112, v113, v114, v115, v116, v117, v118, v119, v120, v121, v122, v123, v124, v125, v126, p0, v1, p8, v2, ?_, ?_⟩
                  · simp [Iv.upd, hi, hd, sl_true, sl_false]
                  · simpa [Iv.upd, hi, hd] using hw
                · rintro f a0 yw Q' ⟨v110, v111, v112, v113, v114, v115, v116, v117, v118, v119, v120, v121, v122, v123, v124, v125, v126, p0, v1, p8, v2, rfl, hw⟩ hi hd hQ
                  replace hQ := Lib.hid hQ
                  simp [Iv.depsB, Region.binds] at hd
                  try simp only [hi, hd, sl_true, sl_false]
                  try simp only [hi, sl_true, sl_false]
                  go_wp2_with fail
                  refine hQ.out _ _ ⟨v110, v111, v112, v113, v114, v115, v116, v117, v118, v119, v120, v121, v122, v123, v124, v125, v126, p0, v1, p8, v2, ?_, ?_⟩
                  · simp [Iv.upd, hi, hd, sl_true, sl_false]
                  · simpa [Iv.upd, hi, hd] using hw
                · rintro f a0 yw Q' ⟨v110, v111, v112, v113, v114, v115, v116, v117, v118, v119, v120, v121, v122, v123, v124, v125, v126, p0, v1, p8, v2, rfl, hw⟩ hi hd hQ
                  replace hQ := Lib.hid hQ
                  simp [Iv.depsB, Region.binds] at hd
                  try simp only [hi, hd, sl_true, sl_false]
                  try simp only [hi, sl_true, sl_false]
                  obtain ⟨c0, c1, d0, d1, z0⟩ := hw.1.st.two 3 ym.heap.size rfl
                  go_wp2_with fail
                  refine hQ.out _ _ ⟨v110, v111, v112, v113, v114, v115, v116, v117, v118, v119, v120, v121, v122, v123, v124, v125, v126, p0, v1, p8, v2, ?_, ?_⟩
                  · simp [Iv.upd, hi, hd, sl_true, sl_false]
                  · simpa [Iv.upd, hi, hd] using hw
                · rintro f a0 yw Q' ⟨v110, v111, v112, v113, v114, v115, v116, v117, v118, v119, v120, v121, v122, v123, v124, v125, v126, p0, v1, p8, v2, rfl, hw⟩ hi hd hQ
                  replace hQ := Lib.hid hQ
                  simp [Iv.depsB, Region.binds] at hd
                  try simp only [hi, hd, sl_true, sl_false]
                  try simp only [hi, sl_true, sl_false]
                  go_wp2_with fail
                  refine hQ.out _ _ ⟨v110, v111, v112, v113, v114, v115, v116, v117, v118, v119, v120, v121, v122, v123, v124, v125, v126, p0, v1, p8, v2, ?_, ?_⟩
                  · simp [Iv.upd, hi, hd, sl_true, sl_false]
                  · simpa [Iv.upd, hi, hd] using hw
                · rintro f a0 yw Q' ⟨v110, v111, v112, v113, v114, v115, v116, v117, v118, v119, v120, v121, v122, v123, v124, v125, v126, p0, v1, p8, v2, rfl, hw⟩ hi hd hQ
                  replace hQ := Lib.hid hQ
                  simp [Iv.depsB, Region.binds] at hd
                  try simp only [hi, hd, sl_true, sl_false]
                  try simp only [hi, sl_true, sl_false]
                  have hw2 := hw
                  rw [hi] at hw2
                  have HW2 := Lib.hid hw2
                  clear hw2
                  go_wp2_with fail
                  refine hQ.out _ _ ⟨v110, v111, v112, v113, v114, v115, v116, v117, v118, v119, v120, v121, v122, v123, v124, v125, v126, p0, v1, yw.heap.size, v2, ?_, ?_⟩
                  · simp [Iv.upd, hi, hd, sl_true, sl_false]
                  · simpa [Iv.upd] using (show _ ∧ _ from ⟨HW2.out.1.item8, HW2.out.2⟩)
                · rintro f a0 yw Q' ⟨v110, v111, v112, v113, v114, v115, v116, v117, v118, v119, v120, v121, v122, v123, v124, v125, v126, p0, v1, p8, v2, rfl, hw⟩ hi hd hQ
                  replace hQ := Lib.hid hQ
                  simp [Iv.depsB, Region.binds] at hd
                  try simp only [hi, hd, sl_true, sl_false]
                  try simp only [hi, sl_true, sl_false]
                  have ea : f 3 = true := by simp [hd]
                  have eb : f 8 = true := by simp [hd]
                  have hw2 := hw
                  rw [hi, ea, eb] at hw2
                  have HW2 := Lib.hid hw2
                  clear hw2
                  go_wp2_with (at_builtin; refine wpList_appG rfl (.tmp 130) (.tmp 135) _ 77 _ 5 40 rfl info_taken Try.underlying30 rfl (by decide) (ym.heap.size + 1) _ _ (flat encT l) rfl (HW2.out.1.own1 rfl rfl) (p8 + 1) (some ⟨p8, 0, none⟩) 1 1 (encT ⟨h, false, 0, 0, lo⟩) rfl HW2.out.1.sees (fun h => by cases h) (by intro u hu; exact encT_one [⟨h, false, 0, 0, lo⟩] u (by rw [flat_one]; exact hu)) (by omega) (by omega) HW2.out.1.low.2.1 ?_)
                  intro vn yn ho hg
                  rw [← flat_one (enc := encT), ← flat_append] at ho
                  refine hQ.out _ _ ⟨v110, v111, v112, v113, v114, v115, v116, v117, v118, v119, v120, v121, v122, v123, v124, v125, v126, p0, v1, p8, vn, ?_, ?_⟩
                  · simp [Iv.upd, hi, hd, sl_true, sl_false]
                  · have hz := HW2.out.2
                    have e11 : f 11 = false := by
                      cases h11 : f 11 with
                      | false => rfl
                      | true => have := (hz.2 h11).2; cases this
                    have hk := HW2.out.1.app2 ho hg
                    rw [e11] at hk
                    refine ⟨by simpa [Iv.upd, ea, eb, e11] using hk, by simp [Iv.upd, e11], by simp [Iv.upd, e11]⟩
                · rintro f a0 yw Q' ⟨v110, v111, v112, v113, v114, v115, v116, v117, v118, v119, v120, v121, v122, v123, v124, v125, v126, p0, v1, p8, v2, rfl, hw⟩ hi hd hQ
                  replace hQ := Lib.hid hQ
                  simp [Iv.depsB, Region.binds] at hd
                  try simp only [hi, hd, sl_true, sl_false]
                  try simp only [hi, sl_true, sl_false]
                  go_wp2_with fail
                  refine hQ.out _ _ ⟨v110, v111, v112, v113, v114, v115, v116, v117, v118, v119, v120, v121, v122, v123, v124, v125, v126, p0, v1, p8, v2, ?_, ?_⟩
                  · simp [Iv.upd, hi, hd, sl_true, sl_false]
                  · simpa [Iv.upd, hi, hd] using hw
                · rintro f a0 yw Q' ⟨v110, v111, v112, v113, v114, v115, v116, v117, v118, v119, v120, v121, v122, v123, v124, v125, v126, p0, v1, p8, v2, rfl, hw⟩ hi hd hQ
                  replace hQ := Lib.hid hQ
                  simp [Iv.depsB, Region.binds] at hd
                  try simp only [hi, hd, sl_true, sl_false]
                  try simp only [hi, sl_true, sl_false]
                  have ea : f 3 = true := by simp [hd]
                  have eb : f 9 = true := by simp [hd]
                  have hw2 := hw.1
                  rw [hi, ea, eb] at hw2
                  have hwk : Whole yw w.heap.size 32 #[.float .f64 c.rate, Value.slice (some ⟨b0, off, none⟩) (k' + 1) cap] := hw2.st.knows.at 0 rfl
                  obtain ⟨c0, c1, d0, d1, z0⟩ := (show Knows _ [_] from fun r hr => by rw [List.mem_singleton.1 hr]; exact hwk).two 0 w.heap.size rfl
                  clear hwk
                  obtain ⟨A9, c9, rfl, -, -, -⟩ := own_slice0 (hw2.own2 rfl)
                  have HK := Lib.hid (hw2.stored (i := 1) (u := .slice A9 (k' + 1 + 1) c9) (Nat.le_refl _) HDM.out)
                  clear hw2
                  go_wp2_with fail
                  refine hQ.out _ _ ⟨v110, v111, v112, v113, v114, v115, v116, v117, v118, v119, v120, v121, v122, v123, v124, v125, v126, p0, v1, p8, .slice A9 (k' + 1 + 1) c9, ?_, ?_⟩
                  · simp [Iv.upd, hi, hd, sl_true, sl_false]
                  · have hk := HK.out
                    refine ⟨by simpa [Iv.upd, ea, eb] using hk, by simp [Iv.upd, hd], by simp [Iv.upd, hd]⟩
              · rintro f a0 wz ⟨v110, v111, v112, v113, v114, v115, v116, v117, v118, v119, v120, v121, v122, v123, v124, v125, v126, p0, v1, p8, v2, rfl, hw⟩ hall
                simp only [hall 0 (by decide), hall 1 (by decide), hall 2 (by decide), hall 3 (by decide), hall 4 (by decide), hall 5 (by decide), hall 6 (by decide), hall 7 (by decide), hall 8 (by decide), hall 9 (by decide), hall 10 (by decide), hall 11 (by decide), sl_true, ↓reduceIte] at hw ⊢
                clear hall
                have HS8 := Lib.hid hw.1.st
                have HO8 := Lib.hid (hw.1.own2 rfl)
                clear hw
                obtain ⟨A2, cp2, rfl, -, -, -⟩ := own_slice0 HO8.out
                obtain ⟨c0, c1, d0, d1, z0⟩ := HS8.out.two 0 w.heap.size rfl
                obtain ⟨p0', p1, q0, q1, y0⟩ := HS8.out.two 1 (w.heap.size + 1) rfl
                obtain ⟨s0, s1, t0, t1, u0⟩ := HS8.out.two 2 (w.heap.size + 1 + 1) rfl
                obtain ⟨r0, r1, x0, x1, v0⟩ := HS8.out.two 3 ym.heap.size rfl
                have hlt9 : w.heap.size + 1 + 1 < ym.heap.size := HLT.out
                go_wp2_with fail
                go_region
                all_goals go_wp2_with fail
                all_goals
                  refine bodyPost_ret (by simp [results, Try.results15, go_sem, p0', p1, q0, q1, y0, s0, s1, t0, t1, u0]; try rfl) rfl ?_
                  rw [HE0.out, HNL.out, HNH.out]
                  refine ⟨A2, _, cp2, _, rfl, ?_, isT_of_own (B := ym.heap.size + 1) ?_ (by simp; try omega), HIS.out, by simp, fun p hp => .inr (own_low HO8.out hp (by have := HLT.out; omega))⟩
                  rotate_left
                  · repeat (first | exact HO8.out | refine own_drew ?_ | (refine own_away ?_ ?_ _; rotate_left; (· dsimp only; omega)))
                  have hb := HS8.out.below
                  go_grown
          · have HE0 := Lib.hid E0; have HNL := Lib.hid nL; have HNH := Lib.hid nH
            have HN := Lib.hid E
            have k9 : 1125899906842624 - c.t < h - c.r := by unfold Ck.sum at sr; omega
            obtain ⟨⟨b1', b2'⟩, ⟨b3', b4'⟩, b5', b6'⟩ := hbt
            clear E0 a nL nH E hon e sr
            go_wp2_with fail
            go_region
            all_goals go_wp2_with fail
            all_goals
              refine bodyPost_ret (by simp [results, Try.results15, go_sem, p0, p1, q0, q1, y0, s0, s1, t0, t1, u0]; try rfl) rfl ?_
              rw [HE0.out, HNL.out, HNH.out]
              refine rnow_end HT2.out HI.out HN.out ?_
              have hb := HQ.out.below
              go_grown
          · have HE0 := Lib.hid E0; have HNL := Lib.hid nL; have HNH := Lib.hid nH
            have HN := Lib.hid E
            clear E0 a nL nH E hon hbt
            go_wp2_with fail
            go_region
            all_goals go_wp2_with fail
            all_goals
              refine bodyPost_ret (by simp [results, Try.results15, go_sem, p0, p1, q0, q1, y0, s0, s1, t0, t1, u0]; try rfl) rfl ?_
              rw [HE0.out, HNL.out, HNH.out]
              refine rnow_end HT2.out HI.out HN.out ?_
              have hb := HQ.out.below
              go_grown
          · rw [hon] at a; cases a
          · rw [HTT.out] at a; cases a
end Go.Proofs.Ytpnojhcjaneleaa
