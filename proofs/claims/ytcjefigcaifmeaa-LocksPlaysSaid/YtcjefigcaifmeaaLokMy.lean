/- Locks: the document's may, in memory. (Written by gmay.py.) -/
import Derived.Test.YtcjefigcaifmeaaLokK
namespace Go.Proofs.Ytcjefigcaifmeaa
open Go.ChangeShapes Go.WideShapes Go.ChangeAt Go.RowKit Go.Lk
set_option linter.unusedVariables false
set_option linter.unusedSimpArgs false
set_option maxRecDepth 100000
abbrev aggT (A : Option Addr) (n c : Nat) (A2 : Option Addr) (n2 c2 : Nat) (A3 : Option Addr) (n3 c3 : Nat) : Value := .agg #[.slice A n c, .slice A2 n2 c2, .slice A3 n3 c3]
theorem may_false1 {H W : List Rw} {x y : Rw} {c : Nat} (hy : H[c]? = some y) (h : (!(y.key == x.key) || togR y x) = false) : mayR H W x = false := by
  unfold mayR
  rw [Bool.and_eq_false_iff]
  exact .inl (List.all_eq_false.2 ⟨y, List.mem_of_getElem? hy, by rw [h]; simp⟩)
theorem may_false2 {H W : List Rw} {x y : Rw} {c : Nat} (hy : W[c]? = some y) (h : (!(y.key == x.key && decide (y.tx < x.tx)) || togR y x) = false) : mayR H W x = false := by
  unfold mayR
  rw [Bool.and_eq_false_iff]
  exact .inr (List.all_eq_false.2 ⟨y, List.mem_of_getElem? hy, by rw [h]; simp⟩)
theorem may_true {H W : List Rw} {x : Rw} (h1 : ∀ j y, j < H.length → H[j]? = some y → (!(y.key == x.key) || togR y x) = true) (h2 : ∀ j y, j < W.length → W[j]? = some y → (!(y.key == x.key && decide (y.tx < x.tx)) || togR y x) = true) : mayR H W x = true := by
  unfold mayR
  rw [Bool.and_eq_true, List.all_eq_true, List.all_eq_true]
  refine ⟨fun y hy => ?_, fun y hy => ?_⟩
  · obtain ⟨j, hj⟩ := List.mem_iff_getElem?.1 hy
    exact h1 j y (List.getElem?_eq_some_iff.1 hj).1 hj
  · obtain ⟨j, hj⟩ := List.mem_iff_getElem?.1 hy
    exact h2 j y (List.getElem?_eq_some_iff.1 hj).1 hj
theorem next_all {l : List Rw} {p : Rw → Bool} {c : Nat} {y : Rw} (h : ∀ j z, j < c → l[j]? = some z → p z = true) (hy : l[c]? = some y) (hp : p y = true) : ∀ j z, j < c + 1 → l[j]? = some z → p z = true := fun j z hj hz => by
  rcases Nat.lt_or_ge j c with h1 | h1
  · exact h j z h1 hz
  · obtain rfl : j = c := by omega
    rw [hy] at hz
    injection hz with hz
    rw [← hz]; exact hp
set_option maxHeartbeats 8000000 in
theorem rmay_any (A : Option Addr) (c : Nat) (H : List Rw) (A2 : Option Addr) (c2 : Nat) (W : List Rw) (A3 : Option Addr) (n3 c3 : Nat) (x : Rw) (w : World) (hs : Sees w w.heap.size 3 A H.length (flat encR H)) (hs2 : Sees w w.heap.size 3 A2 W.length (flat encR W)) (hl : H.length ≤ 100000) (hl2 : W.length ≤ 100000) :
    Calls Try.prog 34 #[aggT A H.length c A2 W.length c2 A3 n3 c3, aggR x] w fun e w' => e = .returned (.bool (mayR H W x)) ∧ Below w.heap.size w w' := by
  have HF1 := Lib.hid (fun (y : Rw) (c : Nat) (hy : H[c]? = some y) h => may_false1 (W := W) (x := x) hy h)
  have HF2 := Lib.hid (fun (y : Rw) (c : Nat) (hy : W[c]? = some y) h => may_false2 (H := H) (x := x) hy h)
  have HTR := Lib.hid (fun h1 h2 => may_true (H := H) (W := W) (x := x) h1 h2)
  obtain ⟨x1, x2, x3⟩ := x
  have hal := ((Below.refl w.heap.size w).alloc (Nat.le_refl _) (.cells #[.slice A H.length c, .slice A2 W.length c2, .slice A3 n3 c3] 28)).alloc (by simp) (.cells #[.int .i64 x1, .int .i64 x2, .bool x3] 74)
  have HAL := Lib.hid hal
  have HS := Lib.hid hs
  have HS2 := Lib.hid hs2
  have HK : Hid (∀ z, Below (w.heap.size + 2) ((w.alloc (.cells #[.slice A H.length c, .slice A2 W.length c2, .slice A3 n3 c3] 28)).alloc (.cells #[.int .i64 x1, .int .i64 x2, .bool x3] 74)) z →
      (z.cell? ⟨w.heap.size, 0, none⟩ = some (.slice A H.length c) ∧ z.cell? ⟨w.heap.size, 1, none⟩ = some (.slice A2 W.length c2) ∧ w.heap.size < z.heap.size) ∧ z.cell? ⟨w.heap.size + 1, 0, none⟩ = some (.int .i64 x1) ∧ z.cell? ⟨w.heap.size + 1, 1, none⟩ = some (.int .i64 x2) ∧ z.cell? ⟨w.heap.size + 1, 2, none⟩ = some (.bool x3) ∧ w.heap.size + 1 < z.heap.size) := Lib.hid fun z hz => by
    have k1 : Whole z w.heap.size 28 #[.slice A H.length c, .slice A2 W.length c2, .slice A3 n3 c3] := ((Whole.fresh w _ _).alloc _).below hz (by omega)
    have k2 := Whole.fresh (w.alloc (.cells #[.slice A H.length c, .slice A2 W.length c2, .slice A3 n3 c3] 28)) 74 #[.int .i64 x1, .int .i64 x2, .bool x3]
    have k3 : Whole z (w.heap.size + 1) 74 #[.int .i64 x1, .int .i64 x2, .bool x3] := by
      have : (w.alloc (.cells #[.slice A H.length c, .slice A2 W.length c2, .slice A3 n3 c3] 28)).heap.size = w.heap.size + 1 := by simp
      rw [this] at k2
      exact k2.below hz (by omega)
    exact ⟨⟨k1.cell 0, k1.cell 1, k1.lt⟩, k3.cell 0, k3.cell 1, k3.cell 2, k3.lt⟩
  have hsz : ((w.alloc (.cells #[.slice A H.length c, .slice A2 W.length c2, .slice A3 n3 c3] 28)).alloc (.cells #[.int .i64 x1, .int .i64 x2, .bool x3] 74)).heap.size = w.heap.size + 2 := by simp
  have HSZ := Lib.hid hsz
  clear hs hs2 hal hsz
  go_enter Try.func34, Try.ntmps34
  go_wp2_with fail
  generalize hw0 : (w.alloc (.cells #[.slice A H.length c, .slice A2 W.length c2, .slice A3 n3 c3] 28)).alloc (.cells #[.int .i64 x1, .int .i64 x2, .bool x3] 74) = w0 at *
  clear hw0
  obtain ⟨⟨t0, t1, tz⟩, x0', x1', x2', xz'⟩ := HK.out w0 (by rw [← HSZ.out]; exact Below.refl _ _)
  go_loopw [5] (fun i wr => ∃ c : Nat, c ≤ H.length ∧ i = .int .i64 (c : Int) ∧ Below (w.heap.size + 2) w0 wr ∧ Hid (∀ j y, j < c → H[j]? = some y → (!(y.key == x2) || togR y ⟨x1, x2, x3⟩) = true)) (fun i _ => H.length - (intOf i).toNat)
  case atStart => exact ⟨0, by omega, rfl, by rw [← HSZ.out]; exact Below.refl _ _, Lib.hid fun j y h => by omega⟩
  case round =>
    obtain ⟨k, hk, rfl, hb, HI1⟩ := hrel
    have HB2 := Lib.hid hb
    have HB2z : Hid (w.heap.size + 2 ≤ wr.heap.size) := Lib.hid (by have := hb.size; have := HSZ.out; omega)
    have HBW : Hid (Below w.heap.size w wr) := Lib.hid (HAL.out.trans (hb.mono (by omega)))
    obtain ⟨⟨t0, t1, tz⟩, x0', x1', x2', xz'⟩ := HK.out _ hb
    clear hb
    by_cases hlt : k < H.length
    · obtain ⟨y, hy⟩ : ∃ y, H[k]? = some y := ⟨_, List.getElem?_eq_getElem hlt⟩
      obtain ⟨b0, off, rfl, hbb, hcc⟩ := (HS.out.below HBW.out).item encR_len (by omega) k y hy
      have HCE : Hid (∀ z, Below wr.heap.size wr z → z.cell? ⟨b0, off + k * 3, none⟩ = some (.int .i64 y.tx) ∧ z.cell? ⟨b0, off + k * 3 + 1, none⟩ = some (.int .i64 y.key) ∧ z.cell? ⟨b0, off + k * 3 + 2, none⟩ = some (.bool y.b)) := Lib.hid fun z hz => by
        have hlo : b0 < wr.heap.size := Nat.lt_of_lt_of_le hbb HBW.out.size
        have h0 := (hz.cell hlo).trans (hcc 0 _ rfl)
        exact ⟨h0, (hz.cell hlo).trans (hcc 1 _ rfl), (hz.cell hlo).trans (hcc 2 _ rfl)⟩
      have i1 : (k : Int) < (H.length : Int) := by omega
      have HTG := Lib.hid (fun z => rtog_any y ⟨x1, x2, x3⟩ z)
      have HY := Lib.hid hy
      have HTY : Hid (togR y ⟨x1, x2, x3⟩ = togR y ⟨x1, x2, x3⟩) := Lib.hid rfl
      clear hcc hy hbb
      by_cases hkey : y.key = x2
      · have e1 : (y.key == x2) = true := by simpa using hkey
        cases htg : togR y ⟨x1, x2, x3⟩ with
        | false =>
          have HV := Lib.hid (HF1.out y k HY.out (by (try dsimp only); rw [e1, htg]; rfl))
          rw [htg] at HTG
          obtain ⟨y1, y2, y3⟩ := y
          dsimp only at *
          clear HY HTY HF1 HF2 HTR htg hkey
          obtain ⟨C, hC, HCc, HCf⟩ := below_class wr
          go_wp2_with fail
          refine region_in C hC (by kernel_rfl) (by kernel_rfl) ?_
          iterate 19
            (refine WQ.step (fun K hK => ?_)
             go_simp
             first
               | (refine hK _ ?_; clear hK K)
               | (apply Exists.intro
                  refine ⟨fun z hz => ?_, hK _ ?_⟩
                  · first
                      | rfl
                      | (go_at_call 23; refine (HTG.out z).mono ?_; rintro e z2 ⟨rfl, hb⟩; exact ⟨rfl, HCc.out _ _ hz hb⟩)
                      | (obtain ⟨p0, p1, p2⟩ := HCE.out z (HCf.out _ hz)
                         obtain ⟨⟨t0, t1, tz⟩, x0', x1', x2', xz'⟩ := HK.out z (HB2.out.trans ((HCf.out _ hz).mono HB2z.out))
                         go_simp
                         rfl)
                  clear hK K))
          refine WQ.nil ?_
          intro wn hw
          have HBN := Lib.hid (HB2.out.trans ((HCf.out _ hw).mono HB2z.out))
          clear hw hC HCc HCf C
          go_wp2_with fail
          go_ret
          exact ⟨by rw [HV.out]; rfl, HAL.out.trans (HBN.out.mono (by omega))⟩
        | true =>
          have HN := Lib.hid (next_all (p := fun y => (!(y.key == x2) || togR y ⟨x1, x2, x3⟩)) HI1.out HY.out (by (try dsimp only); rw [htg]; simp))
          rw [htg] at HTG
          obtain ⟨y1, y2, y3⟩ := y
          dsimp only at *
          clear HY HTY htg hkey
          obtain ⟨C, hC, HCc, HCf⟩ := below_class wr
          go_wp2_with fail
          refine region_in C hC (by kernel_rfl) (by kernel_rfl) ?_
          iterate 19
            (refine WQ.step (fun K hK => ?_)
             go_simp
             first
               | (refine hK _ ?_; clear hK K)
               | (apply Exists.intro
                  refine ⟨fun z hz => ?_, hK _ ?_⟩
                  · first
                      | rfl
                      | (go_at_call 23; refine (HTG.out z).mono ?_; rintro e z2 ⟨rfl, hb⟩; exact ⟨rfl, HCc.out _ _ hz hb⟩)
                      | (obtain ⟨p0, p1, p2⟩ := HCE.out z (HCf.out _ hz)
                         obtain ⟨⟨t0, t1, tz⟩, x0', x1', x2', xz'⟩ := HK.out z (HB2.out.trans ((HCf.out _ hz).mono HB2z.out))
                         go_simp
                         rfl)
                  clear hK K))
          refine WQ.nil ?_
          intro wn hw
          have HBN := Lib.hid (HB2.out.trans ((HCf.out _ hw).mono HB2z.out))
          clear hw hC HCc HCf C
          go_wp2_with fail
          go_roundw
          case rel => exact ⟨k + 1, by omega, by go_num, HBN.out, HN.out⟩
          case measure => simp [intOf]; omega
      · have e1 : (y.key == x2) = false := by simpa using hkey
        have HN := Lib.hid (next_all (p := fun y => (!(y.key == x2) || togR y ⟨x1, x2, x3⟩)) HI1.out HY.out (by (try dsimp only); rw [e1]; rfl))
        obtain ⟨y1, y2, y3⟩ := y
        dsimp only at *
        clear HY HTY hkey
        obtain ⟨C, hC, HCc, HCf⟩ := below_class wr
        go_wp2_with fail
        refine region_in C hC (by kernel_rfl) (by kernel_rfl) ?_
        iterate 19
          (refine WQ.step (fun K hK => ?_)
           go_simp
           first
             | (refine hK _ ?_; clear hK K)
             | (apply Exists.intro
                refine ⟨fun z hz => ?_, hK _ ?_⟩
                · first
                    | rfl
                    | (go_at_call 23; refine (HTG.out z).mono ?_; rintro e z2 ⟨rfl, hb⟩; exact ⟨rfl, HCc.out _ _ hz hb⟩)
                    | (obtain ⟨p0, p1, p2⟩ := HCE.out z (HCf.out _ hz)
                       obtain ⟨⟨t0, t1, tz⟩, x0', x1', x2', xz'⟩ := HK.out z (HB2.out.trans ((HCf.out _ hz).mono HB2z.out))
                       go_simp
                       rfl)
                clear hK K))
        refine WQ.nil ?_
        intro wn hw
        have HBN := Lib.hid (HB2.out.trans ((HCf.out _ hw).mono HB2z.out))
        clear hw hC HCc HCf C
        go_wp2_with fail
        go_roundw
        case rel => exact ⟨k + 1, by omega, by go_num, HBN.out, HN.out⟩
        case measure => simp [intOf]; omega
    · obtain rfl : k = H.length := by omega
      have i1 : ¬ (H.length : Int) < (H.length : Int) := by omega
      have HBp := Lib.hid HB2.out
      clear HB2 HBW HB2z
      go_wp2_with fail
      clear t0 t1 tz x0' x1' x2' xz'
      go_loopw [6] (fun i wr => ∃ c : Nat, c ≤ W.length ∧ i = .int .i64 (c : Int) ∧ Below (w.heap.size + 2) w0 wr ∧ Hid (∀ j y, j < c → W[j]? = some y → (!(y.key == x2 && decide (y.tx < x1)) || togR y ⟨x1, x2, x3⟩) = true)) (fun i _ => W.length - (intOf i).toNat)
      case atStart => exact ⟨0, by omega, rfl, HBp.out, Lib.hid fun j y h => by omega⟩
      case round =>
        obtain ⟨k, hk, rfl, hb, HI2⟩ := hrel
        have HB2 := Lib.hid hb
        have HB2z : Hid (w.heap.size + 2 ≤ wr.heap.size) := Lib.hid (by have := hb.size; have := HSZ.out; omega)
        have HBW : Hid (Below w.heap.size w wr) := Lib.hid (HAL.out.trans (hb.mono (by omega)))
        obtain ⟨⟨t0, t1, tz⟩, x0', x1', x2', xz'⟩ := HK.out _ hb
        clear hb
        by_cases hlt : k < W.length
        · obtain ⟨y, hy⟩ : ∃ y, W[k]? = some y := ⟨_, List.getElem?_eq_getElem hlt⟩
          obtain ⟨b0, off, rfl, hbb, hcc⟩ := (HS2.out.below HBW.out).item encR_len (by omega) k y hy
          have HCE : Hid (∀ z, Below wr.heap.size wr z → z.cell? ⟨b0, off + k * 3, none⟩ = some (.int .i64 y.tx) ∧ z.cell? ⟨b0, off + k * 3 + 1, none⟩ = some (.int .i64 y.key) ∧ z.cell? ⟨b0, off + k * 3 + 2, none⟩ = some (.bool y.b)) := Lib.hid fun z hz => by
            have hlo : b0 < wr.heap.size := Nat.lt_of_lt_of_le hbb HBW.out.size
            have h0 := (hz.cell hlo).trans (hcc 0 _ rfl)
            exact ⟨h0, (hz.cell hlo).trans (hcc 1 _ rfl), (hz.cell hlo).trans (hcc 2 _ rfl)⟩
          have i1 : (k : Int) < (W.length : Int) := by omega
          have HTG := Lib.hid (fun z => rtog_any y ⟨x1, x2, x3⟩ z)
          have HY := Lib.hid hy
          have HTY : Hid (togR y ⟨x1, x2, x3⟩ = togR y ⟨x1, x2, x3⟩) := Lib.hid rfl
          clear hcc hy hbb
          by_cases hkey : y.key = x2
          · have e1 : (y.key == x2) = true := by simpa using hkey
            by_cases htx : y.tx < x1
            · cases htg : togR y ⟨x1, x2, x3⟩ with
              | false =>
                have HV := Lib.hid (HF2.out y k HY.out (by (try dsimp only); rw [e1, htg, decide_eq_true htx]; rfl))
                rw [htg] at HTG
                obtain ⟨y1, y2, y3⟩ := y
                dsimp only at *
                clear HY HTY HF1 HF2 HTR htg hkey
                obtain ⟨C, hC, HCc, HCf⟩ := below_class wr
                go_wp2_with fail
                refine region_in C hC (by kernel_rfl) (by kernel_rfl) ?_
                iterate 30
                  (refine WQ.step (fun K hK => ?_)
                   go_simp
                   first
                     | (refine hK _ ?_; clear hK K)
                     | (apply Exists.intro
                        refine ⟨fun z hz => ?_, hK _ ?_⟩
                        · first
                            | rfl
                            | (go_at_call 23; refine (HTG.out z).mono ?_; rintro e z2 ⟨rfl, hb⟩; exact ⟨rfl, HCc.out _ _ hz hb⟩)
                            | (obtain ⟨p0, p1, p2⟩ := HCE.out z (HCf.out _ hz)
                               obtain ⟨⟨t0, t1, tz⟩, x0', x1', x2', xz'⟩ := HK.out z (HB2.out.trans ((HCf.out _ hz).mono HB2z.out))
                               go_simp
                               rfl)
                        clear hK K))
                refine WQ.nil ?_
                intro wn hw
                have HBN := Lib.hid (HB2.out.trans ((HCf.out _ hw).mono HB2z.out))
                clear hw hC HCc HCf C
                go_wp2_with fail
                go_ret
                exact ⟨by rw [HV.out]; rfl, HAL.out.trans (HBN.out.mono (by omega))⟩
              | true =>
                have HN := Lib.hid (next_all (p := fun y => (!(y.key == x2 && decide (y.tx < x1)) || togR y ⟨x1, x2, x3⟩)) HI2.out HY.out (by (try dsimp only); rw [htg]; simp))
                rw [htg] at HTG
                obtain ⟨y1, y2, y3⟩ := y
                dsimp only at *
                clear HY HTY htg hkey
                obtain ⟨C, hC, HCc, HCf⟩ := below_class wr
                go_wp2_with fail
                refine region_in C hC (by kernel_rfl) (by kernel_rfl) ?_
                iterate 30
                  (refine WQ.step (fun K hK => ?_)
                   go_simp
                   first
                     | (refine hK _ ?_; clear hK K)
                     | (apply Exists.intro
                        refine ⟨fun z hz => ?_, hK _ ?_⟩
                        · first
                            | rfl
                            | (go_at_call 23; refine (HTG.out z).mono ?_; rintro e z2 ⟨rfl, hb⟩; exact ⟨rfl, HCc.out _ _ hz hb⟩)
                            | (obtain ⟨p0, p1, p2⟩ := HCE.out z (HCf.out _ hz)
                               obtain ⟨⟨t0, t1, tz⟩, x0', x1', x2', xz'⟩ := HK.out z (HB2.out.trans ((HCf.out _ hz).mono HB2z.out))
                               go_simp
                               rfl)
                        clear hK K))
                refine WQ.nil ?_
                intro wn hw
                have HBN := Lib.hid (HB2.out.trans ((HCf.out _ hw).mono HB2z.out))
                clear hw hC HCc HCf C
                go_wp2_with fail
                go_roundw
                case rel => exact ⟨k + 1, by omega, by go_num, HBN.out, HN.out⟩
                case measure => simp [intOf]; omega
            · have HN := Lib.hid (next_all (p := fun y => (!(y.key == x2 && decide (y.tx < x1)) || togR y ⟨x1, x2, x3⟩)) HI2.out HY.out (by (try dsimp only); rw [decide_eq_false htx]; simp))
              have htx2 : (y.tx < x1) = False := eq_false htx
              obtain ⟨y1, y2, y3⟩ := y
              dsimp only at *
              clear HY HTY hkey htx
              obtain ⟨C, hC, HCc, HCf⟩ := below_class wr
              go_wp2_with fail
              refine region_in C hC (by kernel_rfl) (by kernel_rfl) ?_
              iterate 30
                (refine WQ.step (fun K hK => ?_)
                 go_simp
                 first
                   | (refine hK _ ?_; clear hK K)
                   | (apply Exists.intro
                      refine ⟨fun z hz => ?_, hK _ ?_⟩
                      · first
                          | rfl
                          | (go_at_call 23; refine (HTG.out z).mono ?_; rintro e z2 ⟨rfl, hb⟩; exact ⟨rfl, HCc.out _ _ hz hb⟩)
                          | (obtain ⟨p0, p1, p2⟩ := HCE.out z (HCf.out _ hz)
                             obtain ⟨⟨t0, t1, tz⟩, x0', x1', x2', xz'⟩ := HK.out z (HB2.out.trans ((HCf.out _ hz).mono HB2z.out))
                             go_simp
                             rfl)
                      clear hK K))
              refine WQ.nil ?_
              intro wn hw
              have HBN := Lib.hid (HB2.out.trans ((HCf.out _ hw).mono HB2z.out))
              clear hw hC HCc HCf C
              go_wp2_with fail
              go_roundw
              case rel => exact ⟨k + 1, by omega, by go_num, HBN.out, HN.out⟩
              case measure => simp [intOf]; omega
          · have e1 : (y.key == x2) = false := by simpa using hkey
            have HN := Lib.hid (next_all (p := fun y => (!(y.key == x2 && decide (y.tx < x1)) || togR y ⟨x1, x2, x3⟩)) HI2.out HY.out (by (try dsimp only); rw [e1]; rfl))
            obtain ⟨y1, y2, y3⟩ := y
            dsimp only at *
            clear HY HTY hkey
            obtain ⟨C, hC, HCc, HCf⟩ := below_class wr
            go_wp2_with fail
            refine region_in C hC (by kernel_rfl) (by kernel_rfl) ?_
            iterate 30
              (refine WQ.step (fun K hK => ?_)
               go_simp
               first
                 | (refine hK _ ?_; clear hK K)
                 | (apply Exists.intro
                    refine ⟨fun z hz => ?_, hK _ ?_⟩
                    · first
                        | rfl
                        | (go_at_call 23; refine (HTG.out z).mono ?_; rintro e z2 ⟨rfl, hb⟩; exact ⟨rfl, HCc.out _ _ hz hb⟩)
                        | (obtain ⟨p0, p1, p2⟩ := HCE.out z (HCf.out _ hz)
                           obtain ⟨⟨t0, t1, tz⟩, x0', x1', x2', xz'⟩ := HK.out z (HB2.out.trans ((HCf.out _ hz).mono HB2z.out))
                           go_simp
                           rfl)
                    clear hK K))
            refine WQ.nil ?_
            intro wn hw
            have HBN := Lib.hid (HB2.out.trans ((HCf.out _ hw).mono HB2z.out))
            clear hw hC HCc HCf C
            go_wp2_with fail
            go_roundw
            case rel => exact ⟨k + 1, by omega, by go_num, HBN.out, HN.out⟩
            case measure => simp [intOf]; omega
        · obtain rfl : k = W.length := by omega
          have i1 : ¬ (W.length : Int) < (W.length : Int) := by omega
          have HV := Lib.hid (HTR.out HI1.out HI2.out)
          have HBWf := Lib.hid HBW.out
          go_wp2_with fail
          go_ret
          exact ⟨by rw [HV.out]; rfl, HBWf.out⟩
end Go.Proofs.Ytcjefigcaifmeaa
