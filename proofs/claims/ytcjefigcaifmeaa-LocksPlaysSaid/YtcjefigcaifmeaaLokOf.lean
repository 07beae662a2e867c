/- Locks: the document's Of, in memory. -/
import Derived.Test.YtcjefigcaifmeaaLokK
namespace Go.Proofs.Ytcjefigcaifmeaa
open Go.ChangeShapes Go.WideShapes Go.ChangeAt Go.RowKit Go.Lk
set_option linter.unusedVariables false
set_option linter.unusedSimpArgs false
set_option maxRecDepth 100000
def ofR (l : List Rw) (k : Int) : List (Int × Bool) := (l.filter fun y => y.key == k).map fun y => (y.tx, y.b)
theorem of_next {l : List Rw} {c : Nat} {y : Rw} (h : l[c]? = some y) (k : Int) : ofR (l.take (c + 1)) k = ofR (l.take c) k ++ if y.key == k then [(y.tx, y.b)] else [] := by
  have hl := List.getElem?_eq_some_iff.1 h
  rw [List.take_succ_eq_append_getElem hl.1, hl.2]
  unfold ofR
  rw [List.filter_append, List.map_append, List.filter_cons, List.filter_nil]
  split <;> simp
def encP (p : Int × Bool) : List Value := [.int .i64 p.1, .bool p.2]
theorem encP_len (p : Int × Bool) : (encP p).length = 2 := rfl
theorem flat_encP_one (l : List (Int × Bool)) : ∀ u ∈ flat encP l, u.oneCell' = true := by
  intro u hu
  unfold flat at hu
  obtain ⟨a, _, hu⟩ := List.mem_flatMap.1 hu
  simp only [encP, List.mem_cons, List.not_mem_nil, or_false] at hu
  rcases hu with rfl | rfl <;> rfl
theorem flat_rowOf (f : Lk.Fn) : flat encP (rowOf f) = flat (encH (fl f)) (supp f) := by
  unfold flat rowOf encP encH fl
  rw [List.flatMap_map]
theorem sees_pair (w : World) (g : Nat) (hg : g = w.heap.size) (a : Int) (b : Bool) : Sees (w.alloc (.cells #[.int .i64 a, .bool b] 60)) (g + 1) 2 (some ⟨g, 0, none⟩) 1 (flat encP [(a, b)]) := by
  subst hg
  refine ⟨rfl, fun _ => ⟨w.heap.size, 0, rfl, by omega, fun j u hu => ?_⟩⟩
  rw [Nat.zero_add, (Whole.fresh w _ _).cell j, ← Array.getElem?_toList]
  exact hu
/-- Round a drawn 'out = append(out, Hold{..})': the new item's block is made (a), and the row has it (b). -/
structure Og (w y : World) (us : List (Int × Bool)) (q : Int × Bool) (v0 : Value) (p : Nat) (v : Value) (a b : Bool) : Prop where
  bel : Below w.heap.size w y
  old : b = false → y.ownsRow w.heap.size 60 2 v0 us.length (flat encP us)
  mka : a = true → b = false → Sees y (p + 1) 2 (some ⟨p, 0, none⟩) 1 (flat encP [q])
  fin : b = true → y.ownsRow w.heap.size 60 2 v (us.length + 1) (flat encP us ++ flat encP [q])
  ord : b = true → a = true
section
variable {w y y' : World} {us : List (Int × Bool)} {q : Int × Bool} {v0 v : Value} {p : Nat} {a b : Bool}
theorem Og.make {x1 : Int} {x2 : Bool} (h : Og w y us (x1, x2) v0 p v false b) : Og w (y.alloc (.cells #[.int .i64 x1, .bool x2] 60)) us (x1, x2) v0 y.heap.size v true b := by
  have hb : b = false := by cases b with
    | false => rfl
    | true => cases h.ord rfl
  subst hb
  exact ⟨h.bel.alloc h.bel.size _, fun e => own_keep (h.old rfl) ((Below.refl _ _).alloc (Nat.le_refl _) _) (Nat.le_refl _), fun _ _ => sees_pair y _ rfl x1 x2, fun e => (by cases e), fun e => by cases e⟩
theorem Og.append (h : Og w y us q v0 p v true false) {v' : Value} (ho : y'.ownsRow w.heap.size 60 2 v' (us.length + 1) (flat encP us ++ flat encP [q])) (hg : y.grownBy y' v0.ownBlock) : Og w y' us q v0 p v' true true :=
  ⟨h.bel.grown hg h.bel.size fun k hk => ((h.old rfl).lt k hk).1, fun e => (by cases e), fun _ e => (by cases e), fun _ => ho, fun _ => rfl⟩
end
set_option maxHeartbeats 2000000 in
theorem rof_any (A : Option Addr) (cap : Nat) (l : List Rw) (x : Int) (w : World) (hs : Sees w w.heap.size 3 A l.length (flat encR l)) (hl : l.length ≤ 100000) :
    Calls Try.prog 28 #[.slice A l.length cap, .int .i64 x] w fun e w' => ∃ v', e = .returned v' ∧ w'.ownsRow w.heap.size 60 2 v' (ofR l x).length (flat encP (ofR l x)) ∧ Below w.heap.size w w' := by
  have HS := Lib.hid hs
  have HALL : Hid (ofR (l.take l.length) x = ofR l x) := Lib.hid (by rw [List.take_length])
  clear hs
  go_enter Try.func28, Try.ntmps28
  go_wp2_with fail
  go_loopw [5, 6] (fun o j wr => ∃ c : Nat, c ≤ l.length ∧ j = .int .i64 (c : Int) ∧ wr.ownsRow w.heap.size 60 2 o (ofR (l.take c) x).length (flat encP (ofR (l.take c) x)) ∧ Below w.heap.size w wr) (fun _ j _ => l.length - (intOf j).toNat)
  case atStart => exact ⟨0, by omega, rfl, by simpa [ofR, flat] using own_empty w 60 2, (Below.refl _ _).alloc (Nat.le_refl _) _⟩
  case round =>
    obtain ⟨c, hc, rfl, ho, hb⟩ := hrel
    have HO := Lib.hid ho
    have HB := Lib.hid hb
    have hbs := hb.size
    have hwl : (ofR (l.take c) x).length ≤ 100000 := by unfold ofR; rw [List.length_map]; exact Nat.le_trans (List.length_filter_le _ _) (by simp; omega)
    clear ho hb
    by_cases hlt : c < l.length
    · obtain ⟨y, hy⟩ : ∃ y, l[c]? = some y := ⟨_, List.getElem?_eq_getElem hlt⟩
      obtain ⟨b0, off, rfl, hbb, hcc⟩ := (HS.out.below HB.out).item encR_len (by omega) c y hy
      have HCE : Hid (∀ z, Below w.heap.size w z → z.cell? ⟨b0, off + c * 3, none⟩ = some (.int .i64 y.tx) ∧ z.cell? ⟨b0, off + c * 3 + 1, none⟩ = some (.int .i64 y.key) ∧ z.cell? ⟨b0, off + c * 3 + 2, none⟩ = some (.bool y.b)) := Lib.hid fun z hz => by
        obtain ⟨b9, off9, hA9, -, hc9⟩ := (HS.out.below hz).item encR_len (by omega) c y hy
        injection hA9 with hA9
        injection hA9 with hA9 hA10
        subst hA9 hA10
        have h0 := hc9 0 _ rfl
        exact ⟨h0, hc9 1 _ rfl, hc9 2 _ rfl⟩
      have q0 := hcc 0 _ rfl
      have q1 := hcc 1 _ rfl
      have q2 := hcc 2 _ rfl
      rw [Nat.add_zero] at q0
      have i1 : (c : Int) < (l.length : Int) := by omega
      have HW := Lib.hid (of_next hy x)
      obtain ⟨y1, y2, y3⟩ := y
      dsimp only at *
      by_cases hci : y2 = x
      · have hne2 : (y2 == x) = true := by simpa using hci
        have HW2 : Hid (ofR (l.take (c + 1)) x = ofR (l.take c) x ++ [(y1, y3)]) := Lib.hid (by have := HW.out; rw [if_pos hne2] at this; exact this)
        obtain ⟨A5, cap5, hv5, -, -, -⟩ := own_slice0 HO.out
        subst hv5
        clear hcc hy hbb HW hci
        generalize hwn : ofR (l.take c) x = us at *
        have HWN := Lib.hid hwn
        clear hwn
        go_wp2_with fail
        refine Iv.region (fun f aa y => ∃ p v, aa = ⟨#[.slice (some ⟨b0, off, none⟩) l.length cap, .int .i64 x, undef, undef, .slice none 0 0, so (f 14) (v) (.slice A5 us.length cap5), .int .i64 (c : Int), .slice (some ⟨w.heap.size, 0, none⟩) 0 0, .int .i64 (c : Int), .slice (some ⟨b0, off, none⟩) l.length cap, .int .i64 (l.length : Int), .bool true, u12, u13, .slice (some ⟨b0, off, none⟩) l.length cap, .int .i64 (c : Int), .pointer (some ⟨b0, off + c * 3, none⟩), .pointer (some ⟨b0, off + c * 3 + 1, none⟩), .int .i64 y2, .int .i64 x, .bool true, so (f 0) (.slice A5 us.length cap5) u21, so (f 1) (.slice (some ⟨b0, off, none⟩) l.length cap) u22, so (f 2) (.int .i64 (c : Int)) u23, so (f 3) (.pointer (some ⟨b0, off + c * 3, none⟩)) u24, so (f 4) (.pointer (some ⟨b0, off + c * 3, none⟩)) u25, so (f 5) (.int .i64 y1) u26, so (f 6) (.slice (some ⟨b0, off, none⟩) l.length cap) u27, so (f 7) (.int .i64 (c : Int)) u28, so (f 8) (.pointer (some ⟨b0, off + c * 3, none⟩)) u29, so (f 9) (.pointer (some ⟨b0, off + c * 3 + 2, none⟩)) u30, so (f 10) (.bool y3) u31, so (f 11) (.agg #[.int .i64 y1, .bool y3]) u32, so (f 12) (.slice (some ⟨p, 0, none⟩) 1 1) u33, so (f 13) (v) u34, undef], []⟩ ∧ Og w y us (y1, y3) (.slice A5 us.length cap5) p v (f 12) (f 13) ∧ (f 13 = true → f 0 = true) ∧ (f 14 = true → f 13 = true)) (by kernel_rfl) (by kernel_rfl) ?_ ?_ ?_
        · exact ⟨0, undef, rfl, ⟨HB.out.trans ((drew_below wr 1).mono hbs), fun _ => own_keep HO.out (drew_below wr 1) (Nat.le_refl _), fun h => (by cases h), fun h => (by cases h), fun h => by cases h⟩, (fun h => by cases h), fun h => by cases h⟩
        · refine ⟨?_, ?_, ?_, ?_, ?_, ?_, ?_, ?_, ?_, ?_, ?_, ?_, ?_, ?_, ?_, trivial⟩
          · rintro f a0 y Q' ⟨p, v, rfl, hw⟩ hi hd hQ
            replace hQ := Lib.hid hQ
            simp [Iv.depsB, Region.binds] at hd
            try simp only [hi, hd, sl_true, sl_false, so_true, so_false]
            try simp only [hi, sl_true, sl_false, so_true, so_false]
            have e14 : f 14 = false := by
              cases e : f 14 with
              | false => rfl
              | true => have h7 := hw.2.1 (hw.2.2 e); rw [hi] at h7; cases h7
            go_wp2_with fail
            refine hQ.out _ _ ⟨p, v, ?_, ?_⟩
            · simp [Iv.upd, hi, hd, sl_true, sl_false, so_true, so_false, e14]
            · simpa [Iv.upd, hi, hd, e14] using hw.1
          · rintro f a0 y Q' ⟨p, v, rfl, hw⟩ hi hd hQ
            replace hQ := Lib.hid hQ
            simp [Iv.depsB, Region.binds] at hd
            try simp only [hi, hd, sl_true, sl_false, so_true, so_false]
            try simp only [hi, sl_true, sl_false, so_true, so_false]
            go_wp2_with fail
            refine hQ.out _ _ ⟨p, v, ?_, ?_⟩
            · simp [Iv.upd, hi, hd, sl_true, sl_false, so_true, so_false]
            · simpa [Iv.upd, hi, hd] using hw
          · rintro f a0 y Q' ⟨p, v, rfl, hw⟩ hi hd hQ
            replace hQ := Lib.hid hQ
            simp [Iv.depsB, Region.binds] at hd
            try simp only [hi, hd, sl_true, sl_false, so_true, so_false]
            try simp only [hi, sl_true, sl_false, so_true, so_false]
            go_wp2_with fail
            refine hQ.out _ _ ⟨p, v, ?_, ?_⟩
            · simp [Iv.upd, hi, hd, sl_true, sl_false, so_true, so_false]
            · simpa [Iv.upd, hi, hd] using hw
          · rintro f a0 y Q' ⟨p, v, rfl, hw⟩ hi hd hQ
            replace hQ := Lib.hid hQ
            simp [Iv.depsB, Region.binds] at hd
            try simp only [hi, hd, sl_true, sl_false, so_true, so_false]
            try simp only [hi, sl_true, sl_false, so_true, so_false]
            go_wp2_with fail
            refine hQ.out _ _ ⟨p, v, ?_, ?_⟩
            · simp [Iv.upd, hi, hd, sl_true, sl_false, so_true, so_false]
            · simpa [Iv.upd, hi, hd] using hw
          · rintro f a0 y Q' ⟨p, v, rfl, hw⟩ hi hd hQ
            replace hQ := Lib.hid hQ
            simp [Iv.depsB, Region.binds] at hd
            try simp only [hi, hd, sl_true, sl_false, so_true, so_false]
            try simp only [hi, sl_true, sl_false, so_true, so_false]
            go_wp2_with fail
            refine hQ.out _ _ ⟨p, v, ?_, ?_⟩
            · simp [Iv.upd, hi, hd, sl_true, sl_false, so_true, so_false]
            · simpa [Iv.upd, hi, hd] using hw
          · rintro f a0 y Q' ⟨p, v, rfl, hw⟩ hi hd hQ
            replace hQ := Lib.hid hQ
            simp [Iv.depsB, Region.binds] at hd
            try simp only [hi, hd, sl_true, sl_false, so_true, so_false]
            try simp only [hi, sl_true, sl_false, so_true, so_false]
            obtain ⟨p0, p1, p2⟩ := HCE.out y hw.1.bel
            go_wp2_with fail
            refine hQ.out _ _ ⟨p, v, ?_, ?_⟩
            · simp [Iv.upd, hi, hd, sl_true, sl_false, so_true, so_false]
            · simpa [Iv.upd, hi, hd] using hw
          · rintro f a0 y Q' ⟨p, v, rfl, hw⟩ hi hd hQ
            replace hQ := Lib.hid hQ
            simp [Iv.depsB, Region.binds] at hd
            try simp only [hi, hd, sl_true, sl_false, so_true, so_false]
            try simp only [hi, sl_true, sl_false, so_true, so_false]
            go_wp2_with fail
            refine hQ.out _ _ ⟨p, v, ?_, ?_⟩
            · simp [Iv.upd, hi, hd, sl_true, sl_false, so_true, so_false]
            · simpa [Iv.upd, hi, hd] using hw
          · rintro f a0 y Q' ⟨p, v, rfl, hw⟩ hi hd hQ
            replace hQ := Lib.hid hQ
            simp [Iv.depsB, Region.binds] at hd
            try simp only [hi, hd, sl_true, sl_false, so_true, so_false]
            try simp only [hi, sl_true, sl_false, so_true, so_false]
            go_wp2_with fail
            refine hQ.out _ _ ⟨p, v, ?_, ?_⟩
            · simp [Iv.upd, hi, hd, sl_true, sl_false, so_true, so_false]
            · simpa [Iv.upd, hi, hd] using hw
          · rintro f a0 y Q' ⟨p, v, rfl, hw⟩ hi hd hQ
            replace hQ := Lib.hid hQ
            simp [Iv.depsB, Region.binds] at hd
            try simp only [hi, hd, sl_true, sl_false, so_true, so_false]
            try simp only [hi, sl_true, sl_false, so_true, so_false]
            go_wp2_with fail
            refine hQ.out _ _ ⟨p, v, ?_, ?_⟩
            · simp [Iv.upd, hi, hd, sl_true, sl_false, so_true, so_false]
            · simpa [Iv.upd, hi, hd] using hw
          · rintro f a0 y Q' ⟨p, v, rfl, hw⟩ hi hd hQ
            replace hQ := Lib.hid hQ
            simp [Iv.depsB, Region.binds] at hd
            try simp only [hi, hd, sl_true, sl_false, so_true, so_false]
            try simp only [hi, sl_true, sl_false, so_true, so_false]
            go_wp2_with fail
            refine hQ.out _ _ ⟨p, v, ?_, ?_⟩
            · simp [Iv.upd, hi, hd, sl_true, sl_false, so_true, so_false]
            · simpa [Iv.upd, hi, hd] using hw
          · rintro f a0 y Q' ⟨p, v, rfl, hw⟩ hi hd hQ
            replace hQ := Lib.hid hQ
            simp [Iv.depsB, Region.binds] at hd
            try simp only [hi, hd, sl_true, sl_false, so_true, so_false]
            try simp only [hi, sl_true, sl_false, so_true, so_false]
            obtain ⟨p0, p1, p2⟩ := HCE.out y hw.1.bel
            go_wp2_with fail
            refine hQ.out _ _ ⟨p, v, ?_, ?_⟩
            · simp [Iv.upd, hi, hd, sl_true, sl_false, so_true, so_false]
            · simpa [Iv.upd, hi, hd] using hw
          · rintro f a0 y Q' ⟨p, v, rfl, hw⟩ hi hd hQ
            replace hQ := Lib.hid hQ
            simp [Iv.depsB, Region.binds] at hd
            try simp only [hi, hd, sl_true, sl_false, so_true, so_false]
            try simp only [hi, sl_true, sl_false, so_true, so_false]
            go_wp2_with fail
            refine hQ.out _ _ ⟨p, v, ?_, ?_⟩
            · simp [Iv.upd, hi, hd, sl_true, sl_false, so_true, so_false]
            · simpa [Iv.upd, hi, hd] using hw
          · rintro f a0 y Q' ⟨p, v, rfl, hw⟩ hi hd hQ
            replace hQ := Lib.hid hQ
            simp [Iv.depsB, Region.binds] at hd
            try simp only [hi, hd, sl_true, sl_false, so_true, so_false]
            try simp only [hi, sl_true, sl_false, so_true, so_false]
            have e13 : f 13 = false := by
              cases e : f 13 with
              | false => rfl
              | true => have h7 := hw.1.ord e; rw [hi] at h7; cases h7
            have HQW := Lib.hid hw.1
            have HQI := Lib.hid hw.2
            rw [hi, e13] at HQW
            clear hw
            try simp only [e13, so_true, so_false]
            go_wp2_with fail
            have HN := Lib.hid (show _ ∧ _ from ⟨HQW.out.make, HQI.out⟩)
            refine hQ.out _ _ ⟨y.heap.size, v, ?_, ?_⟩
            · simp [Iv.upd, hi, hd, sl_true, sl_false, so_true, so_false, e13]
            · simpa [Iv.upd, hi, hd, e13] using HN.out
          · rintro f a0 y Q' ⟨p, v, rfl, hw⟩ hi hd hQ
            replace hQ := Lib.hid hQ
            simp [Iv.depsB, Region.binds] at hd
            try simp only [hi, hd, sl_true, sl_false, so_true, so_false]
            try simp only [hi, sl_true, sl_false, so_true, so_false]
            have e0 : f 0 = true := by simp [hd]
            have e12 : f 12 = true := by simp [hd]
            have e14 : f 14 = false := by
              cases e : f 14 with
              | false => rfl
              | true => have h7 := hw.2.2 e; rw [hi] at h7; cases h7
            have HQW := Lib.hid hw.1
            have HQI := Lib.hid hw.2
            rw [hi, e12] at HQW
            clear hw
            try simp only [e0, e12, e14, so_true, so_false]
            refine wpList_appG rfl (.tmp 21) (.tmp 33) _ 60 _ 2 16 rfl info_hold Try.underlying54 rfl (by decide) w.heap.size (.slice A5 us.length cap5) us.length (flat encP us) (by rfl) (HQW.out.old rfl) (p + 1) _ 1 1 (flat encP [(y1, y3)]) (by rfl) (HQW.out.mka rfl rfl) (fun h => by cases h) (flat_encP_one _) (by omega) (by omega) HQW.out.bel.size ?_
            intro v7 w7 ho7 hg7
            have HN := Lib.hid (show _ ∧ _ from ⟨HQW.out.append ho7 hg7, HQI.out⟩)
            clear ho7 hg7
            go_wp2_with fail
            refine hQ.out _ _ ⟨p, v7, ?_, ?_⟩
            · simp [Iv.upd, hi, hd, sl_true, sl_false, so_true, so_false, e0, e12, e14]
            · simpa [Iv.upd, hi, hd, e0, e12, e14] using HN.out
          · rintro f a0 y Q' ⟨p, v, rfl, hw⟩ hi hd hQ
            replace hQ := Lib.hid hQ
            simp [Iv.depsB, Region.binds] at hd
            try simp only [hi, hd, sl_true, sl_false, so_true, so_false]
            try simp only [hi, sl_true, sl_false, so_true, so_false]
            have e13 : f 13 = true := by simp [hd]
            go_wp2_with fail
            refine hQ.out _ _ ⟨p, v, ?_, ?_⟩
            · simp [Iv.upd, hi, hd, sl_true, sl_false, so_true, so_false, e13]
            · simpa [Iv.upd, hi, hd, e13] using hw
        · rintro f a0 w7 ⟨p, v, rfl, hw⟩ hall
          simp only [hall 0 (by decide), hall 1 (by decide), hall 2 (by decide), hall 3 (by decide), hall 4 (by decide), hall 5 (by decide), hall 6 (by decide), hall 7 (by decide), hall 8 (by decide), hall 9 (by decide), hall 10 (by decide), hall 11 (by decide), hall 12 (by decide), hall 13 (by decide), hall 14 (by decide), sl_true, ↓reduceIte, so_true, so_false] at hw ⊢
          clear hall
          have HO7 := Lib.hid (hw.1.fin rfl)
          have HB7 := Lib.hid hw.1.bel
          clear hw
          go_wp2_with fail
          go_roundw
          case rel => exact ⟨c + 1, by omega, by simp, by rw [HW2.out, List.length_append, flat_append]; exact HO7.out, HB7.out⟩
          case measure => simp [intOf]; omega
      · have hne2 : (y2 == x) = false := by simpa using hci
        have HW2 : Hid (ofR (l.take (c + 1)) x = ofR (l.take c) x) := Lib.hid (by have := HW.out; rw [if_neg (by rw [hne2]; simp), List.append_nil] at this; exact this)
        clear hcc hy hbb HW hci
        go_wp2_with fail
        go_roundw
        case rel => exact ⟨c + 1, by omega, by simp, by rw [HW2.out]; exact HO.out, HB.out⟩
        case measure => simp [intOf]; omega
    · have hce : c = l.length := by omega
      subst hce
      go_wp2_with fail
      go_ret
      exact ⟨_, rfl, by rw [← HALL.out]; exact HO.out, HB.out⟩
end Go.Proofs.Ytcjefigcaifmeaa
