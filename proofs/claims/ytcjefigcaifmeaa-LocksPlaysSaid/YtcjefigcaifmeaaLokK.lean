/- Locks: the document's Together, without and In, in memory. -/
import Derived.Test.YtcjefigcaifmeaaLokSm
import Derived.Test.YtcjefigcaifmeaaLokJc
namespace Go.Proofs.Ytcjefigcaifmeaa
open Go.ChangeShapes Go.WideShapes Go.ChangeAt Go.RowKit Go.Lk
set_option linter.unusedVariables false
set_option linter.unusedSimpArgs false
set_option maxRecDepth 100000
def encR (y : Rw) : List Value := [.int .i64 y.tx, .int .i64 y.key, .bool y.b]
abbrev aggR (y : Rw) : Value := .agg #[.int .i64 y.tx, .int .i64 y.key, .bool y.b]
theorem encR_len (y : Rw) : (encR y).length = 3 := rfl
theorem flat_encR_one (l : List Rw) : ∀ u ∈ flat encR l, u.oneCell' = true := by
  intro u hu
  unfold flat at hu
  obtain ⟨a, _, hu⟩ := List.mem_flatMap.1 hu
  simp only [encR, List.mem_cons, List.not_mem_nil, or_false] at hu
  rcases hu with rfl | rfl | rfl <;> rfl
theorem info_row : (Try.prog.info? 74).map (fun i => (i.zero, i.size, i.bytes)) = some (some (.agg #[.int .i64 0, .int .i64 0, .bool false]), 3, 24) := by kernel_rfl
theorem sees_row (w : World) (g : Nat) (hg : g = w.heap.size) (y : Rw) : Sees (w.alloc (.cells #[.int .i64 y.tx, .int .i64 y.key, .bool y.b] 74)) (g + 1) 3 (some ⟨g, 0, none⟩) 1 (flat encR [y]) := by
  subst hg
  refine ⟨rfl, fun _ => ⟨w.heap.size, 0, rfl, by omega, fun j u hu => ?_⟩⟩
  rw [Nat.zero_add, (Whole.fresh w _ _).cell j, ← Array.getElem?_toList]
  exact hu
set_option maxHeartbeats 1000000 in
theorem rtog_any (a b : Rw) (w : World) : Calls Try.prog 23 #[aggR a, aggR b] w fun e w' => e = .returned (.bool (togR a b)) ∧ Below w.heap.size w w' := by
  have HT : Hid (togR a b = (a.tx == b.tx || (!a.b && !b.b))) := Lib.hid rfl
  have hb2 := ((Below.refl w.heap.size w).alloc (Nat.le_refl _) (.cells #[.int .i64 a.tx, .int .i64 a.key, .bool a.b] 74)).alloc (by simp) (.cells #[.int .i64 b.tx, .int .i64 b.key, .bool b.b] 74)
  have HB := Lib.hid hb2
  clear hb2
  rw [HT.out]
  obtain ⟨a1, a2, a3⟩ := a
  obtain ⟨b1, b2, b3⟩ := b
  dsimp only at *
  by_cases h1 : a1 = b1
  · subst h1
    have e1 : (a1 == a1) = true := by simp
    rw [e1]
    go_enter Try.func23, Try.ntmps23
    go_wp2_with fail
    go_ret
    exact ⟨rfl, HB.out⟩
  · have e1 : (a1 == b1) = false := by simpa using h1
    rw [e1]
    cases a3 <;> cases b3 <;>
    · go_enter Try.func23, Try.ntmps23
      go_wp2_with fail
      go_ret
      exact ⟨rfl, HB.out⟩
set_option maxHeartbeats 2000000 in
theorem rin_any (A : Option Addr) (cap : Nat) (l : List Int) (x : Int) (w : World) (hs : Sees w w.heap.size 1 A l.length (flat encN l)) (hl : l.length ≤ 100000) :
    Calls Try.prog 14 #[.slice A l.length cap, .int .i64 x] w fun e w' => e = .returned (.bool (decide (x ∈ l))) ∧ Below w.heap.size w w' := by
  have HS := Lib.hid hs
  clear hs
  have HD : Hid (∀ c, (∀ j y, j < c → l[j]? = some y → y ≠ x) → c = l.length → decide (x ∈ l) = false) := Lib.hid fun c h hc => by
    rw [decide_eq_false_iff_not]
    intro hx
    obtain ⟨j, hj⟩ := List.mem_iff_getElem?.1 hx
    exact h j x (by have := (List.getElem?_eq_some_iff.1 hj).1; omega) hj rfl
  have HE : Hid (∀ c, l[c]? = some x → decide (x ∈ l) = true) := Lib.hid fun c h => decide_eq_true (List.mem_of_getElem? h)
  go_enter Try.func14, Try.ntmps14
  go_wp2_with fail
  go_loopw [5] (fun i wr => ∃ c : Nat, c ≤ l.length ∧ i = .int .i64 (c : Int) ∧ Below w.heap.size w wr ∧ Hid (∀ j y, j < c → l[j]? = some y → y ≠ x)) (fun i _ => l.length - (intOf i).toNat)
  case atStart => exact ⟨0, by omega, rfl, Below.refl _ _, Lib.hid fun j y h => by omega⟩
  case round =>
    obtain ⟨c, hc, rfl, hb, HI⟩ := hrel
    have HB := Lib.hid hb
    clear hb
    by_cases hlt : c < l.length
    · obtain ⟨y, hy⟩ : ∃ y, l[c]? = some y := ⟨_, List.getElem?_eq_getElem hlt⟩
      obtain ⟨b0, off, rfl, hbb, hcc⟩ := (HS.out.below HB.out).item encN_len (by omega) c y hy
      have q0 := hcc 0 _ rfl
      rw [Nat.add_zero, Nat.mul_one] at q0
      have i1 : (c : Int) < (l.length : Int) := by omega
      by_cases e : y = x
      · subst e
        have HT := Lib.hid (HE.out c hy)
        clear hcc hy hbb
        go_wp2_with fail
        go_ret
        rw [HT.out]
        exact ⟨rfl, HB.out⟩
      · have e1 : (y == x) = false := by simpa using e
        have HI2 : Hid (∀ j y, j < c + 1 → l[j]? = some y → y ≠ x) := Lib.hid fun j z hj hz => by
          rcases Nat.lt_or_ge j c with h | h
          · exact HI.out j z h hz
          · obtain rfl : j = c := by omega
            rw [hy] at hz
            injection hz with hz
            rw [← hz]; exact e
        clear hcc hy hbb e
        go_wp2_with fail
        go_roundw
        case rel => exact ⟨c + 1, by omega, by go_num, HB.out, HI2⟩
        case measure => simp [intOf]; omega
    · have hce : c = l.length := by omega
      have HF := Lib.hid (HD.out c HI.out hce)
      subst hce
      go_wp2_with fail
      go_ret
      rw [HF.out]
      exact ⟨rfl, HB.out⟩
theorem without_next {l : List Rw} {c : Nat} {y : Rw} (h : l[c]? = some y) (x : Int) : withoutR (l.take (c + 1)) x = withoutR (l.take c) x ++ if y.tx != x then [y] else [] := by
  have hl := List.getElem?_eq_some_iff.1 h
  rw [List.take_succ_eq_append_getElem hl.1, hl.2]
  unfold withoutR
  rw [List.filter_append, List.filter_cons, List.filter_nil]
set_option maxHeartbeats 2000000 in
theorem rwithout_any (A : Option Addr) (cap : Nat) (l : List Rw) (x : Int) (w : World) (hs : Sees w w.heap.size 3 A l.length (flat encR l)) (hl : l.length ≤ 100000) :
    Calls Try.prog 24 #[.slice A l.length cap, .int .i64 x] w fun e w' => ∃ v', e = .returned v' ∧ w'.ownsRow w.heap.size 74 3 v' (withoutR l x).length (flat encR (withoutR l x)) ∧ Below w.heap.size w w' := by
  have HS := Lib.hid hs
  have HALL : Hid (withoutR (l.take l.length) x = withoutR l x) := Lib.hid (by rw [List.take_length])
  clear hs
  go_enter Try.func24, Try.ntmps24
  go_wp2_with fail
  go_loopw [5, 6] (fun o j wr => ∃ c : Nat, c ≤ l.length ∧ j = .int .i64 (c : Int) ∧ wr.ownsRow w.heap.size 74 3 o (withoutR (l.take c) x).length (flat encR (withoutR (l.take c) x)) ∧ Below w.heap.size w wr) (fun _ j _ => l.length - (intOf j).toNat)
  case atStart => exact ⟨0, by omega, rfl, by simpa [withoutR, flat] using own_empty w 74 3, (Below.refl _ _).alloc (Nat.le_refl _) _⟩
  case round =>
    obtain ⟨c, hc, rfl, ho, hb⟩ := hrel
    have HO := Lib.hid ho
    have HB := Lib.hid hb
    have hbs := hb.size
    have hwl : (withoutR (l.take c) x).length ≤ 100000 := Nat.le_trans (List.length_filter_le _ _) (by simp; omega)
    clear ho hb
    by_cases hlt : c < l.length
    · obtain ⟨y, hy⟩ : ∃ y, l[c]? = some y := ⟨_, List.getElem?_eq_getElem hlt⟩
      obtain ⟨b0, off, rfl, hbb, hcc⟩ := (HS.out.below HB.out).item encR_len (by omega) c y hy
      have q0 := hcc 0 _ rfl
      have q1 := hcc 1 _ rfl
      have q2 := hcc 2 _ rfl
      rw [Nat.add_zero] at q0
      have i1 : (c : Int) < (l.length : Int) := by omega
      have HW := Lib.hid (without_next hy x)
      obtain ⟨y1, y2, y3⟩ := y
      dsimp only at *
      by_cases hci : y1 = x
      · have hne2 : (y1 != x) = false := by simpa using hci
        have HW2 : Hid (withoutR (l.take (c + 1)) x = withoutR (l.take c) x) := Lib.hid (by have := HW.out; rw [if_neg (by rw [hne2]; simp), List.append_nil] at this; exact this)
        clear hcc hy hbb HW hci
        go_wp2_with fail
        go_roundw
        case rel => exact ⟨c + 1, by omega, by simp, by rw [HW2.out]; exact HO.out, HB.out⟩
        case measure => simp [intOf]; omega
      · have hne2 : (y1 != x) = true := by simpa using hci
        have HW2 : Hid (withoutR (l.take (c + 1)) x = withoutR (l.take c) x ++ [⟨y1, y2, y3⟩]) := Lib.hid (by have := HW.out; rw [if_pos hne2] at this; exact this)
        obtain ⟨A5, cap5, hv5, -, -, -⟩ := own_slice0 HO.out
        subst hv5
        clear hcc hy hbb HW hci
        generalize hwn : withoutR (l.take c) x = us at *
        have HWN := Lib.hid hwn
        clear hwn
        have hal := (Below.refl wr.heap.size wr).alloc (Nat.le_refl _) (.cells #[.int .i64 y1, .int .i64 y2, .bool y3] 74)
        go_wp2_with (at_builtin; refine wpList_appG rfl (.tmp 21) (.tmp 26) _ 74 _ 3 24 rfl info_row Try.underlying25 rfl (by decide) w.heap.size _ us.length (flat encR us) rfl (own_keep HO.out hal (Nat.le_refl _)) (wr.heap.size + 1) _ 1 1 (flat encR [⟨y1, y2, y3⟩]) rfl (sees_row wr _ rfl ⟨y1, y2, y3⟩) (fun h => by cases h) (flat_encR_one _) (by omega) (by omega) (by simp; omega) ?_)
        intro v7 w7 ho7 hg7
        have HO7 := Lib.hid ho7
        have HB7 : Hid (Below w.heap.size w w7) := Lib.hid ((HB.out.alloc hbs _).grown hg7 (by simp; omega) fun k hk => (HO.out.lt k hk).1)
        clear ho7 hg7
        go_wp2_with fail
        go_roundw
        case rel => exact ⟨c + 1, by omega, by simp, by rw [HW2.out, List.length_append, flat_append]; exact HO7.out, HB7.out⟩
        case measure => simp [intOf]; omega
    · have hce : c = l.length := by omega
      subst hce
      go_wp2_with fail
      go_ret
      exact ⟨_, rfl, by rw [← HALL.out]; exact HO.out, HB.out⟩
end Go.Proofs.Ytcjefigcaifmeaa
