/- Contracts of the program's calls at layer 7: lose. -/
import Derived.Test.YtlfigbgcackimaaDiskY
namespace Go.Dk
/-- The first j logs are cut. -/
def D.losing (d : D) (keep : List Int) (j : Nat) : D := { d with logs := d.logs.mapIdx fun i c => if i < j then c.cut (keep.getD i 0) else c }
theorem D.losing_zero (d : D) (keep : List Int) : d.losing keep 0 = d := by
  obtain ⟨l, a, b, c, e⟩ := d
  unfold D.losing
  congr 1
  apply List.ext_getElem?
  intro i
  simp
theorem D.losing_at (d : D) (keep : List Int) (j : Nat) {c : Lg} (h : d.logs[j]? = some c) : (d.losing keep j).logs[j]? = some c := by
  unfold D.losing
  simp [h]
theorem D.losing_next (d : D) (keep : List Int) (j : Nat) {c : Lg} (h : d.logs[j]? = some c) : (d.losing keep j).put j (c.cut (keep.getD j 0)) = d.losing keep (j + 1) := by
  unfold D.losing D.put
  congr 1
  apply List.ext_getElem?
  intro i
  by_cases e : i = j
  · subst e
    have hl := (List.getElem?_eq_some_iff.1 h).1
    rw [List.getElem?_set_self (by simpa using hl)]
    simp [h]
  · rw [List.getElem?_set_ne (Ne.symm e)]
    simp only [List.getElem?_mapIdx]
    by_cases e2 : i < j
    · simp only [if_pos e2, if_pos (show i < j + 1 by omega)]
    · simp only [if_neg e2, if_neg (show ¬ i < j + 1 by omega)]
theorem D.losing_end (d : D) (keep : List Int) : d.losing keep d.logs.length = { d with logs := (d.lose keep).logs } := by
  unfold D.losing D.lose
  congr 1
  apply List.ext_getElem?
  intro i
  simp only [List.getElem?_mapIdx]
  cases h : d.logs[i]? with
  | none => rfl
  | some c =>
    have hl := (List.getElem?_eq_some_iff.1 h).1
    simp only [if_pos hl]
theorem D.losing_length (d : D) (keep : List Int) (j : Nat) : (d.losing keep j).logs.length = d.logs.length := by simp [D.losing]
end Go.Dk
namespace Go.Proofs.Ytlfigbgcackimaa
open Go.RowKit Go.Dk
set_option linter.unusedVariables false
set_option linter.unusedSimpArgs false
set_option maxRecDepth 100000

theorem ints_at (l : List Int) (j : Nat) (n : Int) (h : l[j]? = some n) : (ints l)[j]? = some (.int .i64 n) := by unfold ints; rw [List.getElem?_map, h]; rfl
theorem ints_length (l : List Int) : (ints l).length = l.length := by simp [ints]
/-- A number of a list that is shown. -/
theorem Sees.int {w : World} {B n : Nat} {A : Option Addr} {l : List Int} (hs : Sees w B 1 A n (ints l)) (j : Nat) (v : Int) (h : l[j]? = some v) : ∃ b off, A = some ⟨b, off, none⟩ ∧ b < B ∧ w.cell? ⟨b, off + j, none⟩ = some (.int .i64 v) := by
  have hj := (List.getElem?_eq_some_iff.1 h).1
  have := hs.1
  rw [ints_length] at this
  obtain ⟨b, off, hA, hb, hc⟩ := hs.2 (by omega)
  exact ⟨b, off, hA, hb, hc j _ (ints_at l j v h)⟩
theorem Sees.offF {w w' : World} {B size n : Nat} {A : Option Addr} {xs : List Value} {F : Nat → Prop} (hs : Sees w B size A n xs) (ho : Off F w w') (hB : B ≤ w.heap.size) (hA : 0 < n → ∀ a, A = some a → ¬ F a.block) : Sees w' B size A n xs := by
  refine ⟨hs.1, fun hn => ?_⟩
  obtain ⟨b, off, rfl, hb, hc⟩ := hs.2 hn
  exact ⟨b, off, rfl, hb, fun j u hu => (World.cell?_of_block (a := ⟨b, off + j, none⟩) (ho.block b (by omega) (hA hn _ rfl))).trans (hc j u hu)⟩

set_option maxHeartbeats 1000000 in
theorem lose_any (g h k : Nat) (vs : Nat → Value) (d : D) (F : Nat → Prop) (B : Nat) (A : Option Addr) (cap : Nat) (keep : List Int) (w : World) (x : Dx w g h k vs d F) (hs : Sees w B 1 A keep.length (ints keep)) (hB : B ≤ w.heap.size)
    (hA : 0 < keep.length → ∀ a, A = some a → a.block ≠ h) (hr : ∀ n ∈ keep, W64 n) (hl : keep.length ≤ 9223372036854775807) :
    Calls Try.prog 54 #[ptr g, .slice A keep.length cap] w fun e w' => e = .returned (.tuple #[]) ∧ (∃ vs', Dx w' g h k vs' (d.lose keep) F) ∧ Off F w w' := by
  have HX := Lib.hid x
  have HS := Lib.hid hs
  have HA := Lib.hid hA
  have HR := Lib.hid hr
  obtain ⟨c0, c1, c2, c3, c4⟩ := x.cells
  have hf := x.ok.few
  have hlen : Hid (d.logs.length = d.logs.length) := Lib.hid rfl
  clear x hs hA hr
  go_enter Try.func54, Try.ntmps54
  go_wp2_with fail
  go_loopw [11] (fun i wr => ∃ j : Nat, j ≤ d.logs.length ∧ i = .int .i64 (j : Int) ∧ (∃ vs', Dx wr g h k vs' (d.losing keep j) F) ∧ Off (fun b => b = h) w wr) (fun i _ => d.logs.length - (intOf i).toNat)
  case atStart => exact ⟨0, by omega, rfl, ⟨vs, by rw [D.losing_zero]; exact HX.out⟩, Off.refl _ _⟩
  case round =>
    obtain ⟨j, hj, rfl, ⟨vs1, x1⟩, ho⟩ := hrel
    have HX1 := Lib.hid x1
    have HO := Lib.hid ho
    clear c0 c1 c2 c3 c4
    by_cases hlt : j < d.logs.length
    · obtain ⟨c, hc⟩ : ∃ c, d.logs[j]? = some c := ⟨_, List.getElem?_eq_getElem hlt⟩
      have HC := Lib.hid (D.losing_at d keep j hc)
      have HN := Lib.hid (D.losing_next d keep j hc)
      obtain ⟨c0, c1, c2, c3, c4⟩ := x1.cells
      rw [D.losing_length] at c0 c4
      have hjl : (j : Int) < (d.logs.length : Int) := by omega
      have HCUT := Lib.hid (fun (m : Int) (hm : W64 m) => cut_any g h k vs1 (d.losing keep j) F j c HC.out m hm wr x1)
      have hs1 := HS.out.offF ho hB HA.out
      clear x1 ho hc
      generalize d.logs.length = n at *
      by_cases hk : j < keep.length
      · obtain ⟨v, hv⟩ : ∃ v, keep[j]? = some v := ⟨_, List.getElem?_eq_getElem hk⟩
        have hg : keep.getD j 0 = v := by simp [hv]
        rw [hg] at HN
        obtain ⟨b, off, rfl, hb, hcell⟩ := hs1.int j v hv
        have hw := HR.out v (List.mem_of_getElem? hv)
        have hkl : (j : Int) < (keep.length : Int) := by omega
        clear hs1 hv hg
        go_wp2_with fail
        refine (HCUT.out v hw).mono ?_
        rintro e w1 ⟨rfl, ⟨vs2, x2⟩, ho2⟩
        have HX2 := Lib.hid x2
        have HO2 := Lib.hid ho2
        clear x2 ho2 hcell c0 c1 c2 c3 c4
        go_wp2_with fail
        go_roundw
        case rel => exact ⟨j + 1, by omega, by go_num, ⟨vs2, HN.out ▸ HX2.out⟩, HO.out.trans HO2.out⟩
        case measure => simp [intOf]; omega
      · have hg : keep.getD j 0 = 0 := by simp [List.getElem?_eq_none (Nat.le_of_not_lt hk)]
        rw [hg] at HN
        have hkl : ¬ ((j : Int) < (keep.length : Int)) := by omega
        clear hs1 hg
        go_wp2_with fail
        refine (HCUT.out 0 w64_zero).mono ?_
        rintro e w1 ⟨rfl, ⟨vs2, x2⟩, ho2⟩
        have HX2 := Lib.hid x2
        have HO2 := Lib.hid ho2
        clear x2 ho2 c0 c1 c2 c3 c4
        go_wp2_with fail
        go_roundw
        case rel => exact ⟨j + 1, by omega, by go_num, ⟨vs2, HN.out ▸ HX2.out⟩, HO.out.trans HO2.out⟩
        case measure => simp [intOf]; omega
    · obtain rfl : j = d.logs.length := by omega
      have x2 := x1
      rw [D.losing_end] at x2
      have x3 := x2.setFace 2 (.bool true) (d' := { d with logs := (d.lose keep).logs, down := true }) rfl rfl ⟨x2.ok.some, x2.ok.few, x2.ok.logs, x2.ok.ahead, x2.ok.keep, x2.ok.range⟩ (by simp)
      have HD := Lib.hid (disarm_any g h k vs1 _ F _ x3)
      have HO3 : Hid (Off F w (wr.setCell ⟨g, 2, none⟩ (.bool true))) := Lib.hid ((ho.mono fun b hb => by rw [hb]; exact HX.out.mine.2.1).set (p := ⟨g, 2, none⟩) (.inl HX.out.mine.1) _)
      obtain ⟨c0, c1, c2, c3, c4⟩ := x1.cells
      obtain ⟨f1, f2, f3⟩ := x1.free
      have HE : Hid ((D.disarm { d with logs := (d.lose keep).logs, down := true }) = d.lose keep) := Lib.hid (by unfold D.disarm D.lose; simp)
      clear x1 x2 x3 ho
      rw [D.losing_length] at c0 c4
      go_wp2_with fail
      refine HD.out.mono ?_
      rintro e w1 ⟨rfl, x4, ho4⟩
      have HX4 := Lib.hid x4
      have HO4 := Lib.hid ho4
      clear x4 ho4
      go_wp2_with fail
      go_end0
      exact ⟨rfl, ⟨vs1, HE.out ▸ HX4.out⟩, HO3.out.trans HO4.out⟩
end Go.Proofs.Ytlfigbgcackimaa
