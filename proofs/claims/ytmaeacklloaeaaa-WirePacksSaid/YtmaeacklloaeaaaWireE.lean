/- The document's bytes of numbers and floats: contracts of Number and Eight. -/
import Derived.Test.YtmaeacklloaeaaaWireA
import Derived.Deep.QuietTactic
import Derived.BigQuiet
import Derived.Deep.RegionWith
import Derived.Laws.IdiomStrings
namespace Go.Proofs.Ytmaeacklloaeaaa
open Go.RowKit Go.Fl Go.Wr
set_option linter.unusedVariables false
set_option linter.unusedSimpArgs false

/-- The text of these bytes. -/
def txt (l : List UInt8) : ByteArray := ⟨l.toArray⟩

/-- What leaves a value and nothing old changed. -/
def GivesS (w : World) (l : List UInt8) (e : Ending) (w' : World) : Prop := e = .returned (.string (txt l)) ∧ Below w.heap.size w w'


theorem conv1 (n : Int) (h0 : 0 ≤ n) (h1 : n < 256) (w w' : World) (g : Nat) (h : w'.cell? ⟨g, 0, none⟩ = some (.int .u8 n)) :
    (convert 25 9 (.slice (some ⟨g, 0, none⟩) 1 1)).run Try.prog w' = .ok (.string (txt [UInt8.ofNat n.toNat])) w' := by
  have hn : (n : Int) = ((UInt8.ofNat n.toNat).toNat : Int) := by rw [ofNat_toNat (by omega)]; omega
  refine run_convert_bytes_back w' 25 9 5 ⟨g, 0, none⟩ 1 [UInt8.ofNat n.toNat] Try.underlying25 Try.underlying5 Try.underlying9 ?_
  intro j hj
  have : j = 0 := by simp at hj; omega
  subst this
  have e : (⟨g, 0, none⟩ : Addr).add 0 = ⟨g, 0, none⟩ := by simp [Addr.add]
  rw [e, h]
  simp only [List.getElem_cons_zero]
  rw [← hn]
theorem conv1_new (n : Int) (h0 : 0 ≤ n) (h1 : n < 256) (w : World) :
    (convert 25 9 (.slice (some ⟨w.heap.size, 0, none⟩) 1 1)).run Try.prog (w.alloc (.cells #[.int .u8 n] 5)) = .ok (.string (txt [UInt8.ofNat n.toNat])) (w.alloc (.cells #[.int .u8 n] 5)) :=
  conv1 n h0 h1 w _ _ ((Whole.fresh w 5 #[.int .u8 n]).cell 0)

theorem txt_size (l : List UInt8) : (txt l).size = l.length := by simp [txt, ByteArray.size]
theorem add_txt (l m : List UInt8) (h : l.length + m.length ≤ 9223372036854775807) (w : World) : (Op.stringOp .add (txt l) (txt m)).run Try.prog w = .ok (.string (txt (l ++ m))) w := by
  rw [run_string_add_sum w _ _ (by rw [txt_size, txt_size]; exact h)]
  unfold txt
  rw [ByteArray.mk_append_mk]

theorem number_any (k : Nat) : ∀ (n : Int) (w : World), 0 ≤ n → n < 18446744073709551616 → n.toNat < 128 ^ (k + 1) →
    Calls Try.prog 30 #[.int .u64 n] w (GivesS w (num n.toNat)) := by
  have base : ∀ (n : Int) (w : World), 0 ≤ n → n < 128 → Calls Try.prog 30 #[.int .u64 n] w (GivesS w (num n.toNat)) := by
    intro n w h0 h3
    have hc := conv1_new n h0 (by omega)
    have HN := Lib.hid (num_lt (show n.toNat < 128 by omega))
    generalize [UInt8.ofNat n.toNat] = l at *
    go_enter Try.func30, Try.ntmps30
    go_wp2_with fail
    go_ret
    exact ⟨by rw [HN.out]; rfl, (Below.refl _ _).alloc (Nat.le_refl _) _⟩
  induction k with
  | zero =>
    intro n w h0 h1 h2
    exact base n w h0 (by omega)
  | succ k ih =>
    intro n w h0 h1 h2
    by_cases h3 : n < 128
    · exact base n w h0 h3
    · have hc1 := fun w => conv1_new (128 + n % 128) (by omega) (by omega) w
      have hc2 : ∀ w : World, (convert 25 9 (.slice (some ⟨w.heap.size, 0, none⟩) 1 1)).run Try.prog (w.alloc (.cells #[.int .u8 (128 + n % 128)] 5)).drew = .ok (.string (txt [UInt8.ofNat (128 + n % 128).toNat])) (w.alloc (.cells #[.int .u8 (128 + n % 128)] 5)).drew :=
        fun w => conv1 _ (by omega) (by omega) w _ _ ((Whole.fresh w 5 #[.int .u8 (128 + n % 128)]).cell 0)
      have ht : n.tmod 128 = n % 128 := by rw [Int.tmod_eq_emod_of_nonneg h0]
      have hq : n.tdiv 128 = n / 128 := by rw [Int.tdiv_eq_ediv_of_nonneg h0]
      have e1 : IntKind.u64.wrap (128 + n % 128) = 128 + n % 128 := by rw [IntKind.wrap_u64]; omega
      have e2 : IntKind.u8.wrap (128 + n % 128) = 128 + n % 128 := by rw [IntKind.wrap_u8']; omega
      have e3 : IntKind.u64.wrap (n / 128) = n / 128 := by rw [IntKind.wrap_u64]; omega
      have HN : Hid (num n.toNat = UInt8.ofNat (128 + n % 128).toNat :: num (n / 128).toNat) := by
        refine Lib.hid ?_
        rw [num_ge (by omega), show n.toNat % 128 + 128 = (128 + n % 128).toNat by omega, show n.toNat / 128 = (n / 128).toNat by omega]
      have hb := num_bound (n / 128).toNat (by omega)
      have ha : txt [UInt8.ofNat (128 + n % 128).toNat] ++ txt (num (n / 128).toNat) = txt (num n.toNat) := by
        rw [HN.out]; unfold txt; rw [ByteArray.mk_append_mk]; rfl
      have hz : ¬ 9223372036854775807 < (txt [UInt8.ofNat (128 + n % 128).toNat]).size + (txt (num (n / 128).toNat)).size := by
        rw [txt_size, txt_size]; simp; omega
      obtain ⟨c, hcd⟩ : ∃ c, UInt8.ofNat (128 + n % 128).toNat = c := ⟨_, rfl⟩
      rw [hcd] at ha hz
      simp only [hcd] at hc1 hc2
      have HC := Lib.hid hcd
      clear hcd
      have ih1 := fun w => ih (n / 128) w (by omega) (by omega) (by rw [Nat.pow_succ] at h2; omega)
      clear ih HN
      generalize num n.toNat = s at *
      generalize num (n / 128).toNat = t at *
      have IH := Lib.hid ih1
      clear ih1
      go_enter Try.func30, Try.ntmps30
      go_wp2_with fail
      go_region_with ((go_at_call 30; refine (IH.out _).mono ?_; rintro e w1 ⟨rfl, hb⟩; (try (have hc3 := conv1 (128 + n % 128) (by omega) (by omega) w w1 _ ((hb.cell (p := ⟨w.heap.size, 0, none⟩) (by simp)).trans ((Whole.fresh w 5 #[.int .u8 (128 + n % 128)]).cell 0)); rw [HC.out] at hc3)); have HB := Lib.hid hb; clear hb))
      all_goals go_wp2
      all_goals go_ret
      all_goals refine ⟨by first | rfl | (rw [← ha]; rfl), ?_⟩
      · exact ((Below.refl _ w).alloc (Nat.le_refl _) _).drew.trans (HB.out.mono (by simp))
      · exact ((Below.refl _ w).alloc (Nat.le_refl _) _).drew.trans (HB.out.mono (by simp))
      · exact ((Below.refl _ w).drew.trans HB.out).alloc HB.out.size _

theorem eight_drop (x j : Nat) (h : j < 8) : (eight x).drop (8 - (j + 1)) = UInt8.ofNat (x / 2 ^ (8 * j)) :: (eight x).drop (8 - j) := by
  have hl : 8 - (j + 1) < (eight x).length := by rw [eight_length]; omega
  rw [List.drop_eq_getElem_cons hl, show 8 - (j + 1) + 1 = 8 - j by omega]
  congr 1
  simp only [eight, List.getElem_map, List.getElem_range]
  rw [show 56 - 8 * (8 - (j + 1)) = 8 * j by omega]

theorem eight_any (x : Nat) (hx : x < 18446744073709551616) (w : World) :
    Calls Try.prog 31 #[.int .u64 x] w (GivesS w (eight x)) := by
  go_enter Try.func31, Try.ntmps31
  go_wp2_with fail
  go_loopw [0, 3, 4] (fun n s i wr => ∃ j m : Nat, j ≤ 8 ∧ m = x / 2 ^ (8 * j) ∧ i = .int .i64 (j : Int) ∧ n = .int .u64 (m : Int) ∧ s = .string (txt ((eight x).drop (8 - j))) ∧ Below w.heap.size w wr) (fun _ _ i _ => (8 - intOf i).toNat)
  case atStart => exact ⟨0, x, by omega, by simp, rfl, rfl, by rw [List.drop_of_length_le (by rw [eight_length]; omega)]; rfl, Below.refl _ _⟩
  case round =>
    obtain ⟨j, m, hj, hm, rfl, rfl, rfl, hbel⟩ := hrel
    have hB' := hbel.size
    have HM := Lib.hid hm
    have HB := Lib.hid hbel
    have hmx : m < 18446744073709551616 := by rw [hm]; exact Nat.lt_of_le_of_lt (Nat.div_le_self _ _) hx
    clear hm hbel
    by_cases g : j < 8
    · have hd := eight_drop x j g
      have hc1 := fun w => conv1_new ((m : Int) % 256) (by omega) (by omega) w
      have hby : UInt8.ofNat ((m : Int) % 256).toNat = UInt8.ofNat (x / 2 ^ (8 * j)) := by
        rw [← HM.out]
        apply UInt8.toNat_inj.1
        rw [UInt8.toNat_ofNat', UInt8.toNat_ofNat']; omega
      rw [hby] at hc1
      have hm2 : m / 256 = x / 2 ^ (8 * (j + 1)) := by
        rw [HM.out, Nat.div_div_eq_div_mul]; congr 1
        rw [show 8 * (j + 1) = 8 * j + 8 by omega, Nat.pow_add]
      have hl1 : ((eight x).drop (8 - j)).length ≤ 8 := by rw [List.length_drop, eight_length]; omega
      have ha : txt [UInt8.ofNat (x / 2 ^ (8 * j))] ++ txt ((eight x).drop (8 - j)) = txt ((eight x).drop (8 - (j + 1))) := by
        rw [hd]; unfold txt; rw [ByteArray.mk_append_mk]; rfl
      have hz : ¬ 9223372036854775807 < (txt [UInt8.ofNat (x / 2 ^ (8 * j))]).size + (txt ((eight x).drop (8 - j))).size := by
        rw [txt_size, txt_size, List.length_singleton]; omega
      have HA := Lib.hid ha
      have HM2 := Lib.hid hm2
      clear hd hby hm2 ha
      generalize txt [UInt8.ofNat (x / 2 ^ (8 * j))] = c at *
      generalize txt ((eight x).drop (8 - j)) = t at *
      go_wp2
      go_roundw
      case rel => exact ⟨j + 1, m / 256, by omega, HM2.out, by go_num, by go_num, by rw [← HA.out], HB.out.alloc HB.out.size _⟩
      case measure => simp [intOf]; omega
    · obtain rfl : j = 8 := by omega
      go_wp2
      go_ret
      exact ⟨rfl, HB.out⟩
end Go.Proofs.Ytmaeacklloaeaaa
