/- Contracts of One, the document's bytes of a value, and of appendValue. -/
import Derived.Test.YtmaeacklloaeaaaWireV
namespace Go.Proofs.Ytmaeacklloaeaaa
open Go.RowKit Go.Fl Go.Wr
set_option linter.unusedVariables false
set_option linter.unusedSimpArgs false

theorem number_all (n : Int) (h0 : 0 ≤ n) (h1 : n < 18446744073709551616) (w : World) : Calls Try.prog 30 #[.int .u64 n] w (GivesS w (num n.toNat)) :=
  number_any 9 n w h0 h1 (Nat.lt_of_lt_of_le (show n.toNat < 18446744073709551616 by omega) (by decide))

/-- What holds of a new block and of old ones behind a call that changed nothing old. -/
theorem bcell {W w1 : World} (hb : Below W.heap.size W w1) : (∀ b o, b < W.heap.size → w1.cell? ⟨b, o, none⟩ = W.cell? ⟨b, o, none⟩) ∧ (∀ b o, b < W.heap.size → w1.frozen? ⟨b, o, none⟩ = W.frozen? ⟨b, o, none⟩) :=
  ⟨fun b o h => hb.cell (p := ⟨b, o, none⟩) h, fun b o h => hb.frozen (p := ⟨b, o, none⟩) h⟩

theorem add_eq (l m : List UInt8) : txt l ++ txt m = txt (l ++ m) := by unfold txt; rw [ByteArray.mk_append_mk]
theorem add_fits (l m : List UInt8) (h : l.length + m.length ≤ 9223372036854775807) : ¬ 9223372036854775807 < (txt l).size + (txt m).size := by
  rw [txt_size, txt_size]; omega
theorem txt_of (s : ByteArray) : txt s.data.toList = s := ba_eta s

theorem conv1_next (n : Int) (h0 : 0 ≤ n) (h1 : n < 256) (w : World) (o : Obj) :
    (convert 25 9 (.slice (some ⟨w.heap.size + 1, 0, none⟩) 1 1)).run Try.prog ((w.alloc o).alloc (.cells #[.int .u8 n] 5)) = .ok (.string (txt [UInt8.ofNat n.toNat])) ((w.alloc o).alloc (.cells #[.int .u8 n] 5)) :=
  conv1 n h0 h1 w _ _ (by
    have := (Whole.fresh (w.alloc o) 5 #[.int .u8 n]).cell 0
    rw [show (w.alloc o).heap.size = w.heap.size + 1 by simp] at this
    exact this)

theorem two {w w1 : World} {o1 o2 : Obj} (h : Below ((w.alloc o1).alloc o2).heap.size ((w.alloc o1).alloc o2) w1) : Below w.heap.size w w1 :=
  (((Below.refl w.heap.size w).alloc (Nat.le_refl _) o1).alloc (by simp) o2).trans (h.mono (by simp; omega))

theorem two_drew {w w1 : World} {o1 o2 : Obj} (h : Below ((w.alloc o1).alloc o2).heap.size ((w.alloc o1).alloc o2).drew w1) : Below w.heap.size w w1 :=
  (((Below.refl w.heap.size w).alloc (Nat.le_refl _) o1).alloc (by simp) o2).drew.trans (h.mono (by simp; omega))

theorem one_1 (u : Int) (h0 : 0 ≤ u) (h1 : u < 18446744073709551616) (i : Int) (f : Nat) (s : ByteArray) (w : World) :
    Calls Try.prog 21 #[aggV ⟨1, u, i, f, s⟩] w (GivesS w (enc ⟨1, u, i, f, s⟩)) := by
  have hc := conv1_next 1 (by omega) (by omega)
  have hl := num_bound u.toNat (by omega)
  have he : enc ⟨1, u, i, f, s⟩ = [UInt8.ofNat (1 : Int).toNat] ++ num u.toNat := by simp only [enc, encBody, if_true]; rfl
  have ha := add_eq [UInt8.ofNat (1 : Int).toNat] (num u.toNat)
  have hz := add_fits [UInt8.ofNat (1 : Int).toNat] (num u.toNat) (by simp; omega)
  rw [← he] at ha
  generalize enc ⟨1, u, i, f, s⟩ = E at *
  generalize [UInt8.ofNat (1 : Int).toNat] = c at *
  have HN := Lib.hid (number_all u h0 h1)
  generalize num u.toNat = t at *
  have HA := Lib.hid ha
  clear ha he
  go_enter Try.func21, Try.ntmps21
  go_wp2_with fail
  refine (HN.out _).mono ?_
  rintro e w1 ⟨rfl, hb⟩
  have HB := Lib.hid hb
  clear hb
  go_wp2_with fail
  go_ret
  refine ⟨?_, two HB.out⟩
  show Ending.returned (.string (txt c ++ txt t)) = _
  rw [HA.out]

theorem one_2 (u : Int) (i : Int) (h0 : -9223372036854775808 ≤ i) (h1 : i < 9223372036854775808) (f : Nat) (s : ByteArray) (w : World) :
    Calls Try.prog 21 #[aggV ⟨2, u, i, f, s⟩] w (GivesS w (enc ⟨2, u, i, f, s⟩)) := by
  have hc := conv1_next 2 (by omega) (by omega)
  have hu := un_lt i h0 h1
  have hl := num_bound (un i) hu
  have he : enc ⟨2, u, i, f, s⟩ = [UInt8.ofNat (2 : Int).toNat] ++ num (un i) := by simp only [enc, encBody, show ¬ (2 : Int) = 1 by omega, if_false, if_true]; rfl
  have ha := add_eq [UInt8.ofNat (2 : Int).toNat] (num (un i))
  have hz := add_fits [UInt8.ofNat (2 : Int).toNat] (num (un i)) (by simp; omega)
  rw [← he] at ha
  generalize enc ⟨2, u, i, f, s⟩ = E at *
  generalize [UInt8.ofNat (2 : Int).toNat] = c at *
  have HN : Hid (∀ n : Int, n = un i → ∀ w, Calls Try.prog 30 #[.int .u64 n] w (GivesS w (num (un i)))) := by
    refine Lib.hid ?_
    rintro n rfl w
    exact number_all (un i) (by omega) (by omega) w
  have HU : Hid ((i < 0 → (un i : Int) = 2 * -(i + 1) + 1) ∧ (¬ i < 0 → (un i : Int) = 2 * i)) := by
    refine Lib.hid ?_
    unfold un
    split <;> constructor <;> intro h <;> omega
  generalize num (un i) = t at *
  clear hu
  have HA := Lib.hid ha
  clear ha he
  go_enter Try.func21, Try.ntmps21
  by_cases g : i < 0
  · go_wp2_with fail
    refine (HN.out _ ?_ _).mono ?_
    · rw [HU.out.1 g]
    rintro e w1 ⟨rfl, hb⟩
    have HB := Lib.hid hb
    clear hb
    go_wp2_with fail
    go_ret
    refine ⟨?_, two HB.out⟩
    show Ending.returned (.string (txt c ++ txt t)) = _
    rw [HA.out]

  · go_wp2_with fail
    refine (HN.out _ ?_ _).mono ?_
    · rw [HU.out.2 g]
    rintro e w1 ⟨rfl, hb⟩
    have HB := Lib.hid hb
    clear hb
    go_wp2_with fail
    go_ret
    refine ⟨?_, two HB.out⟩
    show Ending.returned (.string (txt c ++ txt t)) = _
    rw [HA.out]

theorem one_3 (u : Int) (i : Int) (f : Nat) (hf : f < 18446744073709551616) (s : ByteArray) (w : World) :
    Calls Try.prog 21 #[aggV ⟨3, u, i, f, s⟩] w (GivesS w (enc ⟨3, u, i, f, s⟩)) := by
  have hc := conv1_next 3 (by omega) (by omega)
  have hu := usu_lt hf
  have hl := eight_length (usu f)
  have he : enc ⟨3, u, i, f, s⟩ = [UInt8.ofNat (3 : Int).toNat] ++ eight (usu f) := by simp only [enc, encBody, show ¬ (3 : Int) = 1 by omega, show ¬ (3 : Int) = 2 by omega, if_false, if_true]; rfl
  have ha := add_eq [UInt8.ofNat (3 : Int).toNat] (eight (usu f))
  have hz := add_fits [UInt8.ofNat (3 : Int).toNat] (eight (usu f)) (by simp; omega)
  rw [← he] at ha
  generalize enc ⟨3, u, i, f, s⟩ = E at *
  generalize [UInt8.ofNat (3 : Int).toNat] = c at *
  have HN := Lib.hid (eight_any (usu f) hu)
  have HF := Lib.hid (bits2_any f hf)
  clear hl
  generalize eight (usu f) = t at *
  generalize usu f = q at *
  have HA := Lib.hid ha
  clear ha he
  go_enter Try.func21, Try.ntmps21
  go_wp2_with fail
  refine (HF.out _).mono ?_
  rintro e w1 ⟨rfl, rfl⟩
  go_wp2_with fail
  refine (HN.out _).mono ?_
  rintro e w1 ⟨rfl, hb⟩
  have HB := Lib.hid hb
  clear hb
  go_wp2_with fail
  go_ret
  refine ⟨?_, two HB.out⟩
  show Ending.returned (.string (txt c ++ txt t)) = _
  rw [HA.out]


set_option maxHeartbeats 1600000 in
theorem one_4 (u : Int) (i : Int) (f : Nat) (s : ByteArray) (hs : s.size ≤ 1000) (w : World) :
    Calls Try.prog 21 #[aggV ⟨4, u, i, f, s⟩] w (GivesS w (enc ⟨4, u, i, f, s⟩)) := by
  have hc := conv1_next 4 (by omega) (by omega)
  have hl := num_bound s.size (by omega)
  have he : enc ⟨4, u, i, f, s⟩ = ([UInt8.ofNat (4 : Int).toNat] ++ num s.size) ++ s.data.toList := by
    simp only [enc, encBody, show ¬ (4 : Int) = 1 by omega, show ¬ (4 : Int) = 2 by omega, show ¬ (4 : Int) = 3 by omega, if_false]; rfl
  have ha1 := add_eq [UInt8.ofNat (4 : Int).toNat] (num s.size)
  have hz1 := add_fits [UInt8.ofNat (4 : Int).toNat] (num s.size) (by simp; omega)
  have hz2 := add_fits ([UInt8.ofNat (4 : Int).toNat] ++ num s.size) s.data.toList (by rw [ba_size]; simp; omega)
  have ha2 := add_eq ([UInt8.ofNat (4 : Int).toNat] ++ num s.size) s.data.toList
  rw [txt_of] at ha2 hz2
  rw [← he] at ha2
  generalize enc ⟨4, u, i, f, s⟩ = E at *
  generalize [UInt8.ofNat (4 : Int).toNat] = c at *
  have HN : Hid (∀ w, Calls Try.prog 30 #[.int .u64 (s.size : Int)] w (GivesS w (num s.size))) :=
    Lib.hid fun w => number_all (s.size : Int) (by omega) (by omega) w
  generalize num s.size = t at *
  have HA := Lib.hid ha2
  clear ha2 he
  have hw1 : IntKind.u64.wrap (s.size : Int) = (s.size : Int) := by rw [IntKind.wrap_u64]; omega
  go_enter Try.func21, Try.ntmps21
  go_wp2_with fail
  go_region_with ((go_at_call 30; refine (HN.out _).mono ?_; rintro e w1 ⟨rfl, hb⟩; (have hcell : w1.cell? ⟨w.heap.size, 4, none⟩ = some (.string s) := (hb.cell (p := ⟨w.heap.size, 4, none⟩) (by simp; omega)).trans (by simp [go_sem])); have HB := Lib.hid hb; clear hb))
  all_goals go_wp2
  all_goals go_ret
  all_goals
    refine ⟨?_, two_drew HB.out⟩
    show Ending.returned (.string (txt (c ++ t) ++ s)) = _
    rw [HA.out]

theorem one_any (v : Val) (hw : v.wf) (hv : valid v = 0) (w : World) : Calls Try.prog 21 #[aggV v] w (GivesS w (enc v)) := by
  obtain ⟨k, u, i, f, s⟩ := v
  obtain ⟨w1, w2, w3, w4, w5, w6, w7, w8⟩ := hw
  simp only at w1 w2 w3 w4 w5 w6 w7 w8
  simp only [valid] at hv
  (repeat' split at hv) <;> try (exfalso; omega)
  have hk : k = 1 ∨ k = 2 ∨ k = 3 ∨ k = 4 := by omega
  rcases hk with rfl | rfl | rfl | rfl
  · exact one_1 u w3 w4 i f s w
  · exact one_2 u i w5 w6 f s w
  · exact one_3 u i f w7 s w
  · exact one_4 u i f s (by omega) w
end Go.Proofs.Ytmaeacklloaeaaa
