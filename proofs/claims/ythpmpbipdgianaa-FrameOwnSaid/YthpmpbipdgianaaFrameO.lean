/- Contracts of loadOf, Clone, Open, Seal. -/
import Derived.Test.YthpmpbipdgianaaFrameS
namespace Go.Proofs.Ythpmpbipdgianaa
open Go.RowKit Go.Fm
set_option linter.unusedVariables false
set_option linter.unusedSimpArgs false

/-- What stands behind a frame's head, and no room. -/
def tailA (b off n : Nat) : Option Addr := if n = 8 then some ⟨b, off, none⟩ else some ⟨b, off + 8, none⟩
theorem loadOf_any (b off n c : Nat) (w : World) (h8 : 8 ≤ n) (hc : n ≤ c) (hm : c ≤ 9223372036854775807) :
    Calls Try.prog 29 #[.slice (some ⟨b, off, none⟩) n c] w fun e w' => e = .returned (.slice (tailA b off n) (n - 8) (n - 8)) ∧ w' = w := by
  have hT : Hid (tailA b off n = if n = 8 then some ⟨b, off, none⟩ else some ⟨b, off + 8, none⟩) := Lib.hid rfl
  go_enter Try.func29, Try.ntmps29
  go_wp2_with fail
  all_goals
    go_ret
    refine ⟨?_, rfl⟩
    unfold tailA
    first | rfl | simp [*]

theorem clone_any (B : Nat) (A : Option Addr) (cap : Nat) (bs : List UInt8) (w : World) (hs : Sees w B 1 A bs.length (Lib.byteCells bs)) (hB : B ≤ w.heap.size) (h1 : bs.length ≤ cap) (h2 : cap ≤ 9223372036854775807) (hn : A = none → cap = 0) (hlen : bs.length ≤ 140737488355328) :
    Calls Try.prog 30 #[.slice A bs.length cap] w fun e w' => ∃ v, e = .returned v ∧ OwnB w' w.heap.size v bs ∧ Below w.heap.size w w' := by
  have HS := Lib.hid hs
  clear hs
  have qT : ∀ (w : World) (a : Option Addr) (n c n' c' : Nat), (binOp .eql 22 (.slice a n c) (.slice none n' c')).run Try.prog w = .ok (.bool a.isNone) w := fun w a n c n' c' => Lib.run_eql_slice_nil w _ _ a n c n' c' Try.underlying22
  cases A with
  | none =>
    obtain rfl : cap = 0 := hn rfl
    obtain rfl : bs = [] := List.eq_nil_of_length_eq_zero (by omega)
    go_enter Try.func30, Try.ntmps30
    go_wp2_with fail
    go_ret
    exact ⟨_, rfl, OwnB.none_ _ _, Below.refl _ _⟩
  | some a =>
    go_enter Try.func30, Try.ntmps30
    go_wp2_with (at_builtin; refine wpList_appG rfl (.tmp 5) (.tmp 6) _ 5 _ 1 1 rfl info_byte Try.underlying22 rfl (by decide) w.heap.size _ 0 [] rfl (own_empty w 5 1) B (some a) bs.length cap (Lib.byteCells bs) rfl (HS.out.alloc hB _) hn (byte_one _) (by omega) (by omega) (by simp) ?_)
    intro v' w' ho hg
    have HB : Hid (Below w.heap.size w w') := Lib.hid (((Below.refl w.heap.size w).alloc (Nat.le_refl _) _).grown hg (by simp) fun k hk => by
      have : some w.heap.size = some k := hk
      injection this with this; omega)
    have HO : Hid (OwnB w' w.heap.size v' bs) := Lib.hid ho
    clear ho hg
    go_wp2_with fail
    go_ret
    exact ⟨v', rfl, HO.out, HB.out⟩

/-- What Open tells. -/
def Opens (w : World) (bs : List UInt8) (e : Ending) (w' : World) : Prop :=
  ∃ A c, e = .returned (.tuple #[.slice A (opened bs).1.length c, .int .i64 ((opened bs).2.1 : Nat), .int .i64 (opened bs).2.2]) ∧ (opened bs).1.length ≤ c ∧ c ≤ 9223372036854775807 ∧
    Sees w' w'.heap.size 1 A (opened bs).1.length (Lib.byteCells (opened bs).1) ∧ Below w.heap.size w w'

theorem take_cells (bs : List UInt8) (n : Nat) : (Lib.byteCells bs).take n = Lib.byteCells (bs.take n) := by unfold Lib.byteCells; rw [List.map_take]
theorem Sees.firstB {w : World} {B : Nat} {A : Option Addr} {bs : List UInt8} (h : Sees w B 1 A bs.length (Lib.byteCells bs)) {k : Nat} (hk : k ≤ bs.length) : Sees w B 1 A (bs.take k).length (Lib.byteCells (bs.take k)) := by
  have := Sees.first h hk
  rw [Nat.mul_one, take_cells] at this
  rw [List.length_take, Nat.min_eq_left hk]; exact this
theorem OwnB.form {w : World} {B : Nat} {v : Value} {bs : List UInt8} (h : OwnB w B v bs) (h0 : 0 < bs.length) : ∃ g c, v = .slice (some ⟨g, 0, none⟩) bs.length c ∧ B ≤ g ∧ g < w.heap.size ∧ bs.length ≤ c ∧ c ≤ maxLen := by
  rcases h.2 with ⟨_, h1⟩ | ⟨g, cap, cur, hv, hb, hg, h2, h3, _⟩
  · omega
  · exact ⟨g, cap, hv, hb, (Array.getElem?_eq_some_iff.1 hg).1, h2, h3⟩

theorem open_any (B : Nat) (A : Option Addr) (cap : Nat) (bs : List UInt8) (w : World) (hs : Sees w B 1 A bs.length (Lib.byteCells bs)) (hB : B ≤ w.heap.size) (h1 : bs.length ≤ cap) (h2 : cap ≤ 9223372036854775807) :
    Calls Try.prog 17 #[.slice A bs.length cap] w (Opens w bs) := by
  have HF := Lib.hid (fsize_any B A cap bs w hs h1 h2)
  by_cases he : (opened bs).2.2 = 0
  · obtain ⟨hp1, hp2⟩ := opened_pos he
    have e : opened bs = ((opened bs).1, (opened bs).2.1, 0) := by rw [← he]
    obtain ⟨hl, hn, hb⟩ := opened_only e
    generalize hL : (opened bs).1 = L at *
    generalize hN : (opened bs).2.1 = N at *
    have hN2 : N ≤ 65544 := by omega
    obtain ⟨b0, off, rfl, hb0, _⟩ := hs.2 (by omega)
    have ht : bs.take N = frame L := by
      rw [hb, List.take_append_of_le_length (by rw [frame_length]; omega), List.take_of_length_le (by rw [frame_length]; omega)]
    have hft : (bs.take N).length = N := by rw [List.length_take]; omega
    have HC := fun (w1 : World) (hw : Below w.heap.size w w1) => clone_any B (some ⟨b0, off, none⟩) cap (bs.take N) w1 ((Sees.firstB hs hp2).keep fun p hp => hw.cell (by omega)) (by have := hw.size; omega) (by omega) h2 (fun h => by cases h) (by omega)
    simp only [hft] at HC
    replace HC := Lib.hid HC
    have hL8 : L.length = N - 8 := by omega
    have HN := Lib.hid hn
    have HL8 := Lib.hid hL8
    have HT := Lib.hid ht
    have HE := Lib.hid e
    have HX := Lib.hid he
    unfold Sized at HF
    rw [e] at HF
    simp only at HF
    clear hs hb he ht hft e hn hL8 hl
    go_enter Try.func17, Try.ntmps17
    go_wp2_with fail
    refine HF.out.mono ?_
    rintro e w1 ⟨rfl, hb1⟩
    have HB1 := Lib.hid hb1
    clear hb1
    go_wp2_with fail
    refine (HC.out _ HB1.out).mono ?_
    rintro e w2 ⟨v2, rfl, ho2, hb2⟩
    obtain ⟨g, c2, hv, hg1, hg2, hc2, hc3⟩ := ho2.form (by rw [List.length_take]; omega)
    rw [show (bs.take N).length = N by rw [List.length_take]; omega] at hv hc2
    subst hv
    have hc4 : c2 ≤ 9223372036854775807 := by unfold maxLen at hc3; exact hc3
    have HO2 := Lib.hid ho2
    have HB2 := Lib.hid (HB1.out.trans (hb2.mono HB1.out.size))
    clear ho2 hb2 hc3
    go_wp2_with fail
    refine (loadOf_any g 0 N c2 _ (by omega) hc2 hc4).mono ?_
    rintro e w3 ⟨rfl, rfl⟩
    go_wp2_with fail
    go_ret3
    have hse : Sees w3 w3.heap.size 1 (tailA g 0 N) L.length (Lib.byteCells L) := by
      have h := (HO2.out.sees (by rw [List.length_take]; omega)).subq 8 N N (by omega) (by rw [List.length_take]; omega) (by rw [List.length_take]; omega)
      rw [HT.out, show (frame L).drop 8 = L by unfold frame; rfl, List.take_of_length_le (by rw [HL8.out]; omega), ← HL8.out] at h
      exact h
    refine ⟨tailA g 0 N, N - 8, ?_, ?_, by omega, ?_, HB2.out⟩
    · rw [HE.out, HL8.out]; rfl
    · rw [HE.out, HL8.out]; exact Nat.le_refl _
    · rw [HE.out]; exact hse
  · have h0 := opened_err bs he
    have HX : Hid ((opened bs).1 = []) := Lib.hid h0.1
    unfold Sized at HF
    rw [h0.2] at HF
    have hne : ((opened bs).2.2 != 0) = true := by simpa using he
    have HY := Lib.hid h0.2
    generalize hE : (opened bs).2.2 = E at *
    have HE := Lib.hid hE
    clear hs he h0 hE
    go_enter Try.func17, Try.ntmps17
    go_wp2_with fail
    refine HF.out.mono ?_
    rintro e w1 ⟨rfl, hb1⟩
    have HB1 := Lib.hid hb1
    clear hb1
    go_wp2_with fail
    go_ret3
    refine ⟨none, 0, ?_, ?_, by omega, ?_, HB1.out⟩
    · rw [HX.out, HY.out, HE.out]; rfl
    · rw [HX.out]; exact Nat.le_refl _
    · rw [HX.out]; exact Sees.nothing _ _ _ _

/-- What Seal tells of a load that is not too long. -/
def Seals (w : World) (bs : List UInt8) (e : Ending) (w' : World) : Prop :=
  ∃ v, e = .returned (.tuple #[v, .int .i64 0]) ∧ OwnB w' w.heap.size v (frame bs) ∧ Below w.heap.size w w'

theorem seal_long (A : Option Addr) (cap n : Nat) (w : World) (h : 65536 < n) :
    Calls Try.prog 15 #[.slice A n cap] w fun e w' => e = .returned (.tuple #[.slice none 0 0, .int .i64 30]) ∧ w' = w := by
  go_enter Try.func15, Try.ntmps15
  go_wp2_with fail
  go_ret2
  exact ⟨rfl, rfl⟩

theorem seal_any (B : Nat) (A : Option Addr) (cap : Nat) (bs : List UInt8) (w : World) (hs : Sees w B 1 A bs.length (Lib.byteCells bs)) (hB : B ≤ w.heap.size) (h1 : bs.length ≤ cap) (h2 : cap ≤ 9223372036854775807) (hn : A = none → cap = 0) (h : bs.length ≤ 65536) :
    Calls Try.prog 15 #[.slice A bs.length cap] w (Seals w bs) := by
  obtain ⟨i0, hi, hz0, hz1, hz2⟩ := info_parts info_byte
  have hcr := crc_lt (four bs.length ++ bs)
  have HS := Lib.hid hs
  have HN := Lib.hid hn
  have HFR : Hid (four bs.length ++ four (crc (four bs.length ++ bs)) ++ bs = frame bs) := Lib.hid (by unfold frame; rw [List.append_assoc])
  clear hs hn
  generalize hq : crc (four bs.length ++ bs) = q at *
  have HQ := Lib.hid hq
  clear hq
  go_enter Try.func15, Try.ntmps15
  go_wp2_with (at_make; refine wpList_make_own _ rfl _ _ 22 rfl w.heap.size 5 i0 (.int .u8 0) 1 Try.underlying22 hi hz0 hz1 _ _ _ (8 + bs.length) rfl rfl (by omega) (by rw [hz2]; omega) (by unfold maxLen; omega) (by omega) ?_)
  intro w1 ho1 hg1
  have ho1' : OwnB w1 w.heap.size (.slice (some ⟨w.heap.size, 0, none⟩) 0 (8 + bs.length)) [] := ho1
  have HO1 := Lib.hid ho1'
  have HB1 := Lib.hid ((Below.refl w.heap.size w).grown hg1 (Nat.le_refl _) (fun k hk => by cases hk))
  have HZ1 := HB1.out.size
  clear ho1 hg1 ho1'
  go_wp2_with fail
  refine (appw_any w.heap.size _ [] bs.length w1 HZ1 HO1.out (by omega) (by simp)).mono ?_
  rintro e w2 ⟨v2, rfl, ho2, st2⟩
  rw [List.nil_append] at ho2
  obtain ⟨A2, c2, rfl, hc21, hc22⟩ := ho2.slice
  rw [four_length] at hc21 ⊢
  have HO2 := Lib.hid ho2
  have HB2 := Lib.hid (HB1.out.trans st2.below)
  have HZ2 := HB2.out.size
  have hc23 : c2 ≤ 9223372036854775807 := by unfold maxLen at hc22; exact hc22
  clear ho2 st2 hc22
  go_wp2_with fail
  have hf := fsum_any w2.heap.size B A2 A c2 cap (four bs.length) bs w2 (HO2.out.sees (four_length _).symm) (HS.out.keep fun p hp => HB2.out.cell (by omega)) hc21 hc23 h1 h2
  rw [HQ.out] at hf
  refine hf.mono ?_
  rintro e w3 ⟨rfl, rfl⟩
  clear hf
  go_wp2_with fail
  refine (appw_any w.heap.size _ (four bs.length) q _ HZ2 (by rw [four_length] at *; exact HO2.out) hcr (by rw [four_length]; omega)).mono ?_
  rintro e w4 ⟨v4, rfl, ho4, st4⟩
  have HO4 := Lib.hid ho4
  have HB4 := Lib.hid (HB2.out.trans st4.below)
  have HZ4 := HB4.out.size
  have HS4 := Lib.hid (HS.out.keep fun p hp => HB4.out.cell (by omega))
  have hl4 : (four bs.length ++ four q).length = 8 := by rw [List.length_append, four_length, four_length]
  clear ho4 st4
  go_wp2_with (at_builtin; refine wpList_appG rfl (.tmp 21) (.tmp 22) _ 5 _ 1 1 rfl info_byte Try.underlying22 rfl (by decide) w.heap.size v4 (four bs.length ++ four q).length (Lib.byteCells (four bs.length ++ four q)) rfl HO4.out B A bs.length cap (Lib.byteCells bs) rfl HS4.out HN.out (byte_one _) (by rw [hl4]; omega) (by rw [hl4]; omega) HZ4 ?_)
  intro v5 w5 ho5 hg5
  have HO5 : Hid (OwnB w5 w.heap.size v5 (frame bs)) := Lib.hid (by
    rw [← HFR.out]
    unfold OwnB
    rw [Lib.byteCells_append, List.length_append]; exact ho5)
  have HB5 : Hid (Below w.heap.size w w5) := Lib.hid (HB4.out.grown hg5 HZ4 fun k hk => (HO4.out.lt k hk).1)
  clear ho5 hg5
  go_wp2_with fail
  go_ret2
  exact ⟨v5, rfl, HO5.out, HB5.out⟩
end Go.Proofs.Ythpmpbipdgianaa
