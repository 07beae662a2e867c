/- Contracts of loadOf, Clone, Open, Seal. -/
import Derived.Test.YtlfigbgcackimaaFrS
namespace Go.Proofs.Ytlfigbgcackimaa
open Go.RowKit Go.Fm
set_option linter.unusedVariables false
set_option linter.unusedSimpArgs false
set_option maxRecDepth 100000

/-- What stands behind a frame's head, and no room. -/
def tailA (b off n : Nat) : Option Addr := if n = 8 then some ⟨b, off, none⟩ else some ⟨b, off + 8, none⟩
theorem loadOf_any (b off n c : Nat) (w : World) (h8 : 8 ≤ n) (hc : n ≤ c) (hm : c ≤ 9223372036854775807) :
    Calls Try.prog 61 #[.slice (some ⟨b, off, none⟩) n c] w fun e w' => e = .returned (.slice (tailA b off n) (n - 8) (n - 8)) ∧ w' = w := by
  have hT : Hid (tailA b off n = if n = 8 then some ⟨b, off, none⟩ else some ⟨b, off + 8, none⟩) := Lib.hid rfl
  go_enter Try.func61, Try.ntmps61
  go_wp2_with fail
  all_goals
    go_ret
    refine ⟨?_, rfl⟩
    unfold tailA
    first | rfl | simp [*]

/-- What Open tells. -/
def Opens (w : World) (bs : List UInt8) (e : Ending) (w' : World) : Prop :=
  ∃ A c, e = .returned (.tuple #[.slice A (opened bs).1.length c, .int .i64 ((opened bs).2.1 : Nat), .int .i64 (opened bs).2.2]) ∧ (opened bs).1.length ≤ c ∧ c ≤ 9223372036854775807 ∧
    Sees w' w'.heap.size 1 A (opened bs).1.length (Lib.byteCells (opened bs).1) ∧ Below w.heap.size w w'

theorem OwnB.form {w : World} {B : Nat} {v : Value} {bs : List UInt8} (h : OwnB w B v bs) (h0 : 0 < bs.length) : ∃ g c, v = .slice (some ⟨g, 0, none⟩) bs.length c ∧ B ≤ g ∧ g < w.heap.size ∧ bs.length ≤ c ∧ c ≤ maxLen := by
  rcases h.2 with ⟨_, h1⟩ | ⟨g, cap, cur, hv, hb, hg, h2, h3, _⟩
  · omega
  · exact ⟨g, cap, hv, hb, (Array.getElem?_eq_some_iff.1 hg).1, h2, h3⟩

/-- What Seal tells of a load that is not too long. -/
def Seals (w : World) (bs : List UInt8) (e : Ending) (w' : World) : Prop :=
  ∃ v, e = .returned (.tuple #[v, .int .i64 0]) ∧ OwnB w' w.heap.size v (frame bs) ∧ Below w.heap.size w w'

theorem seal_long (A : Option Addr) (cap n : Nat) (w : World) (h : 65536 < n) :
    Calls Try.prog 50 #[.slice A n cap] w fun e w' => e = .returned (.tuple #[.slice none 0 0, .int .i64 30]) ∧ w' = w := by
  go_enter Try.func50, Try.ntmps50
  go_wp2_with fail
  go_ret2
  exact ⟨rfl, rfl⟩

theorem seal_any (B : Nat) (A : Option Addr) (cap : Nat) (bs : List UInt8) (w : World) (hs : Sees w B 1 A bs.length (Lib.byteCells bs)) (hB : B ≤ w.heap.size) (h1 : bs.length ≤ cap) (h2 : cap ≤ 9223372036854775807) (hn : A = none → cap = 0) (h : bs.length ≤ 65536) :
    Calls Try.prog 50 #[.slice A bs.length cap] w (Seals w bs) := by
  obtain ⟨i0, hi, hz0, hz1, hz2⟩ := info_parts info_byte
  have hcr := crc_lt (four bs.length ++ bs)
  have HS := Lib.hid hs
  have HN := Lib.hid hn
  have HFR : Hid (four bs.length ++ four (crc (four bs.length ++ bs)) ++ bs = frame bs) := Lib.hid (by unfold frame; rw [List.append_assoc])
  clear hs hn
  generalize hq : crc (four bs.length ++ bs) = q at *
  have HQ := Lib.hid hq
  clear hq
  go_enter Try.func50, Try.ntmps50
  go_wp2_with (at_make; refine wpList_make_own _ rfl _ _ 52 rfl w.heap.size 5 i0 (.int .u8 0) 1 Try.underlying52 hi hz0 hz1 _ _ _ (8 + bs.length) rfl rfl (by omega) (by rw [hz2]; omega) (by unfold maxLen; omega) (by omega) ?_)
  intro w1 ho1 hg1
  have ho1' : OwnB w1 w.heap.size (.slice (some ⟨w.heap.size, 0, none⟩) 0 (8 + bs.length)) [] := ho1
  have HO1 := Lib.hid ho1'
  have HB1 := Lib.hid ((Below.refl w.heap.size w).grown hg1 (Nat.le_refl _) (fun k hk => by cases hk))
  have HZ1 := HB1.out.size
  clear ho1 hg1 ho1'
  go_wp2_with fail
  refine (appw_any w.heap.size _ [] bs.length w1 HZ1 HO1.out (by omega) (by simp)).mono ?_
  rintro e w2 ⟨v2, rfl, ho2, st2⟩
  rw [List.nil_append] at ho2
  obtain ⟨A2, c2, rfl, hc21, hc22⟩ := ho2.slice
  rw [four_length] at hc21 ⊢
  have HO2 := Lib.hid ho2
  have HB2 := Lib.hid (HB1.out.trans st2.below)
  have HZ2 := HB2.out.size
  have hc23 : c2 ≤ 9223372036854775807 := by unfold maxLen at hc22; exact hc22
  clear ho2 st2 hc22
  go_wp2_with fail
  have hf := fsum_any w2.heap.size B A2 A c2 cap (four bs.length) bs w2 (HO2.out.sees (four_length _).symm) (HS.out.keep fun p hp => HB2.out.cell (by omega)) hc21 hc23 h1 h2
  rw [HQ.out] at hf
  refine hf.mono ?_
  rintro e w3 ⟨rfl, rfl⟩
  clear hf
  go_wp2_with fail
  refine (appw_any w.heap.size _ (four bs.length) q _ HZ2 (by rw [four_length] at *; exact HO2.out) hcr (by rw [four_length]; omega)).mono ?_
  rintro e w4 ⟨v4, rfl, ho4, st4⟩
  have HO4 := Lib.hid ho4
  have HB4 := Lib.hid (HB2.out.trans st4.below)
  have HZ4 := HB4.out.size
  have HS4 := Lib.hid (HS.out.keep fun p hp => HB4.out.cell (by omega))
  have hl4 : (four bs.length ++ four q).length = 8 := by rw [List.length_append, four_length, four_length]
  clear ho4 st4
  go_wp2_with (at_builtin; refine wpList_appG rfl (.tmp 21) (.tmp 22) _ 5 _ 1 1 rfl info_byte Try.underlying52 rfl (by decide) w.heap.size v4 (four bs.length ++ four q).length (Lib.byteCells (four bs.length ++ four q)) rfl HO4.out B A bs.length cap (Lib.byteCells bs) rfl HS4.out HN.out (byte_one _) (by rw [hl4]; omega) (by rw [hl4]; omega) HZ4 ?_)
  intro v5 w5 ho5 hg5
  have HO5 : Hid (OwnB w5 w.heap.size v5 (frame bs)) := Lib.hid (by
    rw [← HFR.out]
    unfold OwnB
    rw [Lib.byteCells_append, List.length_append]; exact ho5)
  have HB5 : Hid (Below w.heap.size w w5) := Lib.hid (HB4.out.grown hg5 HZ4 fun k hk => (HO4.out.lt k hk).1)
  clear ho5 hg5
  go_wp2_with fail
  go_ret2
  exact ⟨v5, rfl, HO5.out, HB5.out⟩
end Go.Proofs.Ytlfigbgcackimaa
