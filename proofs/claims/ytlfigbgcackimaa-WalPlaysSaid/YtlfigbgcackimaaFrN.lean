/- Contracts of the sum's register: turned, Sum, frameSum; and of word. -/
import Derived.Test.YtlfigbgcackimaaDiskZ
import Derived.Test.YtlfigbgcackimaaFrameM
import Derived.Laws.BitsAllLaws
namespace Go.Proofs.Ytlfigbgcackimaa
open Go.RowKit Go.Fm
set_option linter.unusedVariables false
set_option linter.unusedSimpArgs false
set_option maxRecDepth 100000

theorem b_and1 (c : Nat) (h : c < 4294967296) : bits .and .u32 (c : Int) 1 = ((c % 2 : Nat) : Int) := by
  have e := u32_and_nat c 1 h (by decide)
  rw [Nat.and_one_is_mod] at e
  exact e
theorem b_xorp (c : Nat) (h : c < 4294967296) : bits .xor .u32 (c : Int) 3988292384 = ((c ^^^ 3988292384 : Nat) : Int) := u32_xor_nat c 3988292384 h (by decide)
theorem b_xorb (c : Nat) (x : UInt8) (h : c < 4294967296) : bits .xor .u32 (c : Int) (x.toNat : Int) = ((c ^^^ x.toNat : Nat) : Int) := u32_xor_nat c x.toNat h (by have := x.toNat_lt; omega)
theorem b_xora (c : Nat) (h : c < 4294967296) : bits .xor .u32 4294967295 (c : Int) = ((c ^^^ 4294967295 : Nat) : Int) := by
  rw [Nat.xor_comm]; exact u32_xor_nat 4294967295 c (by decide) h

theorem sh_iter_lt {c : Nat} (h : c < 4294967296) (k : Nat) : Nat.repeat sh k c < 4294967296 := by
  induction k with
  | zero => exact h
  | succ k ih => exact sh_lt ih

theorem bytes_at (bs : List UInt8) (k : Nat) (x : UInt8) (h : bs[k]? = some x) : (Lib.byteCells bs)[k]? = some (.int .u8 (x.toNat : Int)) := by
  unfold Lib.byteCells; rw [List.getElem?_map, h]; rfl
theorem reg_snoc (c : Nat) (bs : List UInt8) (k : Nat) (x : UInt8) (h : bs[k]? = some x) : reg c (bs.take (k + 1)) = up (reg c (bs.take k)) x := by
  have hl := List.getElem?_eq_some_iff.1 h
  rw [List.take_succ_eq_append_getElem hl.1, hl.2, reg_append]; rfl

/-- Eight places, one by one. -/
def shs : Nat → Nat → Nat
  | 0, c => c
  | n + 1, c => sh (shs n c)
theorem shs_lt {c : Nat} (h : c < 4294967296) (k : Nat) : shs k c < 4294967296 := by
  induction k with
  | zero => exact h
  | succ k ih => exact sh_lt ih
theorem shs_8 (c : Nat) : shs 8 c = down c := rfl

theorem turned_any (c : Nat) (B : Nat) (A : Option Addr) (cap : Nat) (bs : List UInt8) (w : World) (hc : c < 4294967296) (hs : Sees w B 1 A bs.length (Lib.byteCells bs)) (h1 : bs.length ≤ cap) (h2 : cap ≤ 9223372036854775807) :
    Calls Try.prog 71 #[.int .u32 (c : Int), .slice A bs.length cap] w fun e w' => e = .returned (.int .u32 (reg c bs : Nat)) ∧ w' = w := by
  have HS := Lib.hid hs
  clear hs
  go_enter Try.func71, Try.ntmps71
  go_wp2_with fail
  go_loop [0, 10] (fun s i => ∃ k : Nat, k ≤ bs.length ∧ i = .int .i64 (k : Int) ∧ s = .int .u32 ((reg c (bs.take k) : Nat) : Int)) (fun _ i => bs.length - (intOf i).toNat)
  case atStart => exact ⟨0, by omega, rfl, rfl⟩
  case round =>
    obtain ⟨k, hk, rfl, rfl⟩ := hrel
    by_cases hlt : k < bs.length
    · obtain ⟨x, hx⟩ : ∃ x, bs[k]? = some x := ⟨_, List.getElem?_eq_getElem hlt⟩
      obtain ⟨b0, off, rfl, hb, hcell⟩ := HS.out.2 (by omega)
      have c0 := hcell k _ (bytes_at bs k x hx)
      have HN := Lib.hid (reg_snoc c bs k x hx)
      have hr := reg_lt (bs.take k) hc
      have hx1 := b_xorb (reg c (bs.take k)) x hr
      have hx2 := turn_lt x hr
      clear hcell hx
      generalize reg c (bs.take k) = r at *
      generalize hq : r ^^^ x.toNat = q at *
      have HQ := Lib.hid hq
      clear hq
      generalize hxn : x.toNat = xn at *
      have HXN := Lib.hid hxn
      clear hxn
      have hxl : xn < 256 := by rw [← HXN.out]; exact x.toNat_lt
      go_wp2_with fail
      go_loop [0, 18] (fun s i => ∃ m : Nat, m ≤ 8 ∧ i = .int .i64 (m : Int) ∧ s = .int .u32 ((shs m q : Nat) : Int)) (fun _ i => 8 - (intOf i).toNat)
      case atStart => exact ⟨0, by omega, rfl, rfl⟩
      case round =>
        obtain ⟨m, hm, rfl, rfl⟩ := hrel
        by_cases hm8 : m < 8
        · have hl := shs_lt hx2 m
          have HD : Hid (shs (m + 1) q = sh (shs m q)) := Lib.hid rfl
          generalize shs m q = y at *
          have hy1 := b_and1 y hl
          have hy2 := b_xorp (y / 2) (by omega)
          have HSH : Hid (sh y = if y % 2 = 1 then y / 2 ^^^ 3988292384 else y / 2) := Lib.hid rfl
          by_cases hodd : y % 2 = 1
          · rw [hodd] at hy1
            have HR : Hid (shs (m + 1) q = y / 2 ^^^ 3988292384) := Lib.hid (by rw [HD.out, HSH.out, if_pos hodd])
            generalize hz : y / 2 ^^^ 3988292384 = z at *
            go_wp2_with fail
            go_round
            case rel => exact ⟨m + 1, by omega, rfl, by rw [HR.out, show (y : Int) / 2 = ((y / 2 : Nat) : Int) by omega, hy2]⟩
            case measure => simp [intOf]; omega
          · rw [show y % 2 = 0 by omega] at hy1
            have HR : Hid (shs (m + 1) q = y / 2) := Lib.hid (by rw [HD.out, HSH.out, if_neg hodd])
            go_wp2_with fail
            go_round
            case rel => exact ⟨m + 1, by omega, rfl, by rw [HR.out, show (y : Int) / 2 = ((y / 2 : Nat) : Int) by omega]⟩
            case measure => simp [intOf]; omega
        · obtain rfl : m = 8 := by omega
          have HD := Lib.hid (shs_8 q)
          have HU : Hid (up r x = down q) := Lib.hid (by unfold up; rw [HXN.out, HQ.out])
          go_wp2_with fail
          go_round
          case rel => exact ⟨k + 1, by omega, rfl, by rw [HN.out, HU.out, HD.out]⟩
          case measure => simp [intOf]; omega
    · obtain rfl : k = bs.length := by omega
      rw [List.take_length]
      go_wp2_with fail
      go_ret
      exact ⟨rfl, rfl⟩

theorem fsum_any (B B' : Nat) (A A' : Option Addr) (cap cap' : Nat) (bs cs : List UInt8) (w : World) (hs : Sees w B 1 A bs.length (Lib.byteCells bs)) (hs' : Sees w B' 1 A' cs.length (Lib.byteCells cs))
    (h1 : bs.length ≤ cap) (h2 : cap ≤ 9223372036854775807) (h1' : cs.length ≤ cap') (h2' : cap' ≤ 9223372036854775807) :
    Calls Try.prog 64 #[.slice A bs.length cap, .slice A' cs.length cap'] w fun e w' => e = .returned (.int .u32 (crc (bs ++ cs) : Nat)) ∧ w' = w := by
  have HT := Lib.hid (turned_any 4294967295 B A cap bs w (by omega) hs h1 h2)
  have hr := reg_lt bs (c := 4294967295) (by omega)
  have HT' := Lib.hid (turned_any (reg 4294967295 bs) B' A' cap' cs w hr hs' h1' h2')
  have hx := b_xora (reg (reg 4294967295 bs) cs) (reg_lt cs hr)
  have HC : Hid (crc (bs ++ cs) = reg (reg 4294967295 bs) cs ^^^ 4294967295) := Lib.hid (by unfold crc; rw [reg_append])
  clear hs hs'
  generalize reg 4294967295 bs = r at *
  generalize reg r cs = r' at *
  generalize r' ^^^ 4294967295 = q at *
  go_enter Try.func64, Try.ntmps64
  go_wp2_with fail
  refine HT.out.mono ?_
  rintro e w1 ⟨rfl, rfl⟩
  go_wp2_with fail
  refine HT'.out.mono ?_
  rintro e w1 ⟨rfl, rfl⟩
  go_wp2_with fail
  go_ret
  exact ⟨by rw [HC.out]; rfl, rfl⟩

theorem or_byte (n c : Nat) (hn : n < 16777216) (hc : c < 256) : bits .or .u32 ((n : Int) * 256) (c : Int) = ((n * 256 + c : Nat) : Int) := by
  have e := u32_or_nat (n * 256) c (by omega) (by omega)
  rw [Int.natCast_mul] at e
  have j : n * 256 ||| c = n * 256 + c := by
    have := Nat.two_pow_add_eq_or_of_lt (i := 8) (b := c) hc n
    rw [show 2 ^ 8 * n = n * 256 by omega] at this
    exact this.symm
  rw [j] at e
  exact e
theorem big_snoc (bs : List UInt8) (k : Nat) (x : UInt8) (h : bs[k]? = some x) : big (bs.take (k + 1)) = big (bs.take k) * 256 + x.toNat := by
  have hl := List.getElem?_eq_some_iff.1 h
  rw [List.take_succ_eq_append_getElem hl.1, hl.2]; simp [big]
theorem big_small (bs : List UInt8) (k : Nat) (hk : k < 4) : big (bs.take k) < 16777216 := by
  have h : ∀ l : List UInt8, l.length ≤ 3 → big l < 16777216 := by
    intro l hl
    match l, hl with
    | [], _ => simp [big]
    | [a], _ => have := a.toNat_lt; simp [big]; omega
    | [a, b], _ => have := a.toNat_lt; have := b.toNat_lt; simp [big]; omega
    | [a, b, c], _ => have := a.toNat_lt; have := b.toNat_lt; have := c.toNat_lt; simp [big]; omega
  exact h _ (by rw [List.length_take]; omega)

theorem word_any (B : Nat) (A : Option Addr) (cap : Nat) (bs : List UInt8) (w : World) (hs : Sees w B 1 A bs.length (Lib.byteCells bs)) (h4 : 4 ≤ bs.length) (h1 : bs.length ≤ cap) (h2 : cap ≤ 9223372036854775807) :
    Calls Try.prog 68 #[.slice A bs.length cap] w fun e w' => e = .returned (.int .u32 (big (bs.take 4) : Nat)) ∧ w' = w := by
  obtain ⟨b0, off, rfl, hb, hcell⟩ := hs.2 (by omega)
  have HC := Lib.hid hcell
  clear hs hcell
  go_enter Try.func68, Try.ntmps68
  go_wp2_with fail
  go_loop [3, 9] (fun s i => ∃ k : Nat, k ≤ 4 ∧ i = .int .i64 (k : Int) ∧ s = .int .u32 ((big (bs.take k) : Nat) : Int)) (fun _ i => 4 - (intOf i).toNat)
  case atStart => exact ⟨0, by omega, rfl, rfl⟩
  case round =>
    obtain ⟨k, hk, rfl, rfl⟩ := hrel
    by_cases hlt : k < 4
    · obtain ⟨x, hx⟩ : ∃ x, bs[k]? = some x := ⟨_, List.getElem?_eq_getElem (by omega)⟩
      have c0 := HC.out k _ (bytes_at bs k x hx)
      have HN := Lib.hid (big_snoc bs k x hx)
      have hl := big_small bs k hlt
      have ho := or_byte _ _ hl x.toNat_lt
      clear hx
      generalize big (bs.take k) = r at *
      have hxl := x.toNat_lt
      generalize x.toNat = xn at *
      go_wp2_with fail
      go_round
      case rel => exact ⟨k + 1, by omega, rfl, by rw [HN.out, Int.natCast_add, Int.natCast_mul]; rfl⟩
      case measure => simp [intOf]; omega
    · obtain rfl : k = 4 := by omega
      go_wp2_with fail
      go_ret
      exact ⟨rfl, rfl⟩
end Go.Proofs.Ytlfigbgcackimaa
