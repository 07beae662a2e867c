/- Sums and frames: the plain mathematics of layer 3 (no program): the register of 32 bits and why a turned byte is told, frames, what is opened, what is scanned. -/
import Derived.Lib.Hide
namespace Go.Fm
set_option linter.unusedVariables false

/-! ### The register -/
/-- One place down. -/
def sh (c : Nat) : Nat := if c % 2 = 1 then c / 2 ^^^ 3988292384 else c / 2

theorem sh_lt {c : Nat} (h : c < 4294967296) : sh c < 4294967296 := by
  unfold sh; split
  · exact Nat.xor_lt_two_pow (n := 32) (by omega) (by decide)
  · omega

theorem cancel {a b k : Nat} (h : a ^^^ k = b ^^^ k) : a = b := by
  have := congrArg (· ^^^ k) h
  simpa only [Nat.xor_assoc, Nat.xor_self, Nat.xor_zero] using this
theorem cancel2 {a b k : Nat} (h : k ^^^ a = k ^^^ b) : a = b := cancel (k := k) (by rw [Nat.xor_comm a, Nat.xor_comm b]; exact h)

theorem top (x : Nat) (h : x < 2147483648) : 2147483648 ≤ x ^^^ 3988292384 := by
  have h1 : (x ^^^ 3988292384).testBit 31 = true := by
    rw [Nat.testBit_xor, Nat.testBit_lt_two_pow (i := 31) (by omega), show (3988292384 : Nat).testBit 31 = true by decide]; rfl
  exact Nat.ge_two_pow_of_testBit h1

theorem sh_inj {a b : Nat} (ha : a < 4294967296) (hb : b < 4294967296) (h : sh a = sh b) : a = b := by
  unfold sh at h
  have ta := top (a / 2) (by omega)
  have tb := top (b / 2) (by omega)
  split at h <;> split at h
  · have := cancel h; omega
  · omega
  · omega
  · omega

/-- Eight places down. -/
def down (c : Nat) : Nat := sh (sh (sh (sh (sh (sh (sh (sh c)))))))
theorem down_lt {c : Nat} (h : c < 4294967296) : down c < 4294967296 := by
  unfold down; exact sh_lt (sh_lt (sh_lt (sh_lt (sh_lt (sh_lt (sh_lt (sh_lt h)))))))
theorem down_inj {a b : Nat} (ha : a < 4294967296) (hb : b < 4294967296) (h : down a = down b) : a = b := by
  unfold down at h
  have a1 := sh_lt ha; have a2 := sh_lt a1; have a3 := sh_lt a2; have a4 := sh_lt a3; have a5 := sh_lt a4; have a6 := sh_lt a5; have a7 := sh_lt a6
  have b1 := sh_lt hb; have b2 := sh_lt b1; have b3 := sh_lt b2; have b4 := sh_lt b3; have b5 := sh_lt b4; have b6 := sh_lt b5; have b7 := sh_lt b6
  exact sh_inj ha hb (sh_inj a1 b1 (sh_inj a2 b2 (sh_inj a3 b3 (sh_inj a4 b4 (sh_inj a5 b5 (sh_inj a6 b6 (sh_inj a7 b7 h)))))))

/-- The register behind one byte. -/
def up (c : Nat) (x : UInt8) : Nat := down (c ^^^ x.toNat)
theorem turn_lt {c : Nat} (x : UInt8) (h : c < 4294967296) : c ^^^ x.toNat < 4294967296 :=
  Nat.xor_lt_two_pow (n := 32) h (by have := x.toNat_lt; omega)
theorem up_lt {c : Nat} (x : UInt8) (h : c < 4294967296) : up c x < 4294967296 := down_lt (turn_lt x h)
theorem up_left {a b : Nat} {x : UInt8} (ha : a < 4294967296) (hb : b < 4294967296) (h : up a x = up b x) : a = b :=
  cancel (down_inj (turn_lt x ha) (turn_lt x hb) h)
theorem up_right {a : Nat} {x y : UInt8} (ha : a < 4294967296) (h : up a x = up a y) : x = y :=
  UInt8.toNat_inj.1 (cancel2 (down_inj (turn_lt x ha) (turn_lt y ha) h))

/-- The register behind bytes. -/
def reg (c : Nat) (l : List UInt8) : Nat := l.foldl up c
theorem reg_append (c : Nat) (l m : List UInt8) : reg c (l ++ m) = reg (reg c l) m := List.foldl_append
theorem reg_lt {c : Nat} (l : List UInt8) (h : c < 4294967296) : reg c l < 4294967296 := by
  induction l generalizing c with
  | nil => exact h
  | cons x t ih => exact ih (up_lt x h)
theorem reg_inj {a b : Nat} (l : List UInt8) (ha : a < 4294967296) (hb : b < 4294967296) (h : reg a l = reg b l) : a = b := by
  induction l generalizing a b with
  | nil => exact h
  | cons x t ih => exact up_left ha hb (ih (up_lt x ha) (up_lt x hb) h)

/-- The sum. -/
def crc (l : List UInt8) : Nat := reg 4294967295 l ^^^ 4294967295
theorem crc_lt (l : List UInt8) : crc l < 4294967296 := Nat.xor_lt_two_pow (n := 32) (reg_lt l (by omega)) (by decide)
theorem crc_turn (p q : List UInt8) {x y : UInt8} (h : x ≠ y) : crc (p ++ x :: q) ≠ crc (p ++ y :: q) := by
  intro e
  have e := cancel e
  rw [reg_append, reg_append] at e
  have hp := reg_lt p (c := 4294967295) (by omega)
  exact h (up_right hp (reg_inj q (up_lt x hp) (up_lt y hp) e))

/-! ### The same by bits -/
theorem sh_bit (c j : Nat) : (sh c).testBit j = (c.testBit (j + 1) != (c.testBit 0 && (3988292384 : Nat).testBit j)) := by
  unfold sh
  rw [Nat.testBit_zero, Nat.testBit_succ]
  split
  · rename_i h; rw [Nat.testBit_xor]; simp [h]
  · rename_i h; simp [h]
theorem xor_all (c : Nat) (h : c < 4294967296) : c ^^^ 4294967295 = 4294967295 - c := by
  apply Nat.eq_of_testBit_eq
  intro i
  rw [Nat.testBit_xor, show (4294967295 : Nat) = 2 ^ 32 - 1 by decide, Nat.testBit_two_pow_sub_one, show 2 ^ 32 - 1 - c = 2 ^ 32 - (c + 1) by omega, Nat.testBit_two_pow_sub_succ (by omega)]
  by_cases hi : i < 32
  · simp [hi]
  · simp only [hi, decide_false, Bool.false_and, Bool.xor_false]
    exact Nat.testBit_lt_two_pow (Nat.lt_of_lt_of_le h (Nat.pow_le_pow_right (n := 2) (by omega) (show 32 ≤ i by omega)))

/-- What the bits that are not set are worth, the first n of them. -/
def worth (f : Nat → Bool) : Nat → Nat
  | 0 => 0
  | n + 1 => worth f n + if f n then 0 else 2 ^ n
theorem worth_bits (c n : Nat) : worth c.testBit n + c % 2 ^ n + 1 = 2 ^ n := by
  induction n with
  | zero => simp [worth, Nat.mod_one]
  | succ n ih =>
    have e := Nat.mod_pow_succ (x := c) (b := 2) (k := n)
    rw [worth, e, Nat.pow_succ, Nat.testBit_eq_decide_div_mod_eq]
    have : c / 2 ^ n % 2 < 2 := Nat.mod_lt _ (by omega)
    by_cases h : c / 2 ^ n % 2 = 1
    · simp [h]; omega
    · simp [show c / 2 ^ n % 2 = 0 by omega]; omega
theorem worth_crc (c : Nat) (h : c < 4294967296) : worth c.testBit 32 = c ^^^ 4294967295 := by
  have := worth_bits c 32
  rw [Nat.mod_eq_of_lt (by omega)] at this
  rw [xor_all c h]; omega

/-! ### Frames -/
def four (n : Nat) : List UInt8 := [UInt8.ofNat (n / 16777216), UInt8.ofNat (n / 65536), UInt8.ofNat (n / 256), UInt8.ofNat n]
def big (l : List UInt8) : Nat := l.foldl (fun n c => n * 256 + c.toNat) 0
theorem four_length (n : Nat) : (four n).length = 4 := rfl
theorem big_four {n : Nat} (h : n < 4294967296) : big (four n) = n := by
  simp only [four, big, List.foldl_cons, List.foldl_nil, UInt8.toNat_ofNat', Nat.reducePow]
  omega
theorem big_lt (l : List UInt8) (h : l.length = 4) : big l < 4294967296 := by
  match l, h with
  | [a, b, c, d], _ =>
    have := a.toNat_lt; have := b.toNat_lt; have := c.toNat_lt; have := d.toNat_lt
    simp only [big, List.foldl_cons, List.foldl_nil]
    omega
theorem four_big (l : List UInt8) (h : l.length = 4) : four (big l) = l := by
  match l, h with
  | [a, b, c, d], _ =>
    have := a.toNat_lt; have := b.toNat_lt; have := c.toNat_lt; have := d.toNat_lt
    have H : ∀ (x : UInt8) (n : Nat), n % 256 = x.toNat → UInt8.ofNat n = x := by
      intro x n hx
      apply UInt8.toNat_inj.1
      rw [UInt8.toNat_ofNat']; exact hx
    simp only [four, big, List.foldl_cons, List.foldl_nil, List.cons.injEq, and_true]
    refine ⟨?_, ?_, ?_, ?_⟩ <;> (apply H; omega)
theorem four_inj {a b : Nat} (ha : a < 4294967296) (hb : b < 4294967296) (h : four a = four b) : a = b := by
  rw [← big_four ha, ← big_four hb, h]

def frame (l : List UInt8) : List UInt8 := four l.length ++ (four (crc (four l.length ++ l)) ++ l)
theorem frame_length (l : List UInt8) : (frame l).length = 8 + l.length := by
  simp only [frame, List.length_append, four_length]; omega

/-- What bytes begin with: a load, how many bytes its frame has, no error; or none, 0 and the error. -/
def opened (b : List UInt8) : List UInt8 × Nat × Int :=
  if b.length < 8 then ([], 0, 31)
  else if 65536 < big (b.take 4) then ([], 0, 30)
  else if b.length - 8 < big (b.take 4) then ([], 0, 31)
  else if big ((b.drop 4).take 4) ≠ crc (b.take 4 ++ (b.drop 8).take (big (b.take 4))) then ([], 0, 32)
  else ((b.drop 8).take (big (b.take 4)), 8 + big (b.take 4), 0)

/-- Three parts: four bytes, four bytes, and more. -/
theorem opened_parts (s c r : List UInt8) (hs : s.length = 4) (hc : c.length = 4) :
    opened (s ++ (c ++ r)) = if 65536 < big s then ([], 0, 30) else if r.length < big s then ([], 0, 31)
      else if big c ≠ crc (s ++ r.take (big s)) then ([], 0, 32) else (r.take (big s), 8 + big s, 0) := by
  unfold opened
  have h1 : (s ++ (c ++ r)).take 4 = s := by rw [List.take_append_of_le_length (by omega), List.take_of_length_le (by omega)]
  have h2 : (s ++ (c ++ r)).drop 4 = c ++ r := by rw [List.drop_append_of_le_length (by omega), List.drop_of_length_le (by omega)]; rfl
  have h3 : (s ++ (c ++ r)).drop 8 = r := by
    rw [show 8 = 4 + 4 from rfl, ← List.drop_drop, h2, List.drop_append_of_le_length (by omega), List.drop_of_length_le (by omega)]; rfl
  have h4 : (c ++ r).take 4 = c := by rw [List.take_append_of_le_length (by omega), List.take_of_length_le (by omega)]
  have h5 : (s ++ (c ++ r)).length = 8 + r.length := by simp only [List.length_append]; omega
  rw [h1, h2, h3, h4, h5, if_neg (by omega), show 8 + r.length - 8 = r.length by omega]

theorem opened_frame (l t : List UInt8) (h : l.length ≤ 65536) : opened (frame l ++ t) = (l, 8 + l.length, 0) := by
  unfold frame
  rw [List.append_assoc, List.append_assoc, opened_parts _ _ _ (four_length _) (four_length _), big_four (by omega), if_neg (by omega), if_neg (by simp only [List.length_append]; omega),
    List.take_append_of_le_length (by omega), List.take_of_length_le (by omega), big_four (crc_lt _), if_neg (by simp)]

/-- A frame that is cut is short. -/
theorem opened_torn {l p q : List UInt8} (h : l.length ≤ 65536) (hpq : frame l = p ++ q) (hq : q ≠ []) : opened p = ([], 0, 31) := by
  have hl := congrArg List.length hpq
  rw [frame_length, List.length_append] at hl
  have h0 := List.length_pos_iff.2 hq
  by_cases h8 : p.length < 8
  · unfold opened; rw [if_pos h8]
  · have e : p = (frame l).take p.length := by rw [hpq, List.take_append_of_le_length (by omega), List.take_of_length_le (by omega)]
    unfold frame at e
    rw [List.take_append, four_length, List.take_of_length_le (by rw [four_length]; omega), List.take_append, four_length, List.take_of_length_le (by rw [four_length]; omega)] at e
    rw [e, opened_parts _ _ _ (four_length _) (four_length _), big_four (by omega), if_neg (by omega), if_pos (by rw [List.length_take]; omega)]

/-- A byte of the sum or of the load that is turned is told. -/
theorem opened_turned_sum {l c t : List UInt8} (h : l.length ≤ 65536) (hc : c.length = 4) (hne : c ≠ four (crc (four l.length ++ l))) : opened (four l.length ++ (c ++ (l ++ t))) = ([], 0, 32) := by
  rw [opened_parts _ _ _ (four_length _) hc, big_four (by omega), if_neg (by omega), if_neg (by simp only [List.length_append]; omega),
    List.take_append_of_le_length (by omega), List.take_of_length_le (by omega), if_pos]
  intro e; exact hne (by rw [← e, four_big c hc])
theorem opened_turned_load {p q t : List UInt8} {x y : UInt8} (h : (p ++ x :: q).length ≤ 65536) (hne : x ≠ y) :
    opened (four (p ++ x :: q).length ++ (four (crc (four (p ++ x :: q).length ++ (p ++ x :: q))) ++ ((p ++ y :: q) ++ t))) = ([], 0, 32) := by
  have hl : (p ++ y :: q).length = (p ++ x :: q).length := by simp
  rw [opened_parts _ _ _ (four_length _) (four_length _), big_four (by omega), if_neg (by omega), if_neg (by rw [List.length_append, hl]; omega),
    List.take_append_of_le_length (by omega), List.take_of_length_le (by omega), big_four (crc_lt _), if_pos]
  rw [← List.append_assoc, ← List.append_assoc]
  exact crc_turn _ q hne

/-- What is told has the frame of its load ahead. -/
theorem opened_only {b l : List UInt8} {n : Nat} (h : opened b = (l, n, 0)) : l.length ≤ 65536 ∧ n = 8 + l.length ∧ b = frame l ++ b.drop n := by
  unfold opened at h
  split at h
  · cases h
  · split at h
    · cases h
    · split at h
      · cases h
      · split at h
        · cases h
        · rename_i h1 h2 h3 h4
          simp only [Prod.mk.injEq, and_true] at h
          obtain ⟨rfl, rfl⟩ := h
          have hl : ((b.drop 8).take (big (b.take 4))).length = big (b.take 4) := by simp only [List.length_take, List.length_drop]; omega
          have hf : four (big (b.take 4)) = b.take 4 := four_big _ (by simp only [List.length_take]; omega)
          rw [hl]
          refine ⟨by omega, rfl, ?_⟩
          unfold frame
          rw [hl, hf, ← Decidable.not_not.1 h4, four_big _ (by simp only [List.length_take, List.length_drop]; omega), List.append_assoc, List.append_assoc,
            ← List.drop_drop, List.take_append_drop, show 8 = 4 + 4 from rfl, ← List.drop_drop, List.take_append_drop, List.take_append_drop]

theorem opened_err (b : List UInt8) (h : (opened b).2.2 ≠ 0) : (opened b).1 = [] ∧ (opened b).2.1 = 0 := by
  unfold opened at h ⊢
  (repeat' split) <;> simp_all

/-! ### Scanning -/
def scanN : Nat → List UInt8 → List (List UInt8) × Nat
  | 0, _ => ([], 0)
  | f + 1, b => if (opened b).2.2 = 0 then ((opened b).1 :: (scanN f (b.drop (opened b).2.1)).1, (opened b).2.1 + (scanN f (b.drop (opened b).2.1)).2) else ([], 0)
def scan (b : List UInt8) : List (List UInt8) × Nat := scanN (b.length + 1) b

theorem opened_pos {b : List UInt8} (h : (opened b).2.2 = 0) : 8 ≤ (opened b).2.1 ∧ (opened b).2.1 ≤ b.length := by
  have e : opened b = ((opened b).1, (opened b).2.1, 0) := by rw [← h]
  obtain ⟨_, h2, h3⟩ := opened_only e
  have h4 := congrArg List.length h3
  rw [List.length_append, frame_length, List.length_drop] at h4
  omega
theorem scanN_more (f : Nat) : ∀ (b : List UInt8) (g : Nat), b.length < f → f ≤ g → scanN g b = scanN f b := by
  induction f with
  | zero => intro b g h; omega
  | succ f ih =>
    intro b g h hg
    obtain ⟨g, rfl⟩ : ∃ k, g = k + 1 := ⟨g - 1, by omega⟩
    rw [scanN, scanN]
    by_cases h0 : (opened b).2.2 = 0
    · have := opened_pos h0
      rw [if_pos h0, if_pos h0, ih (b.drop (opened b).2.1) g (by rw [List.length_drop]; omega) (by omega)]
    · rw [if_neg h0, if_neg h0]
theorem scan_err {b : List UInt8} (h : (opened b).2.2 ≠ 0) : scan b = ([], 0) := by unfold scan; rw [scanN, if_neg h]
theorem scan_ok {b : List UInt8} (h : (opened b).2.2 = 0) :
    scan b = ((opened b).1 :: (scan (b.drop (opened b).2.1)).1, (opened b).2.1 + (scan (b.drop (opened b).2.1)).2) := by
  have hp := opened_pos h
  unfold scan
  rw [scanN, if_pos h, scanN_more ((b.drop (opened b).2.1).length + 1) (b.drop (opened b).2.1) b.length (by omega) (by rw [List.length_drop]; omega)]
theorem scan_frame (l t : List UInt8) (h : l.length ≤ 65536) : scan (frame l ++ t) = (l :: (scan t).1, 8 + l.length + (scan t).2) := by
  have e := opened_frame l t h
  have hd : (frame l ++ t).drop (8 + l.length) = t := by
    rw [List.drop_append_of_le_length (by rw [frame_length]; omega), List.drop_of_length_le (by rw [frame_length]; omega)]; rfl
  rw [scan_ok (by rw [e]), e]; simp only [hd]

def frames (m : List (List UInt8)) : List UInt8 := m.flatMap frame
theorem frames_cons (l : List UInt8) (m : List (List UInt8)) : frames (l :: m) = frame l ++ frames m := by simp [frames]
theorem frames_append (l m : List (List UInt8)) : frames (l ++ m) = frames l ++ frames m := by simp [frames]
theorem scan_frames (m : List (List UInt8)) (t : List UInt8) (h : ∀ l ∈ m, l.length ≤ 65536) : scan (frames m ++ t) = (m ++ (scan t).1, (frames m).length + (scan t).2) := by
  induction m with
  | nil => simp [frames]
  | cons l m ih =>
    rw [frames_cons, List.append_assoc, scan_frame _ _ (h l (by simp)), ih fun x hx => h x (by simp [hx])]
    simp only [List.length_append, frame_length, List.cons_append, Prod.mk.injEq, true_and]
    omega
theorem scan_nil : scan [] = ([], 0) := scan_err (by unfold opened; simp)
/-- Frames that are cut anywhere: the whole ones, counted by 'k'. -/
theorem scan_torn (m : List (List UInt8)) (n k : Nat) (h : ∀ l ∈ m, l.length ≤ 65536) (hk : k ≤ m.length) (h1 : (frames (m.take k)).length ≤ n)
    (h2 : ∀ l, m[k]? = some l → n < (frames (m.take k)).length + 8 + l.length) : scan ((frames m).take n) = (m.take k, (frames (m.take k)).length) := by
  have e : frames m = frames (m.take k) ++ frames (m.drop k) := by rw [← frames_append, List.take_append_drop]
  have hm : ∀ l ∈ m.take k, l.length ≤ 65536 := fun l hl => h l (List.mem_of_mem_take hl)
  rw [e, List.take_append, List.take_of_length_le h1, scan_frames _ _ hm]
  cases hd : m.drop k with
  | nil => simp [frames, scan_nil]
  | cons l r =>
    have hl : m[k]? = some l := by
      have := List.getElem?_drop (xs := m) (i := k) (j := 0)
      rw [hd] at this; simpa using this.symm
    have h3 := h2 l hl
    have hlm : l ∈ m := List.mem_of_getElem? hl
    have e2 : (frames (l :: r)).take (n - (frames (m.take k)).length) = (frame l).take (n - (frames (m.take k)).length) := by
      rw [frames_cons, List.take_append_of_le_length (by rw [frame_length]; omega)]
    rw [e2, scan_err]
    · simp
    · rw [opened_torn (h l hlm) (List.take_append_drop (n - (frames (m.take k)).length) (frame l)).symm]
      · simp
      · intro e0
        have := congrArg List.length e0
        rw [List.length_drop, frame_length, List.length_nil] at this
        omega
end Go.Fm
