/- Written and read: the plain mathematics of layer 2, continued: reading leads back from writing, and only from there; what is cut is short. -/
import Derived.Test.YtmaeacklloaeaaaWireM
namespace Go.Wr
open Go.Fl
set_option linter.unusedVariables false
set_option linter.unusedSimpArgs false

theorem ofNat_toNat {n : Nat} (h : n < 256) : (UInt8.ofNat n).toNat = n := by simp [UInt8.toNat_ofNat']; omega
theorem u8_eq {c : UInt8} {n : Nat} (h : c.toNat = n) : c = UInt8.ofNat n := by rw [← h]; simp

theorem pow_split (j : Nat) (h : j ≤ 8) : 2 ^ (64 - 7 * j) = 128 * 2 ^ (64 - 7 * (j + 1)) := by
  rw [show 64 - 7 * j = 64 - 7 * (j + 1) + 7 by omega, Nat.pow_add]; omega
theorem pow_up (j : Nat) : 2 ^ (7 * (j + 1)) = 128 * 2 ^ (7 * j) := by rw [show 7 * (j + 1) = 7 * j + 7 by omega, Nat.pow_add]; omega

theorem rdNum_num (n : Nat) : ∀ j acc r, j ≤ 9 → n < 2 ^ (64 - 7 * j) → (j = 0 ∨ 0 < n) → rdNum j acc (num n ++ r) = .ok (acc + n * 2 ^ (7 * j)) r := by
  induction n using Nat.strongRecOn with
  | ind n ih =>
    intro j acc r hj hn h0
    by_cases h : n < 128
    · rw [num_lt h]
      simp only [List.cons_append, List.nil_append, rdNum, ofNat_toNat (show n < 256 by omega)]
      rw [if_neg, if_pos h]
      rintro (⟨rfl, h2⟩ | h2)
      · simp at hn; omega
      · omega
    · rw [num_ge h]
      have hj8 : j ≤ 8 := by
        by_cases g : j = 9
        · subst g; simp at hn; omega
        · omega
      simp only [List.cons_append, rdNum, ofNat_toNat (show n % 128 + 128 < 256 by omega)]
      rw [if_neg (by omega), if_neg (by omega)]
      have hs := pow_split j hj8
      have hu := pow_up j
      rw [ih (n / 128) (by omega) (j + 1) _ r (by omega) (by rw [hs] at hn; omega) (by omega)]
      rw [hu, Nat.add_sub_cancel]
      congr 1
      have e := Nat.div_add_mod n 128
      conv => rhs; rw [← e]
      rw [Nat.add_mul, Nat.mul_comm 128 (n / 128), Nat.mul_assoc]
      omega

theorem rdNum_only (l : List UInt8) : ∀ j acc n r, j ≤ 9 → rdNum j acc l = .ok n r →
    ∃ m, n = acc + m * 2 ^ (7 * j) ∧ m < 2 ^ (64 - 7 * j) ∧ (j = 0 ∨ 0 < m) ∧ l = num m ++ r := by
  induction l with
  | nil => intro j acc n r _ h; simp [rdNum] at h
  | cons c t ih =>
    intro j acc n r hj h
    have hc := c.toNat_lt
    unfold rdNum at h
    split at h
    · cases h
    · rename_i h1
      split at h
      · rename_i h2
        injection h with h3 h4
        subst h3 h4
        refine ⟨c.toNat, rfl, ?_, by omega, ?_⟩
        · by_cases g : j = 9
          · subst g; simp; omega
          · have : 2 ^ 7 ≤ 2 ^ (64 - 7 * j) := Nat.pow_le_pow_right (by omega) (by omega)
            omega
        · rw [num_lt h2]; simp
      · rename_i h2
        have hj8 : j ≤ 8 := by omega
        obtain ⟨m, h3, h4, h5, h6⟩ := ih (j + 1) _ n r (by omega) h
        refine ⟨c.toNat - 128 + 128 * m, ?_, ?_, by omega, ?_⟩
        · rw [h3, pow_up j, Nat.add_mul, Nat.mul_comm 128 m, Nat.mul_assoc]; omega
        · rw [pow_split j hj8]; omega
        · rw [num_ge (by omega), show (c.toNat - 128 + 128 * m) / 128 = m by omega, show (c.toNat - 128 + 128 * m) % 128 + 128 = c.toNat by omega]
          simp [h6]

theorem num_ne (n : Nat) : num n ≠ [] := by
  by_cases h : n < 128
  · rw [num_lt h]; simp
  · rw [num_ge h]; simp

theorem rdNum_cut (n : Nat) : ∀ j acc p q, j ≤ 9 → n < 2 ^ (64 - 7 * j) → (j = 0 ∨ 0 < n) → num n = p ++ q → q ≠ [] → rdNum j acc p = .err 22 := by
  induction n using Nat.strongRecOn with
  | ind n ih =>
    intro j acc p q hj hn h0 hpq hq
    cases p with
    | nil => rfl
    | cons c t =>
      by_cases h : n < 128
      · rw [num_lt h] at hpq
        simp only [List.cons_append, List.cons.injEq] at hpq
        exact absurd (List.append_eq_nil_iff.1 hpq.2.symm).2 hq
      · rw [num_ge h] at hpq
        simp only [List.cons_append, List.cons.injEq] at hpq
        obtain ⟨rfl, hpq⟩ := hpq
        have hj8 : j ≤ 8 := by
          by_cases g : j = 9
          · subst g; simp at hn; omega
          · omega
        have hs := pow_split j hj8
        simp only [rdNum, ofNat_toNat (show n % 128 + 128 < 256 by omega)]
        rw [if_neg (by omega), if_neg (by omega)]
        exact ih (n / 128) (by omega) (j + 1) _ t q (by omega) (by rw [hs] at hn; omega) (by omega) hpq hq

theorem eight_length (n : Nat) : (eight n).length = 8 := by simp [eight]
theorem eight_list (n : Nat) : eight n = [UInt8.ofNat (n / 2 ^ 56), UInt8.ofNat (n / 2 ^ 48), UInt8.ofNat (n / 2 ^ 40), UInt8.ofNat (n / 2 ^ 32), UInt8.ofNat (n / 2 ^ 24), UInt8.ofNat (n / 2 ^ 16), UInt8.ofNat (n / 2 ^ 8), UInt8.ofNat n] := by
  simp [eight, List.range, List.range.loop]
theorem big_eight (n : Nat) (h : n < 18446744073709551616) : big (eight n) = n := by
  rw [eight_list]
  simp only [big, List.foldl_cons, List.foldl_nil, UInt8.toNat_ofNat', Nat.reducePow]
  omega
theorem big_lt (l : List UInt8) : big l < 256 ^ l.length := by
  have : ∀ (l : List UInt8) (a b : Nat), a < b → l.foldl (fun n c => n * 256 + c.toNat) a < b * 256 ^ l.length := by
    intro l
    induction l with
    | nil => intro a b h; simpa using h
    | cons c t ih =>
      intro a b h
      have hc := c.toNat_lt
      have := ih (a * 256 + c.toNat) (b * 256) (by omega)
      rw [List.foldl_cons, List.length_cons, Nat.pow_succ, Nat.mul_comm (256 ^ t.length), ← Nat.mul_assoc]; exact this
  have := this l 0 1 (by omega)
  rwa [Nat.one_mul] at this
theorem eight_big (l : List UInt8) (h : l.length = 8) : eight (big l) = l := by
  match l, h with
  | [a, b, c, d, e, f, g, i], _ =>
    rw [eight_list]
    have := a.toNat_lt; have := b.toNat_lt; have := c.toNat_lt; have := d.toNat_lt
    have := e.toNat_lt; have := f.toNat_lt; have := g.toNat_lt; have := i.toNat_lt
    have H : ∀ (x : UInt8) (n : Nat), n % 256 = x.toNat → UInt8.ofNat n = x := by
      intro x n hx
      apply UInt8.toNat_inj.1
      rw [UInt8.toNat_ofNat']; exact hx
    simp only [big, List.foldl_cons, List.foldl_nil, Nat.reducePow, List.cons.injEq, and_true]
    refine ⟨?_, ?_, ?_, ?_, ?_, ?_, ?_, ?_⟩ <;> (apply H; omega)

theorem rdFloat_eight (n : Nat) (r : List UInt8) (h : n < 18446744073709551616) (hu : usu n = n) : rdFloat (eight n ++ r) = .ok n r := by
  unfold rdFloat
  have h1 : (eight n ++ r).take 8 = eight n := by rw [List.take_append_of_le_length (by rw [eight_length]; omega), List.take_of_length_le (by rw [eight_length]; omega)]
  have h2 : (eight n ++ r).drop 8 = r := by rw [List.drop_append_of_le_length (by rw [eight_length]; omega), List.drop_of_length_le (by rw [eight_length]; omega)]; rfl
  rw [if_neg (by rw [List.length_append, eight_length]; omega), h1, h2, big_eight n h, if_neg (by simpa using hu)]
theorem rdFloat_only {l r : List UInt8} {n : Nat} (h : rdFloat l = .ok n r) : n < 18446744073709551616 ∧ usu n = n ∧ l = eight n ++ r := by
  unfold rdFloat at h
  split at h
  · cases h
  · split at h
    · cases h
    · rename_i h1 h2
      injection h with h3 h4
      subst h3 h4
      have hl : (l.take 8).length = 8 := by simp; omega
      refine ⟨?_, by simpa using h2, by rw [eight_big _ hl, List.take_append_drop]⟩
      have := big_lt (l.take 8)
      rw [hl] at this
      simpa using this
theorem rdFloat_cut {p : List UInt8} (h : p.length < 8) : rdFloat p = .err 22 := by unfold rdFloat; rw [if_pos h]

theorem ba_eta (s : ByteArray) : (⟨s.data.toList.toArray⟩ : ByteArray) = s := by cases s; simp
theorem ba_size (s : ByteArray) : s.data.toList.length = s.size := by cases s; simp [ByteArray.size]
theorem rdText_text (s : ByteArray) (r : List UInt8) (h : s.size ≤ 1000) : rdText (num s.size ++ (s.data.toList ++ r)) = .ok s r := by
  unfold rdText
  rw [rdNum_num s.size 0 0 _ (by omega) (by simp; omega) (.inl rfl)]
  simp only [Nat.zero_add, Nat.mul_zero, Nat.pow_zero, Nat.mul_one]
  rw [if_neg (by omega), if_neg (by rw [List.length_append, ba_size]; omega), List.take_append_of_le_length (by rw [ba_size]; omega), List.take_of_length_le (by rw [ba_size]; omega), ba_eta,
    List.drop_append_of_le_length (by rw [ba_size]; omega), List.drop_of_length_le (by rw [ba_size]; omega)]; rfl
theorem rdText_only {l r : List UInt8} {s : ByteArray} (h : rdText l = .ok s r) : s.size ≤ 1000 ∧ l = num s.size ++ (s.data.toList ++ r) := by
  unfold rdText at h
  split at h
  · cases h
  · rename_i n r' h1
    obtain ⟨m, h2, h3, h4, h5⟩ := rdNum_only _ _ _ _ _ (by omega) h1
    split at h
    · cases h
    · split at h
      · cases h
      · rename_i h6 h7
        injection h with h8 h9
        subst h8 h9
        have hs : (⟨(r'.take n).toArray⟩ : ByteArray).size = n := by simp [ByteArray.size]; omega
        refine ⟨by rw [hs]; omega, ?_⟩
        rw [hs, h5, show m = n by simpa using h2.symm]
        simp
theorem rdText_cut {s : ByteArray} {p q : List UInt8} (h : s.size ≤ 1000) (hpq : num s.size ++ s.data.toList = p ++ q) (hq : q ≠ []) : rdText p = .err 22 := by
  unfold rdText
  rcases List.append_eq_append_iff.1 hpq with ⟨a, rfl, h2⟩ | ⟨a, h1, rfl⟩
  · rw [rdNum_num s.size 0 0 _ (by omega) (by simp; omega) (.inl rfl)]
    simp only [Nat.zero_add, Nat.mul_zero, Nat.pow_zero, Nat.mul_one]
    have : a.length < s.size := by
      have := congrArg List.length h2
      rw [List.length_append, ba_size] at this
      have := List.length_pos_iff.2 hq
      omega
    rw [if_neg (by omega), if_pos this]
  · cases a with
    | nil =>
      simp at h1
      rw [← h1, ← List.append_nil (num s.size), rdNum_num s.size 0 0 _ (by omega) (by simp; omega) (.inl rfl)]
      simp only [Nat.zero_add, Nat.mul_zero, Nat.pow_zero, Nat.mul_one, List.length_nil]
      have : 0 < s.size := by
        have := List.length_pos_iff.2 hq
        rw [List.nil_append, ba_size] at this
        exact this
      rw [if_neg (by omega), if_pos this]
    | cons c t => rw [rdNum_cut s.size 0 0 p (c :: t) (by omega) (by simp; omega) (.inl rfl) h1 (by simp)]

/-! ### A value -/
def nrm (v : Val) : Val := { v with f := usu v.f }
theorem empty_of_size {s : ByteArray} (h : s.size = 0) : s = empty := by
  cases s with
  | mk d =>
    simp [ByteArray.size] at h
    simp [empty, h]
theorem usu_zero : usu 0 = 0 := by decide

theorem rdVal_enc {v : Val} (hw : v.wf) (hv : valid v = 0) (r : List UInt8) : rdVal (enc v ++ r) = .ok (nrm v) r := by
  obtain ⟨k, u, i, f, s⟩ := v
  obtain ⟨w1, w2, w3, w4, w5, w6, w7, w8⟩ := hw
  simp only at w1 w2 w3 w4 w5 w6 w7 w8
  simp only [valid] at hv
  (repeat' split at hv) <;> try (exfalso; omega)
  rename_i h1 h2 h3 h4 h5 h6
  have hk : k = 1 ∨ k = 2 ∨ k = 3 ∨ k = 4 := by omega
  simp only [enc, encBody, nrm]
  rcases hk with rfl | rfl | rfl | rfl
  · obtain rfl : i = 0 := by omega
    obtain rfl : f = 0 := by omega
    obtain rfl := empty_of_size (show s.size = 0 by omega)
    simp only [rdVal, List.cons_append, show (byteOf 1).toNat = 1 from rfl, if_true]
    rw [rdNum_num u.toNat 0 0 r (by omega) (by simp; omega) (.inl rfl)]
    simp only [Nat.zero_add, Nat.mul_zero, Nat.pow_zero, Nat.mul_one, usu_zero]
    rw [Int.toNat_of_nonneg w3]
  · obtain rfl : u = 0 := by omega
    obtain rfl : f = 0 := by omega
    obtain rfl := empty_of_size (show s.size = 0 by omega)
    simp only [rdVal, List.cons_append, show (byteOf 2).toNat = 2 from rfl, if_true, show ¬ (2 : Int) = 1 by omega, show ¬ (2 : Nat) = 1 by omega, if_false]
    rw [rdNum_num (un i) 0 0 r (by omega) (by have := un_lt i w5 w6; simpa using this) (.inl rfl)]
    simp only [Nat.zero_add, Nat.mul_zero, Nat.pow_zero, Nat.mul_one, usu_zero, sg_un]
  · obtain rfl : u = 0 := by omega
    obtain rfl : i = 0 := by omega
    obtain rfl := empty_of_size (show s.size = 0 by omega)
    simp only [rdVal, List.cons_append, show (byteOf 3).toNat = 3 from rfl, if_true, show ¬ (3 : Int) = 1 by omega, show ¬ (3 : Int) = 2 by omega, show ¬ (3 : Nat) = 1 by omega, show ¬ (3 : Nat) = 2 by omega, if_false]
    rw [rdFloat_eight (usu f) r (usu_lt w7) (usu_usu f)]
  · obtain rfl : u = 0 := by omega
    obtain rfl : i = 0 := by omega
    obtain rfl : f = 0 := by omega
    simp only [rdVal, List.cons_append, List.append_assoc, show (byteOf 4).toNat = 4 from rfl, if_true, show ¬ (4 : Int) = 1 by omega, show ¬ (4 : Int) = 2 by omega, show ¬ (4 : Int) = 3 by omega, show ¬ (4 : Nat) = 1 by omega, show ¬ (4 : Nat) = 2 by omega, show ¬ (4 : Nat) = 3 by omega, if_false]
    rw [rdText_text s r (by omega)]
    simp only [usu_zero]

theorem byte_of {c : UInt8} {k : Nat} (h : c.toNat = k) : c = byteOf k := by
  have := c.toNat_lt
  rw [u8_eq h]; unfold byteOf
  rw [show ((k : Int) % 256).toNat = k by omega]

theorem rdVal_only {l r : List UInt8} {v : Val} (h : rdVal l = .ok v r) : v.wf ∧ valid v = 0 ∧ usu v.f = v.f ∧ l = enc v ++ r := by
  cases l with
  | nil => simp [rdVal] at h
  | cons c t =>
    simp only [rdVal] at h
    split at h
    · rename_i hc
      obtain ⟨n, r', h1⟩ : ∃ n r', rdNum 0 0 t = .ok n r' := by
        cases hn : rdNum 0 0 t with
        | err e => rw [hn] at h; cases h
        | ok n r' => exact ⟨n, r', rfl⟩
      rw [h1] at h
      obtain ⟨m, h2, h3, h4, h5⟩ := rdNum_only _ _ _ _ _ (by omega) h1
      simp at h2 h3
      subst h2
      injection h with h6 h7
      subst h6 h7
      refine ⟨⟨by simp, by simp, by simp, by simp; omega, by simp, by simp, by simp, by simp [empty, ByteArray.size]⟩, ?_, usu_zero, ?_⟩
      · simp [valid, empty, ByteArray.size]
      · rw [byte_of hc, h5]; simp [enc, encBody]
    · split at h
      · rename_i hc
        obtain ⟨n, r', h1⟩ : ∃ n r', rdNum 0 0 t = .ok n r' := by
          cases hn : rdNum 0 0 t with
          | err e => rw [hn] at h; cases h
          | ok n r' => exact ⟨n, r', rfl⟩
        rw [h1] at h
        obtain ⟨m, h2, h3, h4, h5⟩ := rdNum_only _ _ _ _ _ (by omega) h1
        simp at h2 h3
        subst h2
        injection h with h6 h7
        subst h6 h7
        have hf := sg_fits n h3
        refine ⟨⟨by simp, by simp, by simp, by simp, hf.1, hf.2, by simp, by simp [empty, ByteArray.size]⟩, ?_, usu_zero, ?_⟩
        · simp [valid, empty, ByteArray.size]
        · rw [byte_of hc, h5]; simp [enc, encBody, un_sg]
      · split at h
        · rename_i hc
          obtain ⟨n, r', h1⟩ : ∃ n r', rdFloat t = .ok n r' := by
            cases hn : rdFloat t with
            | err e => rw [hn] at h; cases h
            | ok n r' => exact ⟨n, r', rfl⟩
          rw [h1] at h
          obtain ⟨h2, h3, h4⟩ := rdFloat_only h1
          injection h with h6 h7
          subst h6 h7
          refine ⟨⟨by simp, by simp, by simp, by simp, by simp, by simp, h2, by simp [empty, ByteArray.size]⟩, ?_, h3, ?_⟩
          · simp [valid, empty, ByteArray.size]
          · rw [byte_of hc, h4]; simp [enc, encBody, h3]
        · split at h
          · rename_i hc
            obtain ⟨n, r', h1⟩ : ∃ n r', rdText t = .ok n r' := by
              cases hn : rdText t with
              | err e => rw [hn] at h; cases h
              | ok n r' => exact ⟨n, r', rfl⟩
            rw [h1] at h
            obtain ⟨h2, h3⟩ := rdText_only h1
            injection h with h6 h7
            subst h6 h7
            refine ⟨⟨by simp, by simp, by simp, by simp, by simp, by simp, by simp, by simp; omega⟩, ?_, usu_zero, ?_⟩
            · simp [valid]; omega
            · rw [byte_of hc, h3]; simp [enc, encBody]
          · cases h

theorem rdVal_cut {v : Val} (hw : v.wf) (hv : valid v = 0) {p q : List UInt8} (hpq : enc v = p ++ q) (hq : q ≠ []) : rdVal p = .err 22 := by
  cases p with
  | nil => rfl
  | cons c t =>
    obtain ⟨k, u, i, f, s⟩ := v
    obtain ⟨w1, w2, w3, w4, w5, w6, w7, w8⟩ := hw
    simp only at w1 w2 w3 w4 w5 w6 w7 w8
    simp only [valid] at hv
    (repeat' split at hv) <;> try (exfalso; omega)
    rename_i h1 h2 h3 h4 h5 h6
    have hk : k = 1 ∨ k = 2 ∨ k = 3 ∨ k = 4 := by omega
    simp only [enc, encBody, List.cons_append, List.cons.injEq] at hpq
    obtain ⟨rfl, hpq⟩ := hpq
    rcases hk with rfl | rfl | rfl | rfl
    · simp only [if_true] at hpq
      simp only [rdVal, show (byteOf 1).toNat = 1 from rfl, if_true]
      rw [rdNum_cut u.toNat 0 0 t q (by omega) (by simp; omega) (.inl rfl) hpq hq]
    · simp only [show ¬ (2 : Int) = 1 by omega, if_false, if_true] at hpq
      simp only [rdVal, show (byteOf 2).toNat = 2 from rfl, if_true, show ¬ (2 : Nat) = 1 by omega, if_false]
      rw [rdNum_cut (un i) 0 0 t q (by omega) (by have := un_lt i w5 w6; simpa using this) (.inl rfl) hpq hq]
    · simp only [show ¬ (3 : Int) = 1 by omega, show ¬ (3 : Int) = 2 by omega, if_false, if_true] at hpq
      simp only [rdVal, show (byteOf 3).toNat = 3 from rfl, if_true, show ¬ (3 : Nat) = 1 by omega, show ¬ (3 : Nat) = 2 by omega, if_false]
      rw [rdFloat_cut]
      have := congrArg List.length hpq
      rw [List.length_append, eight_length] at this
      have := List.length_pos_iff.2 hq
      omega
    · simp only [show ¬ (4 : Int) = 1 by omega, show ¬ (4 : Int) = 2 by omega, show ¬ (4 : Int) = 3 by omega, if_false] at hpq
      simp only [rdVal, show (byteOf 4).toNat = 4 from rfl, if_true, show ¬ (4 : Nat) = 1 by omega, show ¬ (4 : Nat) = 2 by omega, show ¬ (4 : Nat) = 3 by omega, if_false]
      rw [rdText_cut (by omega) hpq hq]
end Go.Wr
