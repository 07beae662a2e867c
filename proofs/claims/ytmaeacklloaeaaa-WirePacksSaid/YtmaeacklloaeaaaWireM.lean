/- Lists of values as bytes: the plain mathematics of layer 2 (no program): how values are written, how they are read, and that these are inverse to each other. -/
import Derived.Test.YtmaeacklloaeaaaFloat
namespace Go.Wr
open Go.Fl
set_option linter.unusedVariables false

/-- A value: its kind, and its four fields. -/
structure Val where
  k : Int
  u : Int
  i : Int
  f : Nat
  s : ByteArray

def Val.wf (v : Val) : Prop :=
  -9223372036854775808 ≤ v.k ∧ v.k < 9223372036854775808 ∧ 0 ≤ v.u ∧ v.u < 18446744073709551616 ∧
  -9223372036854775808 ≤ v.i ∧ v.i < 9223372036854775808 ∧ v.f < 18446744073709551616 ∧ v.s.size ≤ 9223372036854775807

/-- A number's bytes. -/
def num (n : Nat) : List UInt8 := if h : n < 128 then [UInt8.ofNat n] else UInt8.ofNat (n % 128 + 128) :: num (n / 128)
termination_by n
decreasing_by omega

theorem num_lt {n : Nat} (h : n < 128) : num n = [UInt8.ofNat n] := by rw [num]; simp [h]
theorem num_ge {n : Nat} (h : ¬ n < 128) : num n = UInt8.ofNat (n % 128 + 128) :: num (n / 128) := by rw [num]; simp [h]

def eight (n : Nat) : List UInt8 := (List.range 8).map fun j => UInt8.ofNat (n / 2 ^ (56 - 8 * j))

def un (i : Int) : Nat := if i < 0 then (-2 * i - 1).toNat else (2 * i).toNat
def sg (n : Nat) : Int := if n % 2 = 1 then -(n / 2 : Nat) - 1 else (n / 2 : Nat)
theorem sg_un (i : Int) : sg (un i) = i := by unfold sg un; split <;> split <;> omega
theorem un_sg (n : Nat) : un (sg n) = n := by unfold sg un; split <;> split <;> omega
theorem un_lt (i : Int) (h : -9223372036854775808 ≤ i) (h2 : i < 9223372036854775808) : un i < 18446744073709551616 := by unfold un; split <;> omega
theorem sg_fits (n : Nat) (h : n < 18446744073709551616) : -9223372036854775808 ≤ sg n ∧ sg n < 9223372036854775808 := by unfold sg; split <;> omega

def usu (f : Nat) : Nat := if nan f then 9221120237041090561 else f
theorem usu_lt {f : Nat} (h : f < 18446744073709551616) : usu f < 18446744073709551616 := by unfold usu; split <;> omega
theorem nan_usual : nan 9221120237041090561 = true := by decide
theorem usu_usu (f : Nat) : usu (usu f) = usu f := by
  unfold usu
  by_cases h : nan f = true
  · simp [h, nan_usual]
  · simp [h]

theorem usu_key (f : Nat) (h : f < 18446744073709551616) : ofBits (key f) = usu f := by
  unfold usu ofBits ofB key
  have := nan_dec f h
  by_cases hn : nan f = true
  · rw [hn] at this
    have h2 := of_decide_eq_true this.symm
    rw [if_pos hn, if_pos h2]; rfl
  · rw [if_neg hn]
    rw [Bool.not_eq_true] at hn
    rw [hn] at this
    have h2 := of_decide_eq_false this.symm
    rw [if_neg h2]
    (repeat' split) <;> omega

def byteOf (k : Int) : UInt8 := UInt8.ofNat (k % 256).toNat
def encBody (v : Val) : List UInt8 :=
  if v.k = 1 then num v.u.toNat else if v.k = 2 then num (un v.i) else if v.k = 3 then eight (usu v.f) else num v.s.size ++ v.s.data.toList
def enc (v : Val) : List UInt8 := byteOf v.k :: encBody v

def valid (v : Val) : Int :=
  if v.k < 1 ∨ 4 < v.k then 21 else if v.k ≠ 1 ∧ v.u ≠ 0 then 21 else if v.k ≠ 2 ∧ v.i ≠ 0 then 21 else if v.k ≠ 3 ∧ v.f ≠ 0 then 21
  else if v.k ≠ 4 ∧ v.s.size ≠ 0 then 21 else if 1000 < v.s.size then 24 else 0

def err1 : List Val → Int
  | [] => 0
  | v :: l => if valid v = 0 then err1 l else valid v
def encs (l : List Val) : List UInt8 := l.flatMap enc
def packE (l : List Val) : Int := if 1000 < l.length then 20 else err1 l
def packB (l : List Val) : List UInt8 := if packE l = 0 then encs l else []

/-! ### Reading -/
/-- What reading leads to: a value and what is left, or an error. -/
inductive Got (α : Type) where
  | ok (a : α) (r : List UInt8)
  | err (e : Int)

def rdNum (j acc : Nat) : List UInt8 → Got Nat
  | [] => .err 22
  | c :: r => if (j = 9 ∧ 1 < c.toNat) ∨ (0 < j ∧ c.toNat = 0) then .err 23
      else if c.toNat < 128 then .ok (acc + c.toNat * 2 ^ (7 * j)) r else rdNum (j + 1) (acc + (c.toNat - 128) * 2 ^ (7 * j)) r

def big (l : List UInt8) : Nat := l.foldl (fun n c => n * 256 + c.toNat) 0
def rdFloat (l : List UInt8) : Got Nat :=
  if l.length < 8 then .err 22 else if usu (big (l.take 8)) ≠ big (l.take 8) then .err 25 else .ok (big (l.take 8)) (l.drop 8)
def rdText (l : List UInt8) : Got ByteArray :=
  match rdNum 0 0 l with
  | .err e => .err e
  | .ok n r => if 1000 < n then .err 24 else if r.length < n then .err 22 else .ok ⟨(r.take n).toArray⟩ (r.drop n)

def empty : ByteArray := ⟨#[]⟩
def rdVal : List UInt8 → Got Val
  | [] => .err 22
  | c :: r =>
    if c.toNat = 1 then (match rdNum 0 0 r with | .ok n r' => .ok ⟨1, n, 0, 0, empty⟩ r' | .err e => .err e)
    else if c.toNat = 2 then (match rdNum 0 0 r with | .ok n r' => .ok ⟨2, 0, sg n, 0, empty⟩ r' | .err e => .err e)
    else if c.toNat = 3 then (match rdFloat r with | .ok n r' => .ok ⟨3, 0, 0, n, empty⟩ r' | .err e => .err e)
    else if c.toNat = 4 then (match rdText r with | .ok s r' => .ok ⟨4, 0, 0, 0, s⟩ r' | .err e => .err e)
    else .err 21

theorem rdNum_lt (l : List UInt8) : ∀ j acc n r, rdNum j acc l = .ok n r → r.length < l.length := by
  induction l with
  | nil => intro j acc n r h; simp [rdNum] at h
  | cons c t ih =>
    intro j acc n r h
    unfold rdNum at h
    split at h
    · cases h
    · split at h
      · injection h with h1 h2; subst h2; simp
      · have := ih _ _ _ _ h; simp; omega

theorem rdVal_lt {l r : List UInt8} {v : Val} (h : rdVal l = .ok v r) : r.length < l.length := by
  cases l with
  | nil => simp [rdVal] at h
  | cons c t =>
    simp only [rdVal] at h
    (repeat' split at h) <;> try cases h
    · rename_i h1; have := rdNum_lt _ _ _ _ _ h1; simp; omega
    · rename_i h1; have := rdNum_lt _ _ _ _ _ h1; simp; omega
    · rename_i h1
      unfold rdFloat at h1
      (repeat' split at h1) <;> try cases h1
      simp; omega
    · rename_i h1
      unfold rdText at h1
      split at h1
      · cases h1
      · rename_i h2
        have := rdNum_lt _ _ _ _ _ h2
        (repeat' split at h1) <;> try cases h1
        simp; omega

/-- All values: 'k': how many there were; 'at': how many bytes stand ahead. The values, the place, the error. -/
def rdAll (k at_ : Nat) (l : List UInt8) : List Val × Nat × Int :=
  match l with
  | [] => ([], 0, 0)
  | c :: t =>
    if k = 1000 then ([], at_, 20)
    else match h : rdVal (c :: t) with
      | .err e => ([], at_, e)
      | .ok v r =>
        match rdAll (k + 1) (at_ + ((c :: t).length - r.length)) r with
        | (vs, p, e) => if e = 0 then (v :: vs, p, e) else ([], p, e)
termination_by l.length
decreasing_by exact rdVal_lt h

theorem rdAll_nil (k p : Nat) : rdAll k p [] = ([], 0, 0) := by rw [rdAll]
theorem rdAll_many (p : Nat) (l : List UInt8) (h : l ≠ []) : rdAll 1000 p l = ([], p, 20) := by
  cases l with
  | nil => exact absurd rfl h
  | cons c t => rw [rdAll]; simp
theorem rdAll_err {k p : Nat} {l : List UInt8} {e : Int} (hk : k ≠ 1000) (h : l ≠ []) (hr : rdVal l = .err e) : rdAll k p l = ([], p, e) := by
  cases l with
  | nil => exact absurd rfl h
  | cons c t => rw [rdAll]; simp only [hk, if_false]; split <;> rename_i h' <;> rw [hr] at h' <;> cases h'; rfl
theorem rdAll_ok {k p : Nat} {l r : List UInt8} {v : Val} (hk : k ≠ 1000) (hr : rdVal l = .ok v r) :
    rdAll k p l = if (rdAll (k + 1) (p + (l.length - r.length)) r).2.2 = 0 then (v :: (rdAll (k + 1) (p + (l.length - r.length)) r).1, (rdAll (k + 1) (p + (l.length - r.length)) r).2.1, 0) else ([], (rdAll (k + 1) (p + (l.length - r.length)) r).2.1, (rdAll (k + 1) (p + (l.length - r.length)) r).2.2) := by
  cases l with
  | nil => simp [rdVal] at hr
  | cons c t =>
    rw [rdAll]; simp only [hk, if_false]
    split <;> rename_i h' <;> rw [hr] at h'
    · cases h'
    · injection h' with h1 h2
      subst h1 h2
      split
      · rename_i h0; rw [h0]
      · rfl
end Go.Wr
