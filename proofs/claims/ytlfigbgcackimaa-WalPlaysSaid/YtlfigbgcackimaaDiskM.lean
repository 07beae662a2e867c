/- Disks, plain: a log's bytes and how many of them are sure; a disk; what each act makes of it. -/
import Derived.Test.YtlfigbgcackimaaByte
namespace Go.Dk
set_option linter.unusedVariables false

/-- A log. -/
structure Lg where
  all : List UInt8
  sure : Nat
instance : Inhabited Lg := ⟨⟨[], 0⟩⟩
/-- A disk. -/
structure D where
  logs : List Lg
  acts : Nat
  down : Bool
  ahead : Nat
  keep : List Int

def Lg.okay (c : Lg) : Prop := c.sure ≤ c.all.length ∧ c.all.length ≤ 4194304
def W64 (n : Int) : Prop := -9223372036854775808 ≤ n ∧ n ≤ 9223372036854775807
structure Ok (d : D) : Prop where
  some : 0 < d.logs.length
  few : d.logs.length ≤ 16
  logs : ∀ c ∈ d.logs, c.okay
  ahead : d.ahead ≤ 9223372036854775807
  keep : d.keep.length = d.logs.length
  range : ∀ n ∈ d.keep, W64 n

def D.of (d : D) (log : Int) : Lg := if 0 ≤ log ∧ log < d.logs.length then d.logs.getD log.toNat default else default
def D.check (d : D) (log : Int) : Int := if 0 ≤ log ∧ log < d.logs.length then (if d.down then 71 else 0) else 70
def Lg.kept (c : Lg) (m : Int) : Nat := c.sure + min (max m 0).toNat (c.all.length - c.sure)
def Lg.cut (c : Lg) (m : Int) : Lg := ⟨c.all.take (c.kept m), c.kept m⟩
def D.lose (d : D) (keep : List Int) : D := ⟨d.logs.mapIdx fun i c => c.cut (keep.getD i 0), d.acts, true, 0, List.replicate d.logs.length 0⟩
def D.put (d : D) (i : Nat) (c : Lg) : D := { d with logs := d.logs.set i c }
def D.done (d : D) (i : Nat) (c : Lg) : D := { d with logs := d.logs.set i c, acts := d.acts + 1, ahead := d.ahead - 1 }
def D.act (d : D) (log : Int) (size : Nat) (c : Lg) : D × Int :=
  if d.check log ≠ 0 then (d, d.check log) else if 4194304 < size then (d, 72) else if d.ahead = 1 then (d.lose d.keep, 71) else (d.done log.toNat c, 0)
def D.append (d : D) (log : Int) (b : List UInt8) : D × Int := d.act log ((d.of log).all.length + b.length) ⟨(d.of log).all ++ b, (d.of log).sure⟩
def D.sync (d : D) (log : Int) : D × Int := d.act log (d.of log).all.length ⟨(d.of log).all, (d.of log).all.length⟩
def D.swap (d : D) (log : Int) (b : List UInt8) : D × Int := d.act log b.length ⟨b, b.length⟩
def D.disarm (d : D) : D := { d with ahead := 0, keep := List.replicate d.logs.length 0 }
def D.arm (d : D) (n : Int) (keep : List Int) : D :=
  if n < 1 then d.disarm else { d with ahead := n.toNat, keep := keep.take d.logs.length ++ List.replicate (d.logs.length - keep.length) 0 }
def D.crash (d : D) (keep : List Int) : D := if d.down then d else d.lose keep
def D.up (d : D) : D := { d with down := false }
def D.new (n : Nat) : D := ⟨List.replicate n ⟨[], 0⟩, 0, false, 0, List.replicate n 0⟩

theorem D.of_in {d : D} {i : Nat} {c : Lg} (h : d.logs[i]? = Option.some c) : d.of i = c := by
  have hl := (List.getElem?_eq_some_iff.1 h).1
  unfold D.of
  rw [if_pos ⟨by omega, by omega⟩]
  simp [h]
theorem D.of_out {d : D} {log : Int} (h : ¬ (0 ≤ log ∧ log < d.logs.length)) : d.of log = ⟨[], 0⟩ := by unfold D.of; rw [if_neg h]; rfl
/-- A log's number is one, or none. -/
theorem D.number (d : D) (log : Int) : (¬ (0 ≤ log ∧ log < d.logs.length)) ∨ ∃ (i : Nat) (c : Lg), log = i ∧ d.logs[i]? = Option.some c := by
  by_cases h : 0 ≤ log ∧ log < d.logs.length
  · refine .inr ⟨log.toNat, d.logs[log.toNat]'(by omega), by omega, List.getElem?_eq_getElem _⟩
  · exact .inl h
theorem okay_kept {c : Lg} (h : c.okay) (m : Int) : c.sure ≤ c.kept m ∧ c.kept m ≤ c.all.length := by
  have := h.1
  unfold Lg.kept
  constructor <;> omega
theorem okay_cut {c : Lg} (h : c.okay) (m : Int) : (c.cut m).okay := by
  have := okay_kept h m
  have := h.2
  refine ⟨?_, ?_⟩ <;> (unfold Lg.cut; simp [List.length_take]) <;> omega
theorem Ok.put {d : D} (o : Ok d) {i : Nat} {c : Lg} (hc : c.okay) : Ok (d.put i c) := by
  refine ⟨by simp [D.put]; exact o.some, by simp [D.put]; exact o.few, fun x hx => ?_, o.ahead, by simp [D.put]; exact o.keep, o.range⟩
  rcases List.mem_or_eq_of_mem_set hx with hx | rfl
  · exact o.logs x hx
  · exact hc
theorem Ok.done {d : D} (o : Ok d) {i : Nat} {c : Lg} (hc : c.okay) : Ok (d.done i c) := by
  have := o.put (i := i) hc
  have := o.ahead
  exact ⟨by simpa [D.done] using o.some, by simpa [D.done] using o.few, (o.put (i := i) hc).logs, by show d.ahead - 1 ≤ _; omega, by simpa [D.done] using o.keep, o.range⟩
theorem w64_zero : W64 0 := by unfold W64; omega
theorem Ok.disarm {d : D} (o : Ok d) : Ok d.disarm :=
  ⟨o.some, o.few, o.logs, by simp [D.disarm], by simp [D.disarm], fun n hn => by
    simp [D.disarm] at hn
    rw [hn.2]; exact w64_zero⟩
theorem Ok.lose {d : D} (o : Ok d) (keep : List Int) : Ok (d.lose keep) := by
  refine ⟨by simp [D.lose]; exact o.some, by simp [D.lose]; exact o.few, fun c hc => ?_, by simp [D.lose], by simp [D.lose], fun n hn => ?_⟩
  · obtain ⟨i, hi, rfl⟩ := List.mem_mapIdx.1 hc
    exact okay_cut (o.logs _ (List.getElem_mem _)) _
  · simp [D.lose] at hn
    rw [hn.2]; exact w64_zero
theorem Ok.crash {d : D} (o : Ok d) (keep : List Int) : Ok (d.crash keep) := by
  unfold D.crash; split
  · exact o
  · exact o.lose keep
theorem Ok.up {d : D} (o : Ok d) : Ok d.up := ⟨o.some, o.few, o.logs, o.ahead, o.keep, o.range⟩
theorem Ok.new {n : Nat} (h1 : 1 ≤ n) (h2 : n ≤ 16) : Ok (D.new n) :=
  ⟨by simp [D.new]; omega, by simpa [D.new] using h2, fun c hc => by
    simp [D.new] at hc
    rw [hc.2]; exact ⟨Nat.le_refl _, by simp⟩, by simp [D.new], by simp [D.new], fun m hm => by
    simp [D.new] at hm
    rw [hm.2]; exact w64_zero⟩
theorem Ok.arm {d : D} (o : Ok d) {n : Int} (hn : W64 n) {keep : List Int} (hk : ∀ m ∈ keep, W64 m) : Ok (d.arm n keep) := by
  unfold D.arm
  split
  · exact o.disarm
  · refine ⟨o.some, o.few, o.logs, ?_, ?_, fun m hm => ?_⟩
    · show n.toNat ≤ _
      unfold W64 at hn; omega
    · show (List.take d.logs.length keep ++ List.replicate (d.logs.length - keep.length) 0).length = d.logs.length
      simp; omega
    · rcases List.mem_append.1 hm with h | h
      · exact hk m (List.mem_of_mem_take h)
      · rw [List.eq_of_mem_replicate h]; exact w64_zero
/-- What an act that isn't refused makes is right, if its log is. -/
theorem Ok.act {d : D} (o : Ok d) (log : Int) (size : Nat) (c : Lg) (hc : d.check log = 0 → size ≤ 4194304 → c.okay) : Ok (d.act log size c).1 := by
  unfold D.act
  split
  · exact o
  · rename_i h0
    have h0 : d.check log = 0 := by simpa using h0
    split
    · exact o
    · split
      · exact o.lose _
      · exact o.done (hc h0 (by omega))
theorem okay_of {d : D} (o : Ok d) (log : Int) : (d.of log).okay := by
  rcases d.number log with h | ⟨i, c, rfl, h⟩
  · rw [D.of_out h]; exact ⟨Nat.le_refl _, by simp⟩
  · rw [D.of_in h]; exact o.logs c (List.mem_of_getElem? h)
theorem Ok.append {d : D} (o : Ok d) (log : Int) (b : List UInt8) : Ok (d.append log b).1 :=
  o.act _ _ _ fun _ hs => ⟨by have := (okay_of o log).1; simp; omega, by simpa using hs⟩
theorem Ok.sync {d : D} (o : Ok d) (log : Int) : Ok (d.sync log).1 := o.act _ _ _ fun _ hs => ⟨Nat.le_refl _, hs⟩
theorem Ok.swap {d : D} (o : Ok d) (log : Int) (b : List UInt8) : Ok (d.swap log b).1 := o.act _ _ _ fun _ hs => ⟨Nat.le_refl _, hs⟩
end Go.Dk
