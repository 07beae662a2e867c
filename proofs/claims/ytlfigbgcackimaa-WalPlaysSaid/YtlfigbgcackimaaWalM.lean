/- Wals, plain: loads as frames in a log of a disk; what is opened; what a loss of power leaves. -/
import Derived.Test.YtlfigbgcackimaaFrameM
import Derived.Test.YtlfigbgcackimaaDiskM
namespace Go.Wl
open Go.Fm Go.Dk
set_option linter.unusedVariables false

/-- Loads that may be. -/
def Low (ls : List (List UInt8)) : Prop := ∀ l ∈ ls, l.length ≤ 65536
theorem Low.take {ls : List (List UInt8)} (h : Low ls) (k : Nat) : Low (ls.take k) := fun l hl => h l (List.mem_of_mem_take hl)
theorem frames_take_succ (ls : List (List UInt8)) (k : Nat) (hk : k < ls.length) : frames (ls.take (k + 1)) = frames (ls.take k) ++ frame ls[k] := by
  rw [List.take_succ_eq_append_getElem hk, frames_append]
  simp [frames]
theorem frames_take_lt (ls : List (List UInt8)) (k : Nat) (hk : k < ls.length) : (frames (ls.take k)).length + 8 ≤ (frames (ls.take (k + 1))).length := by
  rw [frames_take_succ ls k hk, List.length_append, frame_length]; omega
theorem frames_take_mono (ls : List (List UInt8)) {j k : Nat} (h : j ≤ k) : (frames (ls.take j)).length ≤ (frames (ls.take k)).length := by
  obtain ⟨m, rfl⟩ : ∃ m, k = j + m := ⟨k - j, by omega⟩
  rw [List.take_add, frames_append, List.length_append]
  omega
theorem frames_split (ls : List (List UInt8)) (k : Nat) : frames ls = frames (ls.take k) ++ frames (ls.drop k) := by rw [← frames_append, List.take_append_drop]
/-- How many loads are whole in the first m bytes. -/
theorem whole_at (ls : List (List UInt8)) (h : Low ls) (m : Nat) (hm : m ≤ (frames ls).length) :
    ∃ k, k ≤ ls.length ∧ (frames (ls.take k)).length ≤ m ∧ (∀ j, j ≤ ls.length → (frames (ls.take j)).length ≤ m → j ≤ k) ∧ scan ((frames ls).take m) = (ls.take k, (frames (ls.take k)).length) := by
  have ex : ∀ n, n ≤ ls.length → ∃ k, k ≤ n ∧ (frames (ls.take k)).length ≤ m ∧ ∀ j, j ≤ n → (frames (ls.take j)).length ≤ m → j ≤ k := by
    intro n
    induction n with
    | zero => exact fun _ => ⟨0, Nat.le_refl _, by simp [frames], fun j hj _ => hj⟩
    | succ n ih =>
      intro hn
      by_cases hc : (frames (ls.take (n + 1))).length ≤ m
      · exact ⟨n + 1, Nat.le_refl _, hc, fun j hj _ => hj⟩
      · obtain ⟨k, h1, h2, h3⟩ := ih (by omega)
        refine ⟨k, by omega, h2, fun j hj hjm => ?_⟩
        by_cases e : j = n + 1
        · subst e; exact absurd hjm hc
        · exact h3 j (by omega) hjm
  obtain ⟨k, h1, h2, h3⟩ := ex ls.length (Nat.le_refl _)
  refine ⟨k, h1, h2, h3, ?_⟩
  have e : (frames ls).take m = frames (ls.take k) ++ (frames (ls.drop k)).take (m - (frames (ls.take k)).length) := by
    conv => lhs; rw [frames_split ls k]
    rw [List.take_append, List.take_of_length_le h2]
  rw [e, scan_frames _ _ (h.take k)]
  have hz : scan ((frames (ls.drop k)).take (m - (frames (ls.take k)).length)) = ([], 0) := by
    by_cases hk : k < ls.length
    · have hd : ls.drop k = ls[k] :: ls.drop (k + 1) := by rw [List.drop_eq_getElem_cons hk]
      have hlt : m < (frames (ls.take (k + 1))).length := by
        rcases Nat.lt_or_ge m (frames (ls.take (k + 1))).length with h | h
        · exact h
        · have := h3 (k + 1) (by omega) h; omega
      rw [frames_take_succ ls k hk, List.length_append] at hlt
      rw [hd, frames_cons, List.take_append_of_le_length (by omega)]
      refine scan_err ?_
      rw [opened_torn (h _ (List.getElem_mem hk)) (List.take_append_drop _ _).symm (by
        intro e
        have := congrArg List.length e
        rw [List.length_drop] at this
        simp at this
        omega)]
      decide
    · rw [List.drop_eq_nil_of_le (by omega)]
      simp [frames, scan_nil]
  rw [hz]
  simp

/-- A wal. -/
structure Wk where
  loads : List (List UInt8)
  sure : Nat
/-- The log has just the wal's loads. -/
structure Fits (d : D) (log : Int) (v : Wk) : Prop where
  is : 0 ≤ log ∧ log < d.logs.length
  all : (d.of log).all = frames v.loads
  sure : (d.of log).sure = (frames (v.loads.take v.sure)).length
  low : Low v.loads
  le : v.sure ≤ v.loads.length
/-- What Open makes of a disk, and the error. -/
def opens (d : D) (log : Int) : D × Int :=
  if d.check log ≠ 0 then (d, d.check log)
  else if (scan (d.of log).all).2 < (d.of log).all.length then d.swap log ((d.of log).all.take (scan (d.of log).all).2)
  else if (d.of log).sure < (d.of log).all.length then d.sync log else (d, 0)

theorem done_of (d : D) (log : Int) (c : Lg) (h : 0 ≤ log ∧ log < d.logs.length) : (d.done log.toNat c).of log = c := by
  unfold D.of D.done
  simp only [List.length_set]
  rw [if_pos h, List.getD_eq_getElem?_getD, List.getElem?_set_self (by omega)]
  rfl
theorem act_done {d : D} {log : Int} {size : Nat} {c : Lg} (h : (d.act log size c).2 = 0) : (d.act log size c).1 = d.done log.toNat c ∧ (0 ≤ log ∧ log < d.logs.length) ∧ d.down = false ∧ size ≤ 4194304 ∧ d.ahead ≠ 1 := by
  unfold D.act at h ⊢
  have hin : d.check log = 0 → (0 ≤ log ∧ log < d.logs.length) ∧ d.down = false := fun hc => by
    unfold D.check at hc
    split at hc
    · rename_i hi
      refine ⟨hi, ?_⟩
      cases hd : d.down with
      | false => rfl
      | true => simp [hd] at hc
    · cases hc
  split at h
  · rename_i hc
    exact absurd h hc
  · rename_i hc
    have hc : d.check log = 0 := by simpa using hc
    rw [if_neg (by simpa using hc)]
    split at h
    · cases h
    · rename_i hs
      rw [if_neg hs]
      split at h
      · cases h
      · rename_i ha
        rw [if_neg ha]
        exact ⟨rfl, (hin hc).1, (hin hc).2, by omega, ha⟩
theorem Fits.append {d : D} {log : Int} {v : Wk} (h : Fits d log v) {l : List UInt8} (hl : l.length ≤ 65536) (h0 : (d.append log (frame l)).2 = 0) : Fits (d.append log (frame l)).1 log ⟨v.loads ++ [l], v.sure⟩ := by
  obtain ⟨e, hi, -⟩ := act_done h0
  unfold D.append
  rw [e]
  refine ⟨by simpa [D.done] using h.is, ?_, ?_, fun x hx => ?_, by have := h.le; simp; omega⟩
  · rw [done_of d log _ hi, h.all, frames_append]; simp [frames]
  · rw [done_of d log _ hi]
    show (d.of log).sure = _
    rw [h.sure, List.take_append_of_le_length h.le]
  · rcases List.mem_append.1 hx with hx | hx
    · exact h.low x hx
    · rw [List.mem_singleton.1 hx]; exact hl
theorem Fits.sync {d : D} {log : Int} {v : Wk} (h : Fits d log v) (h0 : (d.sync log).2 = 0) : Fits (d.sync log).1 log ⟨v.loads, v.loads.length⟩ := by
  obtain ⟨e, hi, -⟩ := act_done h0
  unfold D.sync
  rw [e]
  refine ⟨by simpa [D.done] using h.is, ?_, ?_, h.low, Nat.le_refl _⟩
  · rw [done_of d log _ hi]; exact h.all
  · rw [done_of d log _ hi, List.take_length]
    show (d.of log).all.length = _
    rw [h.all]
theorem fresh_fits {d : D} {log : Int} {ls : List (List UInt8)} (hl : Low ls) (h0 : (d.swap log (frames ls)).2 = 0) : Fits (d.swap log (frames ls)).1 log ⟨ls, ls.length⟩ := by
  obtain ⟨e, hi, -⟩ := act_done h0
  unfold D.swap
  rw [e]
  refine ⟨by simpa [D.done] using hi, ?_, ?_, hl, Nat.le_refl _⟩
  · rw [done_of d log _ hi]
  · rw [done_of d log _ hi, List.take_length]
/-- What has been scanned is what the bytes begin with. -/
theorem scan_whole (n : Nat) : ∀ bs : List UInt8, bs.length ≤ n → bs = frames (scan bs).1 ++ bs.drop (scan bs).2 ∧ (scan bs).2 = (frames (scan bs).1).length ∧ Low (scan bs).1 := by
  induction n with
  | zero =>
    intro bs h
    have e : (opened bs).2.2 ≠ 0 := by unfold opened; rw [if_pos (by omega)]; simp
    rw [scan_err e]; exact ⟨rfl, rfl, fun l hl => by cases hl⟩
  | succ n ih =>
    intro bs h
    by_cases e : (opened bs).2.2 = 0
    · have hp := opened_pos e
      have hb : opened bs = ((opened bs).1, (opened bs).2.1, 0) := by rw [← e]
      obtain ⟨h1, h2, h3⟩ := opened_only hb
      obtain ⟨i1, i2, i3⟩ := ih (bs.drop (opened bs).2.1) (by rw [List.length_drop]; omega)
      rw [scan_ok e]
      refine ⟨?_, ?_, ?_⟩
      · show bs = frames (_ :: _) ++ bs.drop (_ + _)
        rw [frames_cons, List.append_assoc, ← List.drop_drop, ← i1]; exact h3
      · show _ + _ = (frames (_ :: _)).length
        rw [frames_cons, List.length_append, frame_length, ← i2, ← h2]
      · intro l hl
        rcases List.mem_cons.1 hl with rfl | hl
        · exact h1
        · exact i3 l hl
    · rw [scan_err e]; exact ⟨rfl, rfl, fun l hl => by cases hl⟩
theorem scan_take (bs : List UInt8) : bs.take (scan bs).2 = frames (scan bs).1 := by
  obtain ⟨h1, h2, -⟩ := scan_whole bs.length bs (Nat.le_refl _)
  conv => lhs; arg 2; rw [h1]
  rw [h2, List.take_left' rfl]
theorem scan_le (bs : List UInt8) : (scan bs).2 ≤ bs.length := by
  obtain ⟨h1, h2, -⟩ := scan_whole bs.length bs (Nat.le_refl _)
  have := congrArg List.length h1
  rw [List.length_append] at this
  omega
theorem in_of {d : D} {log : Int} (h : d.check log = 0) : (0 ≤ log ∧ log < d.logs.length) ∧ d.down = false := by
  unfold D.check at h
  split at h
  · rename_i hi
    refine ⟨hi, ?_⟩
    cases hd : d.down with
    | false => rfl
    | true => simp [hd] at h
  · cases h
/-- What is opened is a wal, all of it sure. -/
theorem opens_fits {d : D} (o : Ok d) {log : Int} (h0 : (opens d log).2 = 0) : Fits (opens d log).1 log ⟨(scan (d.of log).all).1, (scan (d.of log).all).1.length⟩ := by
  obtain ⟨s1, s2, s3⟩ := scan_whole _ (d.of log).all (Nat.le_refl _)
  unfold opens at h0 ⊢
  split at h0
  · rename_i hc
    exact absurd h0 hc
  · rename_i hc
    have hc0 : d.check log = 0 := by simpa using hc
    rw [if_neg hc]
    split at h0
    · rename_i hlt
      rw [if_pos hlt]
      rw [scan_take] at h0 ⊢
      exact fresh_fits s3 h0
    · rename_i hge
      rw [if_neg hge]
      have hall : (d.of log).all = frames (scan (d.of log).all).1 := by
        rw [← scan_take, List.take_of_length_le (by omega)]
      split at h0
      · rename_i hs
        rw [if_pos hs]
        obtain ⟨e, hi, -⟩ := act_done h0
        unfold D.sync
        rw [e]
        refine ⟨by simpa [D.done] using hi, ?_, ?_, s3, Nat.le_refl _⟩
        · rw [done_of d log _ hi]; exact hall
        · rw [done_of d log _ hi, List.take_length]
          show (d.of log).all.length = _
          rw [← hall]
      · rename_i hs
        rw [if_neg hs]
        refine ⟨(in_of hc0).1, hall, ?_, s3, Nat.le_refl _⟩
        have := (okay_of o log).1
        rw [List.take_length, ← hall]
        show (d.of log).sure = _
        omega
/-- A disk with power for which nothing is armed: Open errs only where there is no log. -/
theorem opens_ok {d : D} (o : Ok d) {log : Int} (hi : 0 ≤ log ∧ log < d.logs.length) (hd : d.down = false) (ha : d.ahead ≠ 1) : (opens d log).2 = 0 := by
  have hc : d.check log = 0 := by unfold D.check; rw [if_pos hi, if_neg (by simp [hd])]
  have hk := okay_of o log
  unfold opens
  rw [if_neg (by simp [hc])]
  split
  · unfold D.swap D.act
    have : ((d.of log).all.take (scan (d.of log).all).2).length ≤ 4194304 := by rw [List.length_take]; have := hk.2; omega
    rw [if_neg (by simp [hc]), if_neg (by omega), if_neg ha]
  · split
    · unfold D.sync D.act
      have := hk.2
      rw [if_neg (by simp [hc]), if_neg (by omega), if_neg ha]
    · rfl
/-- Opened again, nothing changes. -/
theorem opens_again {d : D} {log : Int} {v : Wk} (h : Fits d log v) (hs : v.sure = v.loads.length) (hd : d.down = false) : opens d log = (d, 0) ∧ (scan (d.of log).all).1 = v.loads := by
  have hc : d.check log = 0 := by unfold D.check; rw [if_pos h.is, if_neg (by simp [hd])]
  have hsc : scan (d.of log).all = (v.loads, (frames v.loads).length) := by
    have := scan_frames v.loads [] h.low
    rw [List.append_nil, scan_nil] at this
    rw [h.all, this]; simp
  have hsu := h.sure
  rw [hs, List.take_length] at hsu
  refine ⟨?_, by rw [hsc]⟩
  unfold opens
  rw [if_neg (by simp [hc]), hsc, if_neg (by rw [h.all]; simp), if_neg (by rw [h.all, hsu]; omega)]
/-- A loss of power: a beginning of the bytes, with all that was sure. -/
theorem lost_bytes {d : D} (o : Ok d) {log : Int} {v : Wk} (h : Fits d log v) (hd : d.down = false) (keep : List Int) :
    ∃ m, (frames (v.loads.take v.sure)).length ≤ m ∧ m ≤ (frames v.loads).length ∧ ((d.crash keep).up.of log).all = (frames v.loads).take m ∧ ((d.crash keep).up.of log).sure = m := by
  have hi := h.is
  have hk := okay_kept (okay_of o log) (keep.getD log.toNat 0)
  have e : (d.crash keep).up.of log = (d.of log).cut (keep.getD log.toNat 0) := by
    unfold D.crash
    rw [if_neg (by simp [hd])]
    unfold D.of D.up D.lose
    simp only [List.length_mapIdx]
    rw [if_pos hi, if_pos hi, List.getD_eq_getElem?_getD, List.getElem?_mapIdx, List.getD_eq_getElem?_getD, List.getElem?_eq_getElem (show log.toNat < d.logs.length by omega), List.getD_eq_getElem?_getD, List.getElem?_eq_getElem (show log.toNat < d.logs.length by omega)]
    rfl
  refine ⟨(d.of log).kept (keep.getD log.toNat 0), by rw [← h.sure]; exact hk.1, by rw [← h.all]; exact hk.2, ?_, ?_⟩
  · rw [e]
    show (d.of log).all.take _ = _
    rw [h.all]
  · rw [e]; rfl
theorem Ok.lostW {d : D} (o : Ok d) (keep : List Int) : Ok (d.crash keep).up := (o.crash keep).up
/-- What is opened behind a loss of power: a beginning of the loads, with all that were sure. -/
theorem lost_opens {d : D} (o : Ok d) {log : Int} {v : Wk} (h : Fits d log v) (hd : d.down = false) (keep : List Int) :
    ∃ k, v.sure ≤ k ∧ k ≤ v.loads.length ∧ (scan ((d.crash keep).up.of log).all).1 = v.loads.take k ∧ (opens (d.crash keep).up log).2 = 0 ∧ Fits (opens (d.crash keep).up log).1 log ⟨v.loads.take k, k⟩ := by
  obtain ⟨m, m1, m2, m3, m4⟩ := lost_bytes o h hd keep
  obtain ⟨k, k1, k2, k3, k4⟩ := whole_at v.loads h.low m m2
  have hz : (opens (d.crash keep).up log).2 = 0 := by
    refine opens_ok ((o.crash keep).up) ?_ rfl ?_
    · unfold D.crash
      rw [if_neg (by simp [hd])]
      simpa [D.up, D.lose] using h.is
    · unfold D.crash
      rw [if_neg (by simp [hd])]
      show (0 : Nat) ≠ 1
      omega
  have hs : (scan ((d.crash keep).up.of log).all).1 = v.loads.take k := by rw [m3, k4]
  have hf := opens_fits ((o.crash keep).up) hz
  rw [hs] at hf
  have hl : (v.loads.take k).length = k := by rw [List.length_take]; omega
  rw [hl] at hf
  exact ⟨k, k3 v.sure h.le m1, k1, hs, hz, hf⟩
end Go.Wl
