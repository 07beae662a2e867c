/- The document's disk, plain, and how it goes with the program's. -/
import Derived.Test.YtlfigbgcackimaaDiskZ
namespace Go.Dk
set_option linter.unusedVariables false

/-- The document's log. -/
structure Lo where
  sure : List UInt8
  loose : List UInt8
instance : Inhabited Lo := ⟨⟨[], []⟩⟩
/-- The document's disk. -/
structure Rf where
  logs : List Lo
  acts : Nat
  off : Bool
  armed : Nat
  keep : List Int
def Lo.cut (l : Lo) (m : Int) : Lo := ⟨l.sure ++ l.loose.take (min (max m 0).toNat l.loose.length), []⟩
def Lo.next (l : Lo) (kind : Int) (b : List UInt8) : Lo := if kind = 0 then ⟨l.sure, l.loose ++ b⟩ else if kind = 1 then ⟨l.sure ++ l.loose, []⟩ else ⟨b, []⟩
def Rf.crash (r : Rf) (keep : List Int) : Rf := if r.off then r else ⟨r.logs.mapIdx fun i l => l.cut (keep.getD i 0), r.acts, true, 0, r.keep⟩
def Rf.done (r : Rf) (i : Nat) (l : Lo) : Rf := ⟨r.logs.set i l, r.acts + 1, r.off, r.armed - 1, r.keep⟩
def Rf.of (r : Rf) (log : Int) : Lo := r.logs.getD log.toNat default
def Rf.act (r : Rf) (kind log : Int) (b : List UInt8) : Rf × Int :=
  if ¬ (0 ≤ log ∧ log < r.logs.length) then (r, 70) else if r.off then (r, 71) else
  if 4194304 < ((r.of log).next kind b).sure.length + ((r.of log).next kind b).loose.length then (r, 72) else
  if r.armed = 1 then (r.crash r.keep, 71) else (r.done log.toNat ((r.of log).next kind b), 0)
def Rf.arm (r : Rf) (n : Int) (keep : List Int) : Rf := { r with armed := n.toNat, keep := keep }
def Rf.up (r : Rf) : Rf := { r with off := false }
def Rf.new (n : Nat) : Rf := ⟨List.replicate n ⟨[], []⟩, 0, false, 0, []⟩
/-- A log of the program's, by the document's. -/
def Lo.lg (l : Lo) : Lg := ⟨l.sure ++ l.loose, l.sure.length⟩
/-- How the two go together. -/
structure Rel (r : Rf) (d : D) : Prop where
  logs : d.logs = r.logs.map Lo.lg
  acts : d.acts = r.acts
  off : d.down = r.off
  armed : d.ahead = r.armed
  keep : 0 < d.ahead → ∀ i, i < d.logs.length → d.keep.getD i 0 = r.keep.getD i 0
section
variable {r : Rf} {d : D}
theorem Rel.len (h : Rel r d) : d.logs.length = r.logs.length := by rw [h.logs, List.length_map]
theorem Rel.of (h : Rel r d) {log : Int} (hl : 0 ≤ log ∧ log < d.logs.length) : d.of log = (r.of log).lg := by
  unfold D.of Rf.of
  rw [if_pos hl, h.logs]
  have hlt : log.toNat < r.logs.length := by have := h.len; omega
  rw [List.getD_eq_getElem?_getD, List.getD_eq_getElem?_getD, List.getElem?_map, List.getElem?_eq_getElem hlt]
  rfl
theorem Rel.new (n : Nat) : Rel (Rf.new n) (D.new n) := by
  refine ⟨?_, rfl, rfl, rfl, fun h => by cases h⟩
  simp [D.new, Rf.new, Lo.lg]
theorem lg_cut (l : Lo) (m : Int) : (l.cut m).lg = l.lg.cut m := by
  have e : l.lg.kept m = l.sure.length + min (max m 0).toNat l.loose.length := by
    unfold Lg.kept Lo.lg
    simp
  unfold Lg.cut
  rw [e]
  unfold Lo.lg Lo.cut
  simp only [List.append_nil, List.length_append, List.length_take]
  congr 1
  · rw [List.take_length_add_append]
  · omega
theorem Rel.lose (h : Rel r d) (hd : d.down = false) (keep keep' : List Int) (hk : ∀ i, i < d.logs.length → keep'.getD i 0 = keep.getD i 0) : Rel (r.crash keep) (d.lose keep') := by
  have ho : r.off = false := h.off.symm.trans hd
  unfold Rf.crash
  rw [if_neg (by simp [ho])]
  refine ⟨?_, h.acts, rfl, rfl, fun h => by cases h⟩
  show List.mapIdx (fun i c => c.cut (keep'.getD i 0)) d.logs = (List.mapIdx (fun i l => l.cut (keep.getD i 0)) r.logs).map Lo.lg
  apply List.ext_getElem?
  intro i
  rw [List.getElem?_mapIdx, List.getElem?_map, List.getElem?_mapIdx, h.logs, List.getElem?_map]
  cases hi : r.logs[i]? with
  | none => rfl
  | some l =>
    have hlt := (List.getElem?_eq_some_iff.1 hi).1
    show some (l.lg.cut _) = some ((l.cut _).lg)
    rw [lg_cut, hk i (by rw [h.len]; exact hlt)]
theorem Rel.crash (h : Rel r d) (keep : List Int) : Rel (r.crash keep) (d.crash keep) := by
  unfold D.crash
  cases hd : d.down with
  | true =>
    have ho : r.off = true := h.off.symm.trans hd
    unfold Rf.crash
    rw [if_pos ho, if_pos rfl]; exact h
  | false => rw [if_neg (by simp)]; exact h.lose hd keep keep fun _ _ => rfl
theorem Rel.up (h : Rel r d) : Rel r.up d.up := ⟨h.logs, h.acts, rfl, h.armed, h.keep⟩
theorem Rel.arm (h : Rel r d) (n : Int) (keep : List Int) : Rel (r.arm n keep) (d.arm n keep) := by
  unfold D.arm
  split
  · refine ⟨h.logs, h.acts, h.off, ?_, fun h => by cases h⟩
    show 0 = n.toNat
    omega
  · refine ⟨h.logs, h.acts, h.off, rfl, fun _ i hi => ?_⟩
    show (keep.take d.logs.length ++ List.replicate (d.logs.length - keep.length) 0).getD i 0 = keep.getD i 0
    have hi : i < d.logs.length := hi
    rw [List.getD_eq_getElem?_getD, List.getD_eq_getElem?_getD, List.getElem?_append, List.length_take]
    by_cases hk : i < keep.length
    · rw [if_pos (by omega), List.getElem?_take, if_pos hi]
    · rw [if_neg (by omega), List.getElem?_replicate, List.getElem?_eq_none (Nat.le_of_not_lt hk)]
      split <;> rfl
theorem Rel.act (h : Rel r d) (kind log : Int) (b : List UInt8) (size : Nat) (c : Lg) (hc : 0 ≤ log ∧ log < d.logs.length → c = ((r.of log).next kind b).lg) (hs : 0 ≤ log ∧ log < d.logs.length → size = ((r.of log).next kind b).sure.length + ((r.of log).next kind b).loose.length) :
    (d.act log size c).2 = (r.act kind log b).2 ∧ Rel (r.act kind log b).1 (d.act log size c).1 := by
  unfold D.act Rf.act D.check
  rw [← h.len]
  by_cases hl : 0 ≤ log ∧ log < d.logs.length
  · rw [if_pos hl, if_neg (show ¬ ¬ _ from fun g => g hl), hs hl, hc hl, ← h.off, ← h.armed]
    cases hd : d.down with
    | true => simp; exact h
    | false =>
      simp only [Bool.false_eq_true, if_false, ne_eq, not_true]
      split
      · exact ⟨rfl, h⟩
      · split
        · rename_i ha
          exact ⟨rfl, h.lose hd r.keep d.keep (h.keep (by omega))⟩
        · rename_i ha
          refine ⟨rfl, ?_, ?_, h.off, ?_, fun hp i hi => ?_⟩
          · show d.logs.set log.toNat _ = (r.logs.set log.toNat _).map Lo.lg
            rw [h.logs, List.map_set]
          · show d.acts + 1 = r.acts + 1
            rw [h.acts]
          · show d.ahead - 1 = r.armed - 1
            rw [h.armed]
          · have hp : 0 < d.ahead - 1 := hp
            exact h.keep (by omega) i (by simpa [D.done] using hi)
  · rw [if_neg hl, if_pos hl]
    exact ⟨rfl, h⟩
theorem Rel.append (h : Rel r d) (log : Int) (b : List UInt8) : (d.append log b).2 = (r.act 0 log b).2 ∧ Rel (r.act 0 log b).1 (d.append log b).1 :=
  h.act 0 log b _ _ (fun hl => by rw [h.of hl]; simp [Lo.next, Lo.lg]) (fun hl => by rw [h.of hl]; simp [Lo.next, Lo.lg]; omega)
theorem Rel.sync (h : Rel r d) (log : Int) : (d.sync log).2 = (r.act 1 log []).2 ∧ Rel (r.act 1 log []).1 (d.sync log).1 :=
  h.act 1 log [] _ _ (fun hl => by rw [h.of hl]; simp [Lo.next, Lo.lg]) (fun hl => by rw [h.of hl]; simp [Lo.next, Lo.lg])
theorem Rel.swap (h : Rel r d) (log : Int) (b : List UInt8) : (d.swap log b).2 = (r.act 2 log b).2 ∧ Rel (r.act 2 log b).1 (d.swap log b).1 :=
  h.act 2 log b _ _ (fun hl => by simp [Lo.next, Lo.lg]) (fun hl => by simp [Lo.next])
theorem Rel.check (h : Rel r d) (log : Int) : d.check log = if 0 ≤ log ∧ log < r.logs.length then (if r.off then 71 else 0) else 70 := by unfold D.check; rw [h.len, h.off]
theorem Rel.read (h : Rel r d) (log : Int) (hl : 0 ≤ log ∧ log < r.logs.length) (ho : r.off = false) : d.read log = (r.of log).sure ++ (r.of log).loose := by
  have hc : d.check log = 0 := by rw [h.check, if_pos hl]; simp [ho]
  unfold D.read
  rw [if_pos hc, h.of (by rw [h.len]; exact hl)]
  rfl
end
end Go.Dk
