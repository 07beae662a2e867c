/- Both wals, side by side: how they go together, plain; where they stand in memory. -/
import Derived.Test.YtlfigbgcackimaaWalJ
import Derived.Test.YtlfigbgcackimaaDiskK
namespace Go.Wl
open Go.Dk Go.Fm
set_option linter.unusedVariables false
/-- The program's wal, by the document's. -/
def Rw.wv (u : Rw) : Wv := ⟨u.ls.length, u.sure, u.log, u.dead⟩
theorem frames_one (b : List UInt8) : frames [b] = frame b := by simp [frames]
theorem rel_append {r : Rf} {d : D} (h : Rel r d) (u : Rw) (b : List UInt8) :
    (u.wv.append d b).2.2 = (u.act r 0 [b]).2.2 ∧ (u.wv.append d b).2.1 = (u.act r 0 [b]).2.1.wv ∧ Rel (u.act r 0 [b]).1 (u.wv.append d b).1 := by
  unfold Wv.append Rw.act
  by_cases hd : u.dead = true
  · rw [if_pos (show u.wv.dead = true from hd), if_pos hd]
    exact ⟨rfl, rfl, h⟩
  · rw [if_neg (show ¬ u.wv.dead = true from hd), if_neg hd]
    by_cases hl : 65536 < b.length
    · rw [if_pos hl, if_pos (show Long [b] from ⟨b, by simp, hl⟩)]
      exact ⟨rfl, rfl, h⟩
    · rw [if_neg hl, if_neg (show ¬ Long [b] from fun ⟨x, hx, hx2⟩ => by simp at hx; subst hx; exact hl hx2), frames_one]
      obtain ⟨e1, e2⟩ := h.append u.log (frame b)
      show (d.append u.log (frame b)).2 = _ ∧ _ ∧ Rel _ (d.append u.log (frame b)).1
      have e1' : (d.append u.wv.log (frame b)).2 = (r.act 0 u.log (frame b)).2 := e1
      rw [e1']
      by_cases he : (r.act 0 u.log (frame b)).2 = 0
      · rw [if_pos he, if_pos he]
        exact ⟨e1.trans he, by simp [Rw.did, Rw.wv], e2⟩
      · rw [if_neg he, if_neg he]
        refine ⟨e1, ?_, e2⟩
        unfold Wv.met Rw.met
        split <;> rfl
theorem rel_sync {r : Rf} {d : D} (h : Rel r d) (u : Rw) :
    (u.wv.sync d).2.2 = (u.act r 1 []).2.2 ∧ (u.wv.sync d).2.1 = (u.act r 1 []).2.1.wv ∧ Rel (u.act r 1 []).1 (u.wv.sync d).1 := by
  unfold Wv.sync Rw.act
  by_cases hd : u.dead = true
  · rw [if_pos (show u.wv.dead = true from hd), if_pos hd]
    exact ⟨rfl, rfl, h⟩
  · rw [if_neg (show ¬ u.wv.dead = true from hd), if_neg hd, if_neg (show ¬ Long [] from fun ⟨x, hx, _⟩ => by cases hx)]
    rw [show frames [] = [] from rfl]
    obtain ⟨e1, e2⟩ := h.sync u.log
    have e1' : (d.sync u.wv.log).2 = (r.act 1 u.log []).2 := e1
    rw [e1']
    by_cases he : (r.act 1 u.log []).2 = 0
    · rw [if_pos he, if_pos he]
      exact ⟨he, by simp [Rw.did, Rw.wv], e2⟩
    · rw [if_neg he, if_neg he]
      refine ⟨rfl, ?_, e2⟩
      unfold Wv.met Rw.met
      split <;> rfl
theorem rel_fresh {r : Rf} {d : D} (h : Rel r d) (u : Rw) (ls : List (List UInt8)) :
    (u.wv.fresh d ls).2.2 = (u.act r 2 ls).2.2 ∧ (u.wv.fresh d ls).2.1 = (u.act r 2 ls).2.1.wv ∧ Rel (u.act r 2 ls).1 (u.wv.fresh d ls).1 := by
  unfold Wv.fresh Rw.act
  by_cases hd : u.dead = true
  · rw [if_pos (show u.wv.dead = true from hd), if_pos hd]
    exact ⟨rfl, rfl, h⟩
  · rw [if_neg (show ¬ u.wv.dead = true from hd), if_neg hd]
    by_cases hl : Long ls
    · rw [if_pos (show ∃ l ∈ ls, 65536 < l.length from hl), if_pos hl]
      exact ⟨rfl, rfl, h⟩
    · rw [if_neg (show ¬ ∃ l ∈ ls, 65536 < l.length from hl), if_neg hl]
      obtain ⟨e1, e2⟩ := h.swap u.log (frames ls)
      have e1' : (d.swap u.wv.log (frames ls)).2 = (r.act 2 u.log (frames ls)).2 := e1
      rw [e1']
      by_cases he : (r.act 2 u.log (frames ls)).2 = 0
      · rw [if_pos he, if_pos he]
        exact ⟨he, by simp [Rw.did, Rw.wv], e2⟩
      · rw [if_neg he, if_neg he]
        refine ⟨rfl, ?_, e2⟩
        unfold Wv.met Rw.met
        split <;> rfl
theorem rel_opens {r : Rf} {d : D} (h : Rel r d) {log : Int} (hl : 0 ≤ log ∧ log < r.logs.length) :
    (opens d log).2 = (Wl.Rf.opn r log).2.2 ∧ Rel (Wl.Rf.opn r log).1 (opens d log).1 ∧ ((Wl.Rf.opn r log).2.2 = 0 → (Wl.Rf.opn r log).2.1 = Rw.fresh log (scan (d.of log).all).1) := by
  have hl' : 0 ≤ log ∧ log < d.logs.length := by rw [h.len]; exact hl
  have hof := h.of hl'
  have hall : (d.of log).all = r.bytes log := by rw [hof]; unfold Rf.bytes; rw [if_pos hl]; rfl
  have hsu : (d.of log).sure = (r.of log).sure.length := by rw [hof]; rfl
  have hbl : (r.bytes log).length = (r.of log).sure.length + (r.of log).loose.length := by unfold Rf.bytes; rw [if_pos hl, List.length_append]
  unfold opens Wl.Rf.opn
  rw [hall, hsu]
  cases hoff : r.off with
  | true =>
    have hc : d.check log = 71 := by rw [h.check, if_pos hl, if_pos hoff]
    rw [hc]
    exact ⟨rfl, h, fun h => by cases h⟩
  | false =>
    have hc : d.check log = 0 := by rw [h.check, if_pos hl, if_neg (by simp [hoff])]
    rw [if_neg (show ¬ d.check log ≠ 0 by simp [hc]), if_neg (show ¬ (false = true) by simp)]
    by_cases hn : (scan (r.bytes log)).2 < (r.bytes log).length
    · simp only [if_pos hn]
      obtain ⟨e1, e2⟩ := h.swap log ((r.bytes log).take (scan (r.bytes log)).2)
      unfold Wl.Rf.opn2
      by_cases he : (r.act 2 log ((r.bytes log).take (scan (r.bytes log)).2)).2 = 0
      · rw [if_pos he]; exact ⟨e1.trans he, e2, fun _ => rfl⟩
      · rw [if_neg he]; exact ⟨e1, e2, fun h => absurd h he⟩
    · simp only [if_neg hn]
      by_cases hlo : 0 < (r.of log).loose.length
      · have hlt : (r.of log).sure.length < (r.bytes log).length := by omega
        simp only [if_pos hlo, if_pos hlt]
        obtain ⟨e1, e2⟩ := h.sync log
        unfold Wl.Rf.opn2
        by_cases he : (r.act 1 log []).2 = 0
        · rw [if_pos he]; exact ⟨e1.trans he, e2, fun _ => rfl⟩
        · rw [if_neg he]; exact ⟨e1, e2, fun h => absurd h he⟩
      · have hlt : ¬ (r.of log).sure.length < (r.bytes log).length := by omega
        simp only [if_neg hlo, if_neg hlt]
        exact ⟨trivial, h, fun _ => trivial⟩
end Go.Wl
namespace Go.Proofs.Ytlfigbgcackimaa
open Go.RowKit Go.Fm Go.Dk Go.Wl
set_option linter.unusedVariables false
set_option linter.unusedSimpArgs false
set_option maxRecDepth 100000

theorem ropen8_any (r : Rf) (o : Rok r) (G0 : Nat → Prop) (AL : Option Addr) (cL : Nat) (AK : Option Addr) (cK : Nat) (log : Int) (hlog : W64 log) (hin : 0 ≤ log ∧ log < r.logs.length) (w : World) (hm : IsM G0 w AL cL AK cK r) (hbl : (r.bytes log).length ≤ 4194304) :
    Calls Try.prog 35 #[vM AL cL AK cK r, .int .i64 log] w (RWOpens w r AL cL AK cK (Wl.Rf.opn r log)) := by
  have hle := scan_le (r.bytes log)
  unfold Wl.Rf.opn Wl.Rf.opn2
  cases hoff : r.off with
  | true => exact ropen_off r o G0 AL cL AK cK log hlog hin w hm hoff
  | false =>
    rw [if_neg (by simp)]
    by_cases hn : (scan (r.bytes log)).2 < (r.bytes log).length
    · rw [if_pos hn]
      by_cases he : (r.act 2 log ((r.bytes log).take (scan (r.bytes log)).2)).2 = 0
      · rw [if_pos he]; exact ropen_swap_ok r o G0 AL cL AK cK log hlog hin w hm hoff hbl hn he
      · rw [if_neg he]; exact ropen_swap_err r o G0 AL cL AK cK log hlog hin w hm hoff hbl hn he
    · rw [if_neg hn]
      by_cases hlo : 0 < (r.of log).loose.length
      · rw [if_pos hlo]
        by_cases he : (r.act 1 log []).2 = 0
        · rw [if_pos he]; exact ropen_sync_ok r o G0 AL cL AK cK log hlog hin w hm hoff hbl (by omega) hlo he
        · rw [if_neg he]; exact ropen_sync_err r o G0 AL cL AK cK log hlog hin w hm hoff hbl (by omega) hlo he
      · rw [if_neg hlo]; exact ropen_well r o G0 AL cL AK cK log hlog hin w hm hoff hbl (by omega) (by omega)

def wptr (q : Option Nat) : Value := match q with
  | none => .pointer none
  | some p => ptr p
abbrev ycells (g : Nat) (q : Option Nat) (AL : Option Addr) (cL : Nat) (AK : Option Addr) (cK : Nat) (r : Rf) (AV : Option Addr) (cV : Nat) (u : Rw) : Array Value :=
  #[ptr g, wptr q, .slice AL r.logs.length cL, .int .i64 r.acts, .bool r.off, .int .i64 r.armed, .slice AK r.keep.length cK, .int .i64 u.log, .slice AV u.ls.length cV, .int .i64 u.sure, .bool u.dead]
/-- What is neither the disk's, nor the pair's, nor the wal's. -/
def Out (F : Nat → Prop) (y : Nat) (q : Option Nat) (b : Nat) : Prop := ¬ F b ∧ b ≠ y ∧ q ≠ some b
/-- Both: the pair in block y, the program's disk (block g, all of it in F) and wal (block q), the document's disk and wal. -/
structure Yx (W w : World) (y g : Nat) (q : Option Nat) (F : Nat → Prop) (d : D) (AL : Option Addr) (cL : Nat) (AK : Option Addr) (cK : Nat) (r : Rf) (AV : Option Addr) (cV : Nat) (u : Rw) : Prop where
  below : Below W.heap.size W w
  face : Whole w y 39 (ycells g q AL cL AK cK r AV cV u)
  dsk : Dsk w g d F
  wal : ∀ p, q = some p → Whole w p 89 (wcells g u.wv) ∧ ¬ F p ∧ p ≠ y ∧ W.heap.size ≤ p
  new : W.heap.size ≤ y ∧ ¬ F y ∧ ∀ b, F b → W.heap.size ≤ b
  disk : IsM (Out F y q) w AL cL AK cK r
  list : IsW (Out F y q) w AV cV u
theorem Yx.call {W w w' : World} {y g : Nat} {q : Option Nat} {F : Nat → Prop} {d : D} {AL : Option Addr} {cL : Nat} {AK : Option Addr} {cK : Nat} {r : Rf} {AV : Option Addr} {cV : Nat} {u : Rw} (h : Yx W w y g q F d AL cL AK cK r AV cV u) (hb : Below w.heap.size w w') : Yx W w' y g q F d AL cL AK cK r AV cV u :=
  ⟨h.below.trans (hb.mono h.below.size), h.face.below hb h.face.lt, h.dsk.call hb, fun p hp => by
    obtain ⟨h1, h2⟩ := h.wal p hp
    exact ⟨h1.below hb h1.lt, h2⟩, h.new, h.disk.call hb, Seen.call h.list hb⟩
end Go.Proofs.Ytlfigbgcackimaa
