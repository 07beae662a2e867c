/- Contracts of the document's disk: Up, Bytes, New. -/
import Derived.Test.YtlfigbgcackimaaDiskG
namespace Go.Proofs.Ytlfigbgcackimaa
open Go.RowKit Go.Dk
set_option linter.unusedVariables false
set_option linter.unusedSimpArgs false
set_option maxRecDepth 100000

set_option maxHeartbeats 1000000 in
theorem rup_any (r : Rf) (AL : Option Addr) (cL : Nat) (AK : Option Addr) (cK : Nat) (w : World) :
    Calls Try.prog 14 #[vM AL cL AK cK r] w fun e w' => e = .returned (vM AL cL AK cK r.up) ∧ Below w.heap.size w w' := by
  have HR : Hid (vM AL cL AK cK r.up = .agg #[.slice AL r.logs.length cL, .int .i64 r.acts, .bool false, .int .i64 r.armed, .slice AK r.keep.length cK]) := Lib.hid rfl
  unfold vM
  go_enter Try.func14, Try.ntmps14
  go_wp2_with fail
  refine bodyPost_ret (by simp [results, Try.results14, go_sem]; try rfl) rfl ?_
  refine ⟨rfl, ?_⟩
  have hb := Below.refl w.heap.size w
  go_grown

theorem Seen.item {G : Nat → Prop} {w : World} {n cap : Nat} {A : Option Addr} {l : List Lo} (h : Seen G w 2 A n cap (flat encL l)) (i : Nat) (x : Lo) (hi : l[i]? = some x) :
    ∃ b off, A = some ⟨b, off, none⟩ ∧ b < w.heap.size ∧ w.cell? ⟨b, off + i * 2, none⟩ = some (.string (txt x.sure)) ∧ w.cell? ⟨b, off + i * 2 + 1, none⟩ = some (.string (txt x.loose)) := by
  obtain ⟨b, off, hA, hb, hc⟩ := h.sees.item encL_len (by omega) i x hi
  refine ⟨b, off, hA, hb, ?_, hc 1 _ rfl⟩
  have := hc 0 _ rfl
  rwa [Nat.add_zero] at this
/-- What is told of a log. -/
def _root_.Go.Dk.Rf.bytes (r : Rf) (log : Int) : List UInt8 := if 0 ≤ log ∧ log < r.logs.length then (r.of log).sure ++ (r.of log).loose else []
theorem txt_join (l m : List UInt8) : txt l ++ txt m = txt (l ++ m) := by unfold txt; rw [ByteArray.mk_append_mk]
set_option maxHeartbeats 1000000 in
theorem rbytes_any (r : Rf) (o : Rok r) (G : Nat → Prop) (AL : Option Addr) (cL : Nat) (AK : Option Addr) (cK : Nat) (log : Int) (hlog : W64 log) (w : World) (hm : IsM G w AL cL AK cK r) :
    Calls Try.prog 19 #[vM AL cL AK cK r, .int .i64 log] w fun e w' => e = .returned (.tuple #[.string (txt (r.bytes log)), .bool (decide (0 ≤ log ∧ log < r.logs.length))]) ∧ Below w.heap.size w w' := by
  have hf := o.few
  unfold W64 at hlog
  by_cases h : 0 ≤ log ∧ log < r.logs.length
  · obtain ⟨i, rfl⟩ : ∃ i : Nat, log = i := ⟨log.toNat, by omega⟩
    have hlt : i < r.logs.length := by omega
    obtain ⟨x, hx⟩ : ∃ x, r.logs[i]? = some x := ⟨_, List.getElem?_eq_getElem hlt⟩
    have hof : r.of i = x := by unfold Rf.of; rw [Int.toNat_natCast, List.getD_eq_getElem?_getD, hx]; rfl
    have HR : Hid (r.bytes i = x.sure ++ x.loose) := Lib.hid (by unfold Rf.bytes; rw [if_pos h, hof])
    rw [HR.out, decide_eq_true h]
    have hb := o.logs x (List.mem_of_getElem? hx)
    obtain ⟨b, off, rfl, hlb, q0, q1⟩ := (hm.logs.call ((Below.refl w.heap.size w).alloc (Nat.le_refl _) (.cells #[.slice AL r.logs.length cL, .int .i64 r.acts, .bool r.off, .int .i64 r.armed, .slice AK r.keep.length cK] 30))).item i x hx
    have hs1 : (txt x.sure).size = x.sure.length := txt_size _
    have hs2 : (txt x.loose).size = x.loose.length := txt_size _
    have HJ := Lib.hid (txt_join x.sure x.loose)
    have h2 : (i : Int) < (r.logs.length : Int) := by omega
    clear hm h hx hof o
    unfold vM
    generalize r.logs.length = n at *
    go_enter Try.func19, Try.ntmps19
    go_wp2_with fail
    go_region
    all_goals
      go_wp2_with fail
      go_ret2
      rw [HJ.out]
      refine ⟨rfl, ?_⟩
      have hb := Below.refl w.heap.size w
      go_grown
  · have HR : Hid (r.bytes log = []) := Lib.hid (by unfold Rf.bytes; rw [if_neg h])
    rw [HR.out, decide_eq_false h]
    unfold vM
    have h2 : log < 0 ∨ (0 ≤ log ∧ (r.logs.length : Int) ≤ log) := by omega
    clear hm h o
    generalize r.logs.length = n at *
    rcases h2 with h2 | ⟨h2, h3⟩
    all_goals
      go_enter Try.func19, Try.ntmps19
      go_wp2_with fail
      go_ret2
      refine ⟨rfl, ?_⟩
      have hb := Below.refl w.heap.size w
      go_grown

theorem make_los (n : Nat) (h : n ≤ 16) (w : World) : (Instr.makeSlice 27 (.int .i64 n) (.int .i64 n)).run Try.prog w = .ok (.slice (some ⟨w.heap.size, 0, none⟩) n n) (w.alloc (.cells (madeCells #[.string ⟨#[]⟩, .string ⟨#[]⟩] (n * 2)) 91)) := by
  obtain ⟨i0, hi, hz0, hz1, hz2⟩ := info_parts info_lo
  have := run_make (P := Try.prog) w 27 91 i0 _ Try.underlying27 hi hz0 .i64 .i64 n n (by omega) (Int.le_refl _) (by rw [hz2]; omega) (by omega)
  rw [this, hz1]
  rfl
theorem made_los (n : Nat) (w : World) : Sees (w.alloc (.cells (madeCells #[.string ⟨#[]⟩, .string ⟨#[]⟩] (n * 2)) 91)) (w.heap.size + 1) 2 (some ⟨w.heap.size, 0, none⟩) n (flat encL (Rf.new n).logs) := by
  have hl : (Rf.new n).logs.length = n := by simp [Rf.new]
  refine ⟨by rw [flat_length encL_len, hl], fun hn => ⟨w.heap.size, 0, rfl, by omega, fun j u hu => ?_⟩⟩
  have hj : j < n * 2 := by
    have := (List.getElem?_eq_some_iff.1 hu).1
    rwa [flat_length encL_len, hl] at this
  have hjj : j = j / 2 * 2 + j % 2 := by omega
  have hat := flat_at encL_len (Rf.new n).logs (j / 2) ⟨[], []⟩ (by show (List.replicate n _)[j / 2]? = _; rw [List.getElem?_replicate, if_pos (by omega)]) (j % 2) (by omega)
  rw [← hjj] at hat
  rw [hat] at hu
  rw [Nat.zero_add, (Whole.fresh w 91 _).cell j]
  unfold madeCells
  have : j % 2 = 0 ∨ j % 2 = 1 := by omega
  rcases this with e | e
  · rw [e] at hu
    simp [encL] at hu
    rw [← hu]
    simp [hj, e]
    rfl
  · rw [e] at hu
    simp [encL] at hu
    rw [← hu]
    simp [hj, e]
    rfl
set_option maxHeartbeats 1000000 in
theorem rnew_any (n : Nat) (h1 : 1 ≤ n) (h2 : n ≤ 16) (w : World) :
    Calls Try.prog 10 #[.int .i64 n] w fun e w' => ∃ A c, e = .returned (.tuple #[vM A c none 0 (Rf.new n), .bool true]) ∧ Below w.heap.size w w' ∧ IsM (fun b => w.heap.size ≤ b) w' A c none 0 (Rf.new n) := by
  have a1 : ¬ (n : Int) < 1 := by omega
  have a2 : ¬ (16 : Int) < n := by omega
  have mk := make_los n h2
  have HS := Lib.hid (made_los n)
  have hl : (Rf.new n).logs.length = n := by simp [Rf.new]
  have HVM : Hid (∀ A c, vM A c none 0 (Rf.new n) = .agg #[.slice A n c, .int .i64 0, .bool false, .int .i64 0, .slice none 0 0]) := Lib.hid fun A c => by unfold vM; rw [hl]; rfl
  have HL := Lib.hid hl
  clear hl
  generalize madeCells #[.string ⟨#[]⟩, .string ⟨#[]⟩] (n * 2) = Z at *
  go_enter Try.func10, Try.ntmps10
  go_wp2_with fail
  refine bodyPost_ret (by simp [results, Try.results10, go_sem]; try rfl) rfl ?_
  have st := ((St.start w).alloc w.heap.size rfl 30 #[.slice (some ⟨w.heap.size + 1, 0, none⟩) n n, .int .i64 0, .bool false, .int .i64 0, .slice none 0 0]).other (.cells Z 91)
  refine ⟨some ⟨w.heap.size + 1, 0, none⟩, n, by rw [HVM.out], st.below, ⟨⟨?_, fun _ a ha => ?_, by rw [HL.out]; exact Nat.le_refl _, by omega, fun h => by cases h⟩, ⟨Sees.nothing _ _ _ _, (fun h => by cases h), Nat.le_refl _, by omega, fun _ => rfl⟩⟩⟩
  · rw [HL.out]
    have h := HS.out (w.alloc (.cells #[.slice (some ⟨w.heap.size + 1, 0, none⟩) n n, .int .i64 0, .bool false, .int .i64 0, .slice none 0 0] 30))
    rw [show (w.alloc (.cells #[.slice (some ⟨w.heap.size + 1, 0, none⟩) n n, .int .i64 0, .bool false, .int .i64 0, .slice none 0 0] 30)).heap.size = w.heap.size + 1 by simp] at h
    exact h.more (by simp)
  · injection ha with ha
    subst ha
    show w.heap.size ≤ w.heap.size + 1
    omega
theorem rnew_no (n : Int) (hn : W64 n) (hr : n < 1 ∨ 16 < n) (w : World) :
    Calls Try.prog 10 #[.int .i64 n] w fun e w' => e = .returned (.tuple #[.agg #[.slice none 0 0, .int .i64 0, .bool false, .int .i64 0, .slice none 0 0], .bool false]) ∧ Below w.heap.size w w' := by
  have key : n < 1 ∨ (¬ n < 1 ∧ 16 < n) := by omega
  rcases key with h | ⟨h, h2⟩
  all_goals
    go_enter Try.func10, Try.ntmps10
    go_wp2_with fail
    refine bodyPost_ret (by simp [results, Try.results10, go_sem]; try rfl) rfl ?_
    refine ⟨rfl, ?_⟩
    have hb := Below.refl w.heap.size w
    go_grown
end Go.Proofs.Ytlfigbgcackimaa
