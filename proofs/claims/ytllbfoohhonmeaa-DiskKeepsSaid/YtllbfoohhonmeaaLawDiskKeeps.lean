/- Whenever the power goes, each log has a beginning of what it had, and all that was sure: moietylaw07.DiskKeeps answers true. For every list of acts and list of numbers; no conditions. -/
import Derived.Test.YtllbfoohhonmeaaDiskP
namespace Go.Proofs.Ytllbfoohhonmeaa.diskKeeps
open Go.ChangeShapes Go.WideShapes Go.ChangeAt Go.RowKit Go.Dk
set_option linter.unusedVariables false
set_option linter.unusedSimpArgs false

theorem check_one (d : D) (h1 : d.logs.length = 3) (h2 : d.down = false) (log : Int) (h3 : 0 ≤ log) (h4 : log < 3) : d.check log = 0 := by unfold D.check; rw [h1, if_pos ⟨h3, h4⟩, if_neg (by simp [h2])]
/-- What is left of a log. -/
theorem lost_of {d : D} (f : Fit d 30) (keep : List Int) (k : Nat) (h : k < 3) : ((d.crash keep).up.of k) = (d.of k).cut (keep.getD k 0) := by
  obtain ⟨c, hc⟩ : ∃ c, d.logs[k]? = some c := ⟨_, List.getElem?_eq_getElem (by rw [f.len]; omega)⟩
  rw [D.of_in hc]
  refine D.of_in ?_
  unfold D.crash
  rw [if_neg (by simp [f.down])]
  show (List.mapIdx (fun i c => c.cut (keep.getD i 0)) d.logs)[k]? = _
  rw [List.getElem?_mapIdx, hc]
  rfl
/-- Three texts, the first k of which are told. -/
def was (d : D) (k : Nat) : Array Value := #[.string (txt (if 0 < k then (d.of 0).all else [])), .string (txt (if 1 < k then (d.of 1).all else [])), .string (txt (if 2 < k then (d.of 2).all else []))]
theorem was_next (d : D) (k : Nat) (h : k < 3) : (was d k).setIfInBounds k (.string (txt (d.of k).all)) = was d (k + 1) := by
  have : k = 0 ∨ k = 1 ∨ k = 2 := by omega
  rcases this with rfl | rfl | rfl <;> rfl
theorem was_at (d : D) (k : Nat) (h : k < 3) : ∃ u, (was d k)[k]? = some (.string u) := by
  have : k = 0 ∨ k = 1 ∨ k = 2 := by omega
  rcases this with rfl | rfl | rfl <;> exact ⟨_, rfl⟩
theorem was_end (d : D) (k : Nat) (h : k < 3) : (was d 3)[k]? = some (.string (txt (d.of k).all)) := by
  have : k = 0 ∨ k = 1 ∨ k = 2 := by omega
  rcases this with rfl | rfl | rfl <;> rfl
/-- The worlds behind steps that change nothing old. -/
theorem lw_class {W w : World} {L : List Row} {g : Nat} {d : D} (h : Lw W w L g d) :
    ∃ C : World → Prop, C w.drew ∧ Hid (∀ a b, C a → Below a.heap.size a b → C b) ∧ Hid (∀ a, C a → Lw W a L g d) :=
  ⟨fun a => Lw W a L g d, h.drewN 1, Lib.hid fun a b ha hb => ha.call hb, Lib.hid fun a ha => ha⟩

/-- Three numbers, the first k of which are told. -/
def sures (d : D) (k : Nat) : Array Value := #[.int .i64 (if 0 < k then ((d.of 0).sure : Int) else 0), .int .i64 (if 1 < k then ((d.of 1).sure : Int) else 0), .int .i64 (if 2 < k then ((d.of 2).sure : Int) else 0)]
def so (b : Bool) (v u : Value) : Value := if b then v else u
theorem so_true (v u : Value) : so true v u = v := rfl
theorem so_false (v u : Value) : so false v u = u := rfl
/-- A cell of the second block that is known is set. -/
theorem _root_.Go.Proofs.Ytllbfoohhonmeaa.Lw.set1 {W w : World} {L : List Row} {g : Nat} {d : D} {r0 : Row} {x : Nat} {t : TypeId} {cs : Array Value} (h : Lw W w (r0 :: (x, t, cs) :: L) g d) (hx : W.heap.size ≤ x) (hd : ∀ r ∈ L, r.1 ≠ x) (h0 : r0.1 ≠ x) (k : Nat) (u : Value) : Lw W (w.setCell ⟨x, k, none⟩ u) (r0 :: (x, t, cs.setIfInBounds k u) :: L) g d := by
  have h1 : Lw W w ((x, t, cs) :: r0 :: L) g d := h.few fun r hr => by simp at hr ⊢; rcases hr with h | h | h <;> simp [h]
  have h2 := h1.set0 hx (fun r hr => by
    rcases List.mem_cons.1 hr with rfl | hr
    · exact h0
    · exact hd r hr) k u
  exact h2.few fun r hr => by simp at hr ⊢; rcases hr with h | h | h <;> simp [h]
theorem sures_next (d : D) (k : Nat) (h : k < 3) : (sures d k).setIfInBounds k (.int .i64 ((d.of k).sure : Int)) = sures d (k + 1) := by
  have : k = 0 ∨ k = 1 ∨ k = 2 := by omega
  rcases this with rfl | rfl | rfl <;> rfl
theorem sures_at (d : D) (k : Nat) (h : k < 3) : ∃ u, (sures d k)[k]? = some (.int .i64 u) := by
  have : k = 0 ∨ k = 1 ∨ k = 2 := by omega
  rcases this with rfl | rfl | rfl <;> exact ⟨_, rfl⟩
theorem sures_end (d : D) (k : Nat) (h : k < 3) : (sures d 3)[k]? = some (.int .i64 ((d.of k).sure : Int)) := by
  have : k = 0 ∨ k = 1 ∨ k = 2 := by omega
  rcases this with rfl | rfl | rfl <;> rfl
theorem fit_read {d : D} (f : Fit d 30) (k : Nat) (h : k < 3) : d.check k = 0 ∧ d.read k = (d.of k).all := by
  have hc := check_one d f.len f.down k (by omega) (by omega)
  exact ⟨hc, by unfold D.read; rw [if_pos hc]⟩

set_option maxRecDepth 100000 in
set_option maxHeartbeats 8000000 in
theorem walk (A : Option Addr) (len cap : Nat) (l : List Ac) (A1 : Option Addr) (len1 cap1 : Nat) (m0 : List Int) (w : World) (hL : IsR w A len cap 5 encA (GA w) l) (hM : IsR w A1 len1 cap1 1 encI W64 m0) :
    Calls Try.prog 5 #[.slice A len cap, .slice A1 len1 cap1] w fun r w' => r = .returned (.bool true) ∧ Below w.heap.size w w' := by
  have hlen := hL.count
  have hlen1 := hM.count
  subst hlen hlen1
  have HMADE := Lib.hid (made_any A cap l w hL)
  have HI0 := Lib.hid (fun (w' : World) (L : List Row) (hb : Below w.heap.size w w') => inI_arg (L := L) hM hb)
  have hroom := hM.room
  obtain ⟨m1, HM⟩ : ∃ m1, Hid (m1 = m0.take 20) := ⟨_, Lib.hid rfl⟩
  have HI1 : Hid (∀ (w' : World) (L : List Row), Below w.heap.size w w' → InI w w' L A1 cap1 m1) := Lib.hid fun w' L hb => by
    rw [HM.out]
    have h := (HI0.out w' L hb).take (min 20 m0.length) (by omega)
    rwa [show m0.take (min 20 m0.length) = m0.take 20 by rw [List.take_eq_take_iff]; omega] at h
  have hmm : ((20 : Int) < m0.length ∧ m1.length = 20) ∨ (¬ (20 : Int) < m0.length ∧ m1.length = m0.length) := by
    have : m1.length = min 20 m0.length := by rw [HM.out, List.length_take]
    omega
  clear hL hM HI0 HM
  generalize m0.length = n0 at *
  rcases hmm with ⟨hm1, hm2⟩ | ⟨hm1, hm2⟩
  · go_enter Try.func5, Try.ntmps5
    go_wp2_with fail
    refine HMADE.out.mono ?_
    rintro e w1 ⟨g, d, rfl, hl, hfit0⟩
    have H := Lib.hid hl
    have HF0 := Lib.hid hfit0
    have HOK0 := Lib.hid hl.ok
    clear hl hfit0 HMADE
    go_wp2_with fail
    refine (awake_any _).mono ?_
    rintro e w2 ⟨rfl, hb⟩
    replace H := Lib.hid (H.out.call hb)
    clear hb
    have HW2 := Lib.hid H.out.st.below.size
    go_wp2_with fail
    replace H := Lib.hid (show Lw w _ [(w2.heap.size + 1, 48, sures d 0), (w2.heap.size, 47, was d 0)] g d from (H.out.alloc w2.heap.size rfl 47 #[.string ⟨#[]⟩, .string ⟨#[]⟩, .string ⟨#[]⟩]).alloc (w2.heap.size + 1) (by simp) 48 #[.int .i64 0, .int .i64 0, .int .i64 0])
    go_loopw [8] (fun i wr => ∃ k : Nat, k ≤ 3 ∧ i = .int .i64 (k : Int) ∧ Lw w wr [(w2.heap.size + 1, 48, sures d k), (w2.heap.size, 47, was d k)] g d) (fun i _ => 3 - (intOf i).toNat)
    case atStart => exact ⟨0, by omega, rfl, H.out⟩
    case round =>
      obtain ⟨k, hk, rfl, hl⟩ := hrel
      replace H := Lib.hid hl
      clear hl
      by_cases hlt : k < 3
      · have i1 : (k : Int) < 3 := by omega
        obtain ⟨r1, r2⟩ := fit_read HF0.out k hlt
        have HR1 := Lib.hid r1
        have HR2 := Lib.hid r2
        have HNX := Lib.hid (was_next d k hlt)
        have HSX := Lib.hid (sures_next d k hlt)
        obtain ⟨u0, hu0⟩ := was_at d k hlt
        have HU := Lib.hid hu0
        obtain ⟨u1, hu1⟩ := sures_at d k hlt
        have HU1 := Lib.hid hu1
        have HK64 : Hid (W64 (k : Int)) := Lib.hid ⟨by omega, by omega⟩
        have HSU := Lib.hid (fun (y : World) (L : List Row) (hy : Lw w y L g d) => hy.sure HK64.out)
        clear r1 r2 hu0 hu1
        go_wp2_with fail
        refine (H.out.read HK64.out).mono ?_
        rintro e w6 ⟨v, rfl, ho, hb⟩
        rw [HR1.out]
        rw [HR2.out] at ho
        obtain ⟨A5, cap5, R5, rfl, hA5, hcap5, hl, hown5, hfar⟩ := H.out.own1 hb ho
        have HN5 := Lib.hid hown5
        have hlt2 := (H.out.st.knows.at 0 rfl).lt
        have HR5 : Hid (∀ (X : Array Value) (r : Row), r ∈ (w2.heap.size + 1, 48, X) :: R5 → r.1 ≠ w2.heap.size) := Lib.hid fun X r hr => by
          rcases List.mem_cons.1 hr with rfl | hr
          · simp
          · have := hfar r hr; omega
        have HR6 : Hid (∀ r ∈ R5, r.1 ≠ w2.heap.size + 1) := Lib.hid fun r hr => by have := hfar r hr; omega
        have H8S := Lib.hid ((hl.few (L' := [(w2.heap.size, 47, was d k), (w2.heap.size + 1, 48, sures d k)] ++ R5) (fun r hr => by simp at hr ⊢; rcases hr with h | h | h <;> simp [h])).drewN 1)
        clear hl ho hb hown5 hfar hlt2
        have hcv : Hid (∀ y, Knows y R5 → (convert 41 9 (.slice A5 (d.of k).all.length cap5)).run Try.prog y = .ok (.string (txt (d.of k).all)) y) := Lib.hid fun y hy => conv_bytes (d.of k).all A5 cap5 _ y ((HN5.out y hy).sees rfl)
        clear HN5 HR2
        generalize (d.of k).all.length = n5 at *
        generalize txt (d.of k).all = t5 at *
        generalize (d.of k).sure = s5 at *
        go_wp2_with fail
        refine Iv.region (fun f aa y => aa = ⟨#[Value.slice A l.length cap, Value.slice A1 20 cap1, undef, undef, u4, ptr g, Value.pointer (some ⟨w2.heap.size, 0, none⟩), Value.pointer (some ⟨w2.heap.size + 1, 0, none⟩), .int .i64 (k : Int), Value.slice A5 n5 cap5, .int .i64 0, undef, undef, undef, Value.slice A l.length cap, ptr g, .bool true, .bool false, .bool false, ptr g, .bool false, .bool false, Value.slice A1 n0 cap1, .int .i64 (n0 : Int), .bool true, Value.slice A1 n0 cap1, Value.slice A1 20 cap1, .int .i64 (k : Int), .bool true, u29, u30, .tuple #[Value.slice A5 n5 cap5, .int .i64 0], ptr g, .int .i64 (k : Int), .tuple #[Value.slice A5 n5 cap5, .int .i64 0], Value.slice A5 n5 cap5, .int .i64 0, .int .i64 0, .bool false, so (f 0) (.int .i64 (k : Int)) u39, so (f 1) (.int .i64 (k : Int)) u40, so (f 2) (Value.slice A5 n5 cap5) u41, so (f 3) (.string t5) u42, so (f 4) (ptr g) u43, so (f 5) (.int .i64 (k : Int)) u44, so (f 6) (.int .i64 (s5 : Int)) u45, so (f 7) (.pointer (some ⟨w2.heap.size, k, none⟩)) u46, so (f 9) (.pointer (some ⟨w2.heap.size + 1, k, none⟩)) u47, undef, undef, undef, undef, undef, undef, undef, undef, undef, undef, undef, undef, undef, undef, undef, undef, undef, undef, undef, undef, undef, undef, undef, undef, undef, undef, undef, undef, undef, undef, undef, undef, undef, undef, undef, undef, undef, undef, undef, undef, undef, undef, undef, undef, undef, undef, undef, undef, undef, undef, undef, undef, undef, undef, undef, undef], []⟩ ∧ Lw w y ([(w2.heap.size, 47, if f 8 = true then (was d k).setIfInBounds k (.string t5) else was d k), (w2.heap.size + 1, 48, if f 10 = true then (sures d k).setIfInBounds k (.int .i64 (s5 : Int)) else sures d k)] ++ R5) g d) (by kernel_rfl) (by kernel_rfl) ?_ ?_ ?_
        · exact ⟨rfl, by simpa using (show Lw w w6.drew _ g d from H8S.out)⟩
        · refine ⟨?_, ?_, ?_, ?_, ?_, ?_, ?_, ?_, ?_, ?_, ?_, trivial⟩
          · rintro f a0 y Q' ⟨rfl, hw⟩ hi hd hQ
            replace hQ := Lib.hid hQ
            simp [Iv.depsB, Region.binds] at hd
            try simp only [hi, hd, sl_true, sl_false, so_true, so_false]
            try simp only [hi, sl_true, sl_false, so_true, so_false]
            go_wp2_with fail
            refine hQ.out _ _ ⟨?_, ?_⟩
            · simp [Iv.upd, hi, hd, sl_true, sl_false, so_true, so_false]
            · simpa [Iv.upd, hi, hd] using hw
          · rintro f a0 y Q' ⟨rfl, hw⟩ hi hd hQ
            replace hQ := Lib.hid hQ
            simp [Iv.depsB, Region.binds] at hd
            try simp only [hi, hd, sl_true, sl_false, so_true, so_false]
            try simp only [hi, sl_true, sl_false, so_true, so_false]
            go_wp2_with fail
            refine hQ.out _ _ ⟨?_, ?_⟩
            · simp [Iv.upd, hi, hd, sl_true, sl_false, so_true, so_false]
            · simpa [Iv.upd, hi, hd] using hw
          · rintro f a0 y Q' ⟨rfl, hw⟩ hi hd hQ
            replace hQ := Lib.hid hQ
            simp [Iv.depsB, Region.binds] at hd
            try simp only [hi, hd, sl_true, sl_false, so_true, so_false]
            try simp only [hi, sl_true, sl_false, so_true, so_false]
            go_wp2_with fail
            refine hQ.out _ _ ⟨?_, ?_⟩
            · simp [Iv.upd, hi, hd, sl_true, sl_false, so_true, so_false]
            · simpa [Iv.upd, hi, hd] using hw
          · rintro f a0 y Q' ⟨rfl, hw⟩ hi hd hQ
            replace hQ := Lib.hid hQ
            simp [Iv.depsB, Region.binds] at hd
            try simp only [hi, hd, sl_true, sl_false, so_true, so_false]
            try simp only [hi, sl_true, sl_false, so_true, so_false]
            have hk1 := hcv.out y (fun r hr => hw.knows r (List.mem_append.2 (.inr hr)))
            go_wp2_with fail
            refine hQ.out _ _ ⟨?_, ?_⟩
            · simp [Iv.upd, hi, hd, sl_true, sl_false, so_true, so_false]
            · simpa [Iv.upd, hi, hd] using hw
          · rintro f a0 y Q' ⟨rfl, hw⟩ hi hd hQ
            replace hQ := Lib.hid hQ
            simp [Iv.depsB, Region.binds] at hd
            try simp only [hi, hd, sl_true, sl_false, so_true, so_false]
            try simp only [hi, sl_true, sl_false, so_true, so_false]
            go_wp2_with fail
            refine hQ.out _ _ ⟨?_, ?_⟩
            · simp [Iv.upd, hi, hd, sl_true, sl_false, so_true, so_false]
            · simpa [Iv.upd, hi, hd] using hw
          · rintro f a0 y Q' ⟨rfl, hw⟩ hi hd hQ
            replace hQ := Lib.hid hQ
            simp [Iv.depsB, Region.binds] at hd
            try simp only [hi, hd, sl_true, sl_false, so_true, so_false]
            try simp only [hi, sl_true, sl_false, so_true, so_false]
            go_wp2_with fail
            refine hQ.out _ _ ⟨?_, ?_⟩
            · simp [Iv.upd, hi, hd, sl_true, sl_false, so_true, so_false]
            · simpa [Iv.upd, hi, hd] using hw
          · rintro f a0 y Q' ⟨rfl, hw⟩ hi hd hQ
            replace hQ := Lib.hid hQ
            simp [Iv.depsB, Region.binds] at hd
            try simp only [hi, hd, sl_true, sl_false, so_true, so_false]
            try simp only [hi, sl_true, sl_false, so_true, so_false]
            go_wp2_with fail
            refine (HSU.out y _ hw).mono ?_
            rintro e y1 ⟨rfl, hb⟩
            go_wp2_with fail
            refine hQ.out _ _ ⟨?_, ?_⟩
            · simp [Iv.upd, hi, hd, sl_true, sl_false, so_true, so_false]
            · simpa [Iv.upd, hi, hd] using hw.call hb
          · rintro f a0 y Q' ⟨rfl, hw⟩ hi hd hQ
            replace hQ := Lib.hid hQ
            simp [Iv.depsB, Region.binds] at hd
            try simp only [hi, hd, sl_true, sl_false, so_true, so_false]
            try simp only [hi, sl_true, sl_false, so_true, so_false]
            go_wp2_with fail
            refine hQ.out _ _ ⟨?_, ?_⟩
            · simp [Iv.upd, hi, hd, sl_true, sl_false, so_true, so_false]
            · simpa [Iv.upd, hi, hd] using hw
          · rintro f a0 y Q' ⟨rfl, hw⟩ hi hd hQ
            replace hQ := Lib.hid hQ
            simp [Iv.depsB, Region.binds] at hd
            try simp only [hi, hd, sl_true, sl_false, so_true, so_false]
            try simp only [hi, sl_true, sl_false, so_true, so_false]
            have d7 : f 7 = true := by simp [hd]
            have d3 : f 3 = true := by simp [hd]
            try simp only [d7, d3, so_true, so_false]
            have hw2 := hw
            rw [hi] at hw2
            have HH2 := Lib.hid hw2
            have t0 := (hw2.st.knows.at 0 rfl).cell k
            simp only [Bool.false_eq_true, if_false] at t0
            rw [HU.out] at t0
            have t1 := (hw2.st.knows.at 0 rfl).free k
            clear hw2
            go_wp2_with fail
            refine hQ.out _ _ ⟨?_, ?_⟩
            · simp [Iv.upd, hi, hd, d7, d3, sl_true, sl_false, so_true, so_false]
            · have h9 := HH2.out.set0 (by have := HW2.out; omega) (fun r hr => HR5.out _ r hr) k (.string t5)
              simpa [Iv.upd, hi, hd, d7, d3] using h9
          · rintro f a0 y Q' ⟨rfl, hw⟩ hi hd hQ
            replace hQ := Lib.hid hQ
            simp [Iv.depsB, Region.binds] at hd
            try simp only [hi, hd, sl_true, sl_false, so_true, so_false]
            try simp only [hi, sl_true, sl_false, so_true, so_false]
            go_wp2_with fail
            refine hQ.out _ _ ⟨?_, ?_⟩
            · simp [Iv.upd, hi, hd, sl_true, sl_false, so_true, so_false]
            · simpa [Iv.upd, hi, hd] using hw
          · rintro f a0 y Q' ⟨rfl, hw⟩ hi hd hQ
            replace hQ := Lib.hid hQ
            simp [Iv.depsB, Region.binds] at hd
            try simp only [hi, hd, sl_true, sl_false, so_true, so_false]
            try simp only [hi, sl_true, sl_false, so_true, so_false]
            have d8 : f 8 = true := by simp [hd]
            have d9 : f 9 = true := by simp [hd]
            have d6 : f 6 = true := by simp [hd]
            try simp only [d9, d6, so_true, so_false]
            have hw2 := hw
            rw [hi, d8] at hw2
            have HH2 := Lib.hid hw2
            have t0 := (hw2.st.knows.at 1 rfl).cell k
            simp only [Bool.false_eq_true, if_false] at t0
            rw [HU1.out] at t0
            have t1 := (hw2.st.knows.at 1 rfl).free k
            clear hw2
            go_wp2_with fail
            refine hQ.out _ _ ⟨?_, ?_⟩
            · simp [Iv.upd, hi, hd, d8, d9, d6, sl_true, sl_false, so_true, so_false]
            · have h9 := HH2.out.set1 (by have := HW2.out; omega) (fun r hr => HR6.out r hr) (by simp) k (.int .i64 (s5 : Int))
              simpa [Iv.upd, hi, hd, d8, d9, d6] using h9
        · rintro f a0 y9 ⟨rfl, hw⟩ hall
          simp only [hall 0 (by decide), hall 1 (by decide), hall 2 (by decide), hall 3 (by decide), hall 4 (by decide), hall 5 (by decide), hall 6 (by decide), hall 7 (by decide), hall 8 (by decide), hall 9 (by decide), hall 10 (by decide), sl_true, ↓reduceIte, so_true, so_false] at hw ⊢
          clear hall
          have h10 := hw
          rw [HNX.out, HSX.out] at h10
          have H10 := Lib.hid (h10.few (L' := [(w2.heap.size + 1, 48, sures d (k + 1)), (w2.heap.size, 47, was d (k + 1))]) (fun r hr => by simp at hr ⊢; rcases hr with h | h <;> simp [h]))
          clear hw h10
          go_wp2_with fail
          go_roundw
          case rel => exact ⟨k + 1, by omega, by go_num, H10.out⟩
          case measure => simp [intOf]; omega
      · obtain rfl : k = 3 := by omega
        have HDC : Hid (d.down = false) := Lib.hid HF0.out.down
        have HFIT := Lib.hid (HF0.out.lost m1)
        have HD2 : Hid (∀ k : Nat, k < 3 → (d.of k).sure ≤ (d.of k).kept (m1.getD k 0) ∧ (d.of k).kept (m1.getD k 0) ≤ (d.of k).all.length ∧ (d.crash m1).up.of k = ⟨(d.of k).all.take ((d.of k).kept (m1.getD k 0)), (d.of k).kept (m1.getD k 0)⟩) := Lib.hid fun k hk => by
          obtain ⟨a, b⟩ := okay_kept (okay_of HOK0.out k) (m1.getD k 0)
          exact ⟨a, b, lost_of HF0.out m1 k hk⟩
        have hcr := H.out.crash (HI1.out _ _ H.out.st.below)
        rw [hm2] at hcr
        have HCR := Lib.hid hcr
        have HDOWN : Hid ((d.crash m1).down = true) := Lib.hid (by unfold D.crash; rw [if_neg (by simp [HF0.out.down])]; rfl)
        clear hcr
        go_wp2_with fail
        refine HCR.out.mono ?_
        rintro e w6 ⟨rfl, hl⟩
        replace H := Lib.hid hl
        clear hl
        go_wp2_with fail
        refine H.out.down.mono ?_
        rintro e x ⟨rfl, ex⟩
        subst x
        rw [HDOWN.out]
        go_wp2_with fail
        refine H.out.up.mono ?_
        rintro e w7 ⟨rfl, hl⟩
        replace H := Lib.hid hl
        clear hl
        generalize (d.crash m1).up = d2 at *
        go_wp2_with fail
        go_loopw [11] (fun i wr => ∃ k : Nat, k ≤ 3 ∧ i = .int .i64 (k : Int) ∧ Lw w wr [(w2.heap.size + 1, 48, sures d 3), (w2.heap.size, 47, was d 3)] g d2) (fun i _ => 3 - (intOf i).toNat)
        case atStart => exact ⟨0, by omega, rfl, H.out⟩
        case round =>
          obtain ⟨k, hk, rfl, hl⟩ := hrel
          replace H := Lib.hid hl
          clear hl
          by_cases hlt : k < 3
          · have i1 : (k : Int) < 3 := by omega
            obtain ⟨r1, r2⟩ := fit_read HFIT.out k hlt
            obtain ⟨g1, g2, g3⟩ := HD2.out k hlt
            rw [g3] at r2
            have HR1 := Lib.hid r1
            have HR2 := Lib.hid r2
            have HWE := Lib.hid (was_end d k hlt)
            have HSE := Lib.hid (sures_end d k hlt)
            have HK64 : Hid (W64 (k : Int)) := Lib.hid ⟨by omega, by omega⟩
            have HSU := Lib.hid (fun (y : World) (L : List Row) (hy : Lw w y L g d2) => hy.sure HK64.out)
            rw [g3] at HSU
            have htl : ((d.of k).all.take ((d.of k).kept (m1.getD k 0))).length = (d.of k).kept (m1.getD k 0) := by rw [List.length_take]; omega
            have hsize : (txt (d.of k).all).size = (d.of k).all.length := txt_size _
            have hex : (txt (d.of k).all).extract 0 ((d.of k).kept (m1.getD k 0)) = txt ((d.of k).all.take ((d.of k).kept (m1.getD k 0))) := by
              unfold txt
              apply ByteArray.ext
              simp
            clear r1 r2 g3
            go_wp2_with fail
            refine (H.out.read HK64.out).mono ?_
            rintro e w8 ⟨v, rfl, ho, hb⟩
            rw [HR1.out]
            rw [HR2.out] at ho
            obtain ⟨A5, cap5, R5, rfl, hA5, hcap5, hl, hown5⟩ := H.out.own hb ho
            have HN5 := Lib.hid hown5
            have H8 := Lib.hid hl
            clear hl ho hb hown5
            have hcv : Hid (∀ y, Knows y R5 → (convert 41 9 (.slice A5 ((d.of k).all.take ((d.of k).kept (m1.getD k 0))).length cap5)).run Try.prog y = .ok (.string (txt ((d.of k).all.take ((d.of k).kept (m1.getD k 0))))) y) := Lib.hid fun y hy => conv_bytes ((d.of k).all.take ((d.of k).kept (m1.getD k 0))) A5 cap5 _ y ((HN5.out y hy).sees rfl)
            clear HN5 HR2
            rw [htl] at hcv
            dsimp only at HSU ⊢
            rw [htl]
            clear htl
            generalize txt ((d.of k).all.take ((d.of k).kept (m1.getD k 0))) = t5 at *
            generalize (d.of k).kept (m1.getD k 0) = q5 at *
            generalize txt (d.of k).all = t6 at *
            generalize (d.of k).all.length = n6 at *
            generalize (d.of k).sure = s6 at *
            have j1 : ¬ ((q5 : Int) < s6) := by omega
            have j2 : ¬ ((n6 : Int) < q5) := by omega
            go_wp2_with fail
            obtain ⟨C, hC, HCc, HCf⟩ := lw_class H8.out
            refine region_in C hC (by kernel_rfl) (by kernel_rfl) ?_
            iterate 38
              (refine WQ.step (fun K hK => ?_)
               go_simp
               first
                 | (refine hK _ ?_; clear hK K)
                 | (apply Exists.intro
                    refine ⟨fun y hy => ?_, hK _ ?_⟩
                    · first
                        | rfl
                        | (go_at_call 20; refine (HSU.out y _ (HCf.out _ hy)).mono ?_; rintro e x1 ⟨rfl, hb⟩; exact ⟨rfl, HCc.out _ _ hy hb⟩)
                        | (have hk1 := hcv.out y (fun r hr => (HCf.out _ hy).knows r (List.mem_append.2 (.inl hr)))
                           go_simp
                           first | rfl | exact ⟨rfl, rfl⟩)
                        | (have hw1 := ((HCf.out _ hy).knows (w2.heap.size, 47, was d 3) (List.mem_append.2 (.inr (by simp)))).cell k
                           rw [HWE.out] at hw1
                           have hw2 := ((HCf.out _ hy).knows (w2.heap.size + 1, 48, sures d 3) (List.mem_append.2 (.inr (by simp)))).cell k
                           rw [HSE.out] at hw2
                           go_simp
                           first | rfl | exact ⟨rfl, rfl⟩)
                    clear hK K))
            refine WQ.nil ?_
            intro y hy
            have H9 := Lib.hid ((HCf.out _ hy).few (L' := [(w2.heap.size + 1, 48, sures d 3), (w2.heap.size, 47, was d 3)]) (fun r hr => List.mem_append.2 (.inr hr)))
            clear hy hC HCc HCf C
            go_wp2_with fail
            go_roundw
            case rel => exact ⟨k + 1, by omega, by go_num, H9.out⟩
            case measure => simp [intOf]; omega
          · obtain rfl : k = 3 := by omega
            go_wp2_with fail
            go_ret
            exact ⟨rfl, H.out.st.below⟩
  · go_enter Try.func5, Try.ntmps5
    go_wp2_with fail
    refine HMADE.out.mono ?_
    rintro e w1 ⟨g, d, rfl, hl, hfit0⟩
    have H := Lib.hid hl
    have HF0 := Lib.hid hfit0
    have HOK0 := Lib.hid hl.ok
    clear hl hfit0 HMADE
    go_wp2_with fail
    refine (awake_any _).mono ?_
    rintro e w2 ⟨rfl, hb⟩
    replace H := Lib.hid (H.out.call hb)
    clear hb
    have HW2 := Lib.hid H.out.st.below.size
    go_wp2_with fail
    replace H := Lib.hid (show Lw w _ [(w2.heap.size + 1, 48, sures d 0), (w2.heap.size, 47, was d 0)] g d from (H.out.alloc w2.heap.size rfl 47 #[.string ⟨#[]⟩, .string ⟨#[]⟩, .string ⟨#[]⟩]).alloc (w2.heap.size + 1) (by simp) 48 #[.int .i64 0, .int .i64 0, .int .i64 0])
    go_loopw [8] (fun i wr => ∃ k : Nat, k ≤ 3 ∧ i = .int .i64 (k : Int) ∧ Lw w wr [(w2.heap.size + 1, 48, sures d k), (w2.heap.size, 47, was d k)] g d) (fun i _ => 3 - (intOf i).toNat)
    case atStart => exact ⟨0, by omega, rfl, H.out⟩
    case round =>
      obtain ⟨k, hk, rfl, hl⟩ := hrel
      replace H := Lib.hid hl
      clear hl
      by_cases hlt : k < 3
      · have i1 : (k : Int) < 3 := by omega
        obtain ⟨r1, r2⟩ := fit_read HF0.out k hlt
        have HR1 := Lib.hid r1
        have HR2 := Lib.hid r2
        have HNX := Lib.hid (was_next d k hlt)
        have HSX := Lib.hid (sures_next d k hlt)
        obtain ⟨u0, hu0⟩ := was_at d k hlt
        have HU := Lib.hid hu0
        obtain ⟨u1, hu1⟩ := sures_at d k hlt
        have HU1 := Lib.hid hu1
        have HK64 : Hid (W64 (k : Int)) := Lib.hid ⟨by omega, by omega⟩
        have HSU := Lib.hid (fun (y : World) (L : List Row) (hy : Lw w y L g d) => hy.sure HK64.out)
        clear r1 r2 hu0 hu1
        go_wp2_with fail
        refine (H.out.read HK64.out).mono ?_
        rintro e w6 ⟨v, rfl, ho, hb⟩
        rw [HR1.out]
        rw [HR2.out] at ho
        obtain ⟨A5, cap5, R5, rfl, hA5, hcap5, hl, hown5, hfar⟩ := H.out.own1 hb ho
        have HN5 := Lib.hid hown5
        have hlt2 := (H.out.st.knows.at 0 rfl).lt
        have HR5 : Hid (∀ (X : Array Value) (r : Row), r ∈ (w2.heap.size + 1, 48, X) :: R5 → r.1 ≠ w2.heap.size) := Lib.hid fun X r hr => by
          rcases List.mem_cons.1 hr with rfl | hr
          · simp
          · have := hfar r hr; omega
        have HR6 : Hid (∀ r ∈ R5, r.1 ≠ w2.heap.size + 1) := Lib.hid fun r hr => by have := hfar r hr; omega
        have H8S := Lib.hid ((hl.few (L' := [(w2.heap.size, 47, was d k), (w2.heap.size + 1, 48, sures d k)] ++ R5) (fun r hr => by simp at hr ⊢; rcases hr with h | h | h <;> simp [h])).drewN 1)
        clear hl ho hb hown5 hfar hlt2
        have hcv : Hid (∀ y, Knows y R5 → (convert 41 9 (.slice A5 (d.of k).all.length cap5)).run Try.prog y = .ok (.string (txt (d.of k).all)) y) := Lib.hid fun y hy => conv_bytes (d.of k).all A5 cap5 _ y ((HN5.out y hy).sees rfl)
        clear HN5 HR2
        generalize (d.of k).all.length = n5 at *
        generalize txt (d.of k).all = t5 at *
        generalize (d.of k).sure = s5 at *
        go_wp2_with fail
        refine Iv.region (fun f aa y => aa = ⟨#[Value.slice A l.length cap, Value.slice A1 n0 cap1, undef, undef, u4, ptr g, Value.pointer (some ⟨w2.heap.size, 0, none⟩), Value.pointer (some ⟨w2.heap.size + 1, 0, none⟩), .int .i64 (k : Int), Value.slice A5 n5 cap5, .int .i64 0, undef, undef, undef, Value.slice A l.length cap, ptr g, .bool true, .bool false, .bool false, ptr g, .bool false, .bool false, Value.slice A1 n0 cap1, .int .i64 (n0 : Int), .bool (decide ((20 : Int) < (n0 : Int))), undef, undef, .int .i64 (k : Int), .bool true, u29, u30, .tuple #[Value.slice A5 n5 cap5, .int .i64 0], ptr g, .int .i64 (k : Int), .tuple #[Value.slice A5 n5 cap5, .int .i64 0], Value.slice A5 n5 cap5, .int .i64 0, .int .i64 0, .bool false, so (f 0) (.int .i64 (k : Int)) u39, so (f 1) (.int .i64 (k : Int)) u40, so (f 2) (Value.slice A5 n5 cap5) u41, so (f 3) (.string t5) u42, so (f 4) (ptr g) u43, so (f 5) (.int .i64 (k : Int)) u44, so (f 6) (.int .i64 (s5 : Int)) u45, so (f 7) (.pointer (some ⟨w2.heap.size, k, none⟩)) u46, so (f 9) (.pointer (some ⟨w2.heap.size + 1, k, none⟩)) u47, undef, undef, undef, undef, undef, undef, undef, undef, undef, undef, undef, undef, undef, undef, undef, undef, undef, undef, undef, undef, undef, undef, undef, undef, undef, undef, undef, undef, undef, undef, undef, undef, undef, undef, undef, undef, undef, undef, undef, undef, undef, undef, undef, undef, undef, undef, undef, undef, undef, undef, undef, undef, undef, undef, undef, undef], []⟩ ∧ Lw w y ([(w2.heap.size, 47, if f 8 = true then (was d k).setIfInBounds k (.string t5) else was d k), (w2.heap.size + 1, 48, if f 10 = true then (sures d k).setIfInBounds k (.int .i64 (s5 : Int)) else sures d k)] ++ R5) g d) (by kernel_rfl) (by kernel_rfl) ?_ ?_ ?_
        · exact ⟨rfl, by simpa using (show Lw w w6.drew _ g d from H8S.out)⟩
        · refine ⟨?_, ?_, ?_, ?_, ?_, ?_, ?_, ?_, ?_, ?_, ?_, trivial⟩
          · rintro f a0 y Q' ⟨rfl, hw⟩ hi hd hQ
            replace hQ := Lib.hid hQ
            simp [Iv.depsB, Region.binds] at hd
            try simp only [hi, hd, sl_true, sl_false, so_true, so_false]
            try simp only [hi, sl_true, sl_false, so_true, so_false]
            go_wp2_with fail
            refine hQ.out _ _ ⟨?_, ?_⟩
            · simp [Iv.upd, hi, hd, sl_true, sl_false, so_true, so_false]
            · simpa [Iv.upd, hi, hd] using hw
          · rintro f a0 y Q' ⟨rfl, hw⟩ hi hd hQ
            replace hQ := Lib.hid hQ
            simp [Iv.depsB, Region.binds] at hd
            try simp only [hi, hd, sl_true, sl_false, so_true, so_false]
            try simp only [hi, sl_true, sl_false, so_true, so_false]
            go_wp2_with fail
            refine hQ.out _ _ ⟨?_, ?_⟩
            · simp [Iv.upd, hi, hd, sl_true, sl_false, so_true, so_false]
            · simpa [Iv.upd, hi, hd] using hw
          · rintro f a0 y Q' ⟨rfl, hw⟩ hi hd hQ
            replace hQ := Lib.hid hQ
            simp [Iv.depsB, Region.binds] at hd
            try simp only [hi, hd, sl_true, sl_false, so_true, so_false]
            try simp only [hi, sl_true, sl_false, so_true, so_false]
            go_wp2_with fail
            refine hQ.out _ _ ⟨?_, ?_⟩
            · simp [Iv.upd, hi, hd, sl_true, sl_false, so_true, so_false]
            · simpa [Iv.upd, hi, hd] using hw
          · rintro f a0 y Q' ⟨rfl, hw⟩ hi hd hQ
            replace hQ := Lib.hid hQ
            simp [Iv.depsB, Region.binds] at hd
            try simp only [hi, hd, sl_true, sl_false, so_true, so_false]
            try simp only [hi, sl_true, sl_false, so_true, so_false]
            have hk1 := hcv.out y (fun r hr => hw.knows r (List.mem_append.2 (.inr hr)))
            go_wp2_with fail
            refine hQ.out _ _ ⟨?_, ?_⟩
            · simp [Iv.upd, hi, hd, sl_true, sl_false, so_true, so_false]
            · simpa [Iv.upd, hi, hd] using hw
          · rintro f a0 y Q' ⟨rfl, hw⟩ hi hd hQ
            replace hQ := Lib.hid hQ
            simp [Iv.depsB, Region.binds] at hd
            try simp only [hi, hd, sl_true, sl_false, so_true, so_false]
            try simp only [hi, sl_true, sl_false, so_true, so_false]
            go_wp2_with fail
            refine hQ.out _ _ ⟨?_, ?_⟩
            · simp [Iv.upd, hi, hd, sl_true, sl_false, so_true, so_false]
            · simpa [Iv.upd, hi, hd] using hw
          · rintro f a0 y Q' ⟨rfl, hw⟩ hi hd hQ
            replace hQ := Lib.hid hQ
            simp [Iv.depsB, Region.binds] at hd
            try simp only [hi, hd, sl_true, sl_false, so_true, so_false]
            try simp only [hi, sl_true, sl_false, so_true, so_false]
            go_wp2_with fail
            refine hQ.out _ _ ⟨?_, ?_⟩
            · simp [Iv.upd, hi, hd, sl_true, sl_false, so_true, so_false]
            · simpa [Iv.upd, hi, hd] using hw
          · rintro f a0 y Q' ⟨rfl, hw⟩ hi hd hQ
            replace hQ := Lib.hid hQ
            simp [Iv.depsB, Region.binds] at hd
            try simp only [hi, hd, sl_true, sl_false, so_true, so_false]
            try simp only [hi, sl_true, sl_false, so_true, so_false]
            go_wp2_with fail
            refine (HSU.out y _ hw).mono ?_
            rintro e y1 ⟨rfl, hb⟩
            go_wp2_with fail
            refine hQ.out _ _ ⟨?_, ?_⟩
            · simp [Iv.upd, hi, hd, sl_true, sl_false, so_true, so_false]
            · simpa [Iv.upd, hi, hd] using hw.call hb
          · rintro f a0 y Q' ⟨rfl, hw⟩ hi hd hQ
            replace hQ := Lib.hid hQ
            simp [Iv.depsB, Region.binds] at hd
            try simp only [hi, hd, sl_true, sl_false, so_true, so_false]
            try simp only [hi, sl_true, sl_false, so_true, so_false]
            go_wp2_with fail
            refine hQ.out _ _ ⟨?_, ?_⟩
            · simp [Iv.upd, hi, hd, sl_true, sl_false, so_true, so_false]
            · simpa [Iv.upd, hi, hd] using hw
          · rintro f a0 y Q' ⟨rfl, hw⟩ hi hd hQ
            replace hQ := Lib.hid hQ
            simp [Iv.depsB, Region.binds] at hd
            try simp only [hi, hd, sl_true, sl_false, so_true, so_false]
            try simp only [hi, sl_true, sl_false, so_true, so_false]
            have d7 : f 7 = true := by simp [hd]
            have d3 : f 3 = true := by simp [hd]
            try simp only [d7, d3, so_true, so_false]
            have hw2 := hw
            rw [hi] at hw2
            have HH2 := Lib.hid hw2
            have t0 := (hw2.st.knows.at 0 rfl).cell k
            simp only [Bool.false_eq_true, if_false] at t0
            rw [HU.out] at t0
            have t1 := (hw2.st.knows.at 0 rfl).free k
            clear hw2
            go_wp2_with fail
            refine hQ.out _ _ ⟨?_, ?_⟩
            · simp [Iv.upd, hi, hd, d7, d3, sl_true, sl_false, so_true, so_false]
            · have h9 := HH2.out.set0 (by have := HW2.out; omega) (fun r hr => HR5.out _ r hr) k (.string t5)
              simpa [Iv.upd, hi, hd, d7, d3] using h9
          · rintro f a0 y Q' ⟨rfl, hw⟩ hi hd hQ
            replace hQ := Lib.hid hQ
            simp [Iv.depsB, Region.binds] at hd
            try simp only [hi, hd, sl_true, sl_false, so_true, so_false]
            try simp only [hi, sl_true, sl_false, so_true, so_false]
            go_wp2_with fail
            refine hQ.out _ _ ⟨?_, ?_⟩
            · simp [Iv.upd, hi, hd, sl_true, sl_false, so_true, so_false]
            · simpa [Iv.upd, hi, hd] using hw
          · rintro f a0 y Q' ⟨rfl, hw⟩ hi hd hQ
            replace hQ := Lib.hid hQ
            simp [Iv.depsB, Region.binds] at hd
            try simp only [hi, hd, sl_true, sl_false, so_true, so_false]
            try simp only [hi, sl_true, sl_false, so_true, so_false]
            have d8 : f 8 = true := by simp [hd]
            have d9 : f 9 = true := by simp [hd]
            have d6 : f 6 = true := by simp [hd]
            try simp only [d9, d6, so_true, so_false]
            have hw2 := hw
            rw [hi, d8] at hw2
            have HH2 := Lib.hid hw2
            have t0 := (hw2.st.knows.at 1 rfl).cell k
            simp only [Bool.false_eq_true, if_false] at t0
            rw [HU1.out] at t0
            have t1 := (hw2.st.knows.at 1 rfl).free k
            clear hw2
            go_wp2_with fail
            refine hQ.out _ _ ⟨?_, ?_⟩
            · simp [Iv.upd, hi, hd, d8, d9, d6, sl_true, sl_false, so_true, so_false]
            · have h9 := HH2.out.set1 (by have := HW2.out; omega) (fun r hr => HR6.out r hr) (by simp) k (.int .i64 (s5 : Int))
              simpa [Iv.upd, hi, hd, d8, d9, d6] using h9
        · rintro f a0 y9 ⟨rfl, hw⟩ hall
          simp only [hall 0 (by decide), hall 1 (by decide), hall 2 (by decide), hall 3 (by decide), hall 4 (by decide), hall 5 (by decide), hall 6 (by decide), hall 7 (by decide), hall 8 (by decide), hall 9 (by decide), hall 10 (by decide), sl_true, ↓reduceIte, so_true, so_false] at hw ⊢
          clear hall
          have h10 := hw
          rw [HNX.out, HSX.out] at h10
          have H10 := Lib.hid (h10.few (L' := [(w2.heap.size + 1, 48, sures d (k + 1)), (w2.heap.size, 47, was d (k + 1))]) (fun r hr => by simp at hr ⊢; rcases hr with h | h <;> simp [h]))
          clear hw h10
          go_wp2_with fail
          go_roundw
          case rel => exact ⟨k + 1, by omega, by go_num, H10.out⟩
          case measure => simp [intOf]; omega
      · obtain rfl : k = 3 := by omega
        have HDC : Hid (d.down = false) := Lib.hid HF0.out.down
        have HFIT := Lib.hid (HF0.out.lost m1)
        have HD2 : Hid (∀ k : Nat, k < 3 → (d.of k).sure ≤ (d.of k).kept (m1.getD k 0) ∧ (d.of k).kept (m1.getD k 0) ≤ (d.of k).all.length ∧ (d.crash m1).up.of k = ⟨(d.of k).all.take ((d.of k).kept (m1.getD k 0)), (d.of k).kept (m1.getD k 0)⟩) := Lib.hid fun k hk => by
          obtain ⟨a, b⟩ := okay_kept (okay_of HOK0.out k) (m1.getD k 0)
          exact ⟨a, b, lost_of HF0.out m1 k hk⟩
        have hcr := H.out.crash (HI1.out _ _ H.out.st.below)
        rw [hm2] at hcr
        have HCR := Lib.hid hcr
        have HDOWN : Hid ((d.crash m1).down = true) := Lib.hid (by unfold D.crash; rw [if_neg (by simp [HF0.out.down])]; rfl)
        clear hcr
        go_wp2_with fail
        refine HCR.out.mono ?_
        rintro e w6 ⟨rfl, hl⟩
        replace H := Lib.hid hl
        clear hl
        go_wp2_with fail
        refine H.out.down.mono ?_
        rintro e x ⟨rfl, ex⟩
        subst x
        rw [HDOWN.out]
        go_wp2_with fail
        refine H.out.up.mono ?_
        rintro e w7 ⟨rfl, hl⟩
        replace H := Lib.hid hl
        clear hl
        generalize (d.crash m1).up = d2 at *
        go_wp2_with fail
        go_loopw [11] (fun i wr => ∃ k : Nat, k ≤ 3 ∧ i = .int .i64 (k : Int) ∧ Lw w wr [(w2.heap.size + 1, 48, sures d 3), (w2.heap.size, 47, was d 3)] g d2) (fun i _ => 3 - (intOf i).toNat)
        case atStart => exact ⟨0, by omega, rfl, H.out⟩
        case round =>
          obtain ⟨k, hk, rfl, hl⟩ := hrel
          replace H := Lib.hid hl
          clear hl
          by_cases hlt : k < 3
          · have i1 : (k : Int) < 3 := by omega
            obtain ⟨r1, r2⟩ := fit_read HFIT.out k hlt
            obtain ⟨g1, g2, g3⟩ := HD2.out k hlt
            rw [g3] at r2
            have HR1 := Lib.hid r1
            have HR2 := Lib.hid r2
            have HWE := Lib.hid (was_end d k hlt)
            have HSE := Lib.hid (sures_end d k hlt)
            have HK64 : Hid (W64 (k : Int)) := Lib.hid ⟨by omega, by omega⟩
            have HSU := Lib.hid (fun (y : World) (L : List Row) (hy : Lw w y L g d2) => hy.sure HK64.out)
            rw [g3] at HSU
            have htl : ((d.of k).all.take ((d.of k).kept (m1.getD k 0))).length = (d.of k).kept (m1.getD k 0) := by rw [List.length_take]; omega
            have hsize : (txt (d.of k).all).size = (d.of k).all.length := txt_size _
            have hex : (txt (d.of k).all).extract 0 ((d.of k).kept (m1.getD k 0)) = txt ((d.of k).all.take ((d.of k).kept (m1.getD k 0))) := by
              unfold txt
              apply ByteArray.ext
              simp
            clear r1 r2 g3
            go_wp2_with fail
            refine (H.out.read HK64.out).mono ?_
            rintro e w8 ⟨v, rfl, ho, hb⟩
            rw [HR1.out]
            rw [HR2.out] at ho
            obtain ⟨A5, cap5, R5, rfl, hA5, hcap5, hl, hown5⟩ := H.out.own hb ho
            have HN5 := Lib.hid hown5
            have H8 := Lib.hid hl
            clear hl ho hb hown5
            have hcv : Hid (∀ y, Knows y R5 → (convert 41 9 (.slice A5 ((d.of k).all.take ((d.of k).kept (m1.getD k 0))).length cap5)).run Try.prog y = .ok (.string (txt ((d.of k).all.take ((d.of k).kept (m1.getD k 0))))) y) := Lib.hid fun y hy => conv_bytes ((d.of k).all.take ((d.of k).kept (m1.getD k 0))) A5 cap5 _ y ((HN5.out y hy).sees rfl)
            clear HN5 HR2
            rw [htl] at hcv
            dsimp only at HSU ⊢
            rw [htl]
            clear htl
            generalize txt ((d.of k).all.take ((d.of k).kept (m1.getD k 0))) = t5 at *
            generalize (d.of k).kept (m1.getD k 0) = q5 at *
            generalize txt (d.of k).all = t6 at *
            generalize (d.of k).all.length = n6 at *
            generalize (d.of k).sure = s6 at *
            have j1 : ¬ ((q5 : Int) < s6) := by omega
            have j2 : ¬ ((n6 : Int) < q5) := by omega
            go_wp2_with fail
            obtain ⟨C, hC, HCc, HCf⟩ := lw_class H8.out
            refine region_in C hC (by kernel_rfl) (by kernel_rfl) ?_
            iterate 38
              (refine WQ.step (fun K hK => ?_)
               go_simp
               first
                 | (refine hK _ ?_; clear hK K)
                 | (apply Exists.intro
                    refine ⟨fun y hy => ?_, hK _ ?_⟩
                    · first
                        | rfl
                        | (go_at_call 20; refine (HSU.out y _ (HCf.out _ hy)).mono ?_; rintro e x1 ⟨rfl, hb⟩; exact ⟨rfl, HCc.out _ _ hy hb⟩)
                        | (have hk1 := hcv.out y (fun r hr => (HCf.out _ hy).knows r (List.mem_append.2 (.inl hr)))
                           go_simp
                           first | rfl | exact ⟨rfl, rfl⟩)
                        | (have hw1 := ((HCf.out _ hy).knows (w2.heap.size, 47, was d 3) (List.mem_append.2 (.inr (by simp)))).cell k
                           rw [HWE.out] at hw1
                           have hw2 := ((HCf.out _ hy).knows (w2.heap.size + 1, 48, sures d 3) (List.mem_append.2 (.inr (by simp)))).cell k
                           rw [HSE.out] at hw2
                           go_simp
                           first | rfl | exact ⟨rfl, rfl⟩)
                    clear hK K))
            refine WQ.nil ?_
            intro y hy
            have H9 := Lib.hid ((HCf.out _ hy).few (L' := [(w2.heap.size + 1, 48, sures d 3), (w2.heap.size, 47, was d 3)]) (fun r hr => List.mem_append.2 (.inr hr)))
            clear hy hC HCc HCf C
            go_wp2_with fail
            go_roundw
            case rel => exact ⟨k + 1, by omega, by go_num, H9.out⟩
            case measure => simp [intOf]; omega
          · obtain rfl : k = 3 := by omega
            go_wp2_with fail
            go_ret
            exact ⟨rfl, H.out.st.below⟩

set_option maxRecDepth 100000 in
theorem lifted (os : Os) (started : os.Started) (H : Type) (enc : TypeId × Value → H) :
    ReturnsInHanded {} Try.checked os 5 .any (Rows.diskKeepsSpec.pre6 enc Try.prog Try.f5 Rows.diskKeepsRow.domain false) (Rows.diskKeepsSpec.post enc Try.prog Try.f5 false true false false) := by
  refine returnsInHanded_of_change (C := Try.checked) own started (by kernel_rfl) Try.func5
    (ChangeSpec.witness6 (enc := enc) (C := Try.checked) false ⟨#[], #[.slice none 0 0, .slice none 0 0], []⟩ 8 (by kernel_rfl) (by kernel_rfl) (by kernel_rfl) (by kernel_rfl)) ?_
  intro W base args ds gs before hval0 hW hcnd _
  have hval : ∀ (j : Nat) t v, Try.f5.params[j]? = some t → args[j]? = some v → Value.okWide Try.prog W .any base t v := hval0
  have hW' := hW
  obtain ⟨p, q, hA0, hV, rfl, hfz, hnd⟩ := hW
  have hA : DataW.TrodAll enc Try.prog W 0 (fun _ => true) true Try.f5.params.toList args.toList ds p := hA0
  rw [Try.params5] at hA hval
  obtain ⟨v0, vs0, d0, ds0, p0, q0, hargs, rfl, rfl, h0, r0⟩ := trodAll_cons hA
  obtain ⟨v1, vs1, d1, ds1, p1, q1, rfl, rfl, rfl, h1, r1⟩ := trodAll_cons r0
  obtain ⟨rfl, rfl, rfl⟩ := trodAll_nil r1
  obtain rfl : args = #[v0, v1] := by cases args; simp_all
  obtain ⟨rfl, rfl⟩ := trodVars_none hV
  obtain ⟨A0, len0, cap0, rfl⟩ := okWide_slice Try.underlying22 (hval 0 22 v0 rfl rfl)
  obtain ⟨l0, w0⟩ := open_acts h0
  have lt0 : ∀ x ∈ p0, x.block < W.heap.size := by obtain ⟨m, hm⟩ := h0; exact DataW.trod_lt m _ _ _ hm
  obtain ⟨A1, len1, cap1, rfl⟩ := okWide_slice Try.underlying28 (hval 1 28 v1 rfl rfl)
  obtain ⟨l1, w1⟩ := open_ints h1
  have lt1 : ∀ x ∈ p1, x.block < W.heap.size := by obtain ⟨m, hm⟩ := h1; exact DataW.trod_lt m _ _ _ hm
  clear hA0 hval0
  simp only [List.append_nil] at hW'
  refine (walk A0 len0 cap0 l0 A1 len1 cap1 l1 W w0 w1).mono fun e W' ⟨he, bel⟩ => ?_
  subst he
  exact ⟨_, rfl, _, _, _, [], _, [], hW', trodAll_mk1 (shut_bool Try.underlying4 _), (trodAll_cons_mk (Below.trod laidOut (by kernel_rfl) (of_decide_eq_true (by kernel_rfl)) h0 bel lt0) (trodAll_cons_mk (Below.trod laidOut (by kernel_rfl) (of_decide_eq_true (by kernel_rfl)) h1 bel lt1) trodAll_mk0)), rfl, bel.frame _, fun h => by cases h⟩

theorem proved : Rows.DiskKeepsSaid :=
  OpenClaim.holds_of_wide 5 Try.f5 rfl rfl rfl rfl rfl rfl rfl ⟨rfl, rfl, rfl, rfl, rfl⟩ rfl rfl rfl rfl rfl (by kernel_rfl) Try.func5 (by kernel_rfl)
    (of_decide_eq_true (by kernel_rfl)) (by unfold Func.isWrapper; first | (rw [if_pos (by decide +kernel)]; kernel_rfl) | (rw [if_neg (by decide +kernel)]; exact ⟨rfl, rfl⟩))
    (fun os started H enc _ => lifted os started H enc)
#print axioms proved
end Go.Proofs.Ytllbfoohhonmeaa.diskKeeps
