/- Spans as cells, and the document's Join. -/
import Derived.Test.YtaoldfndidngbaaSpanD
namespace Go.Proofs.Ytaoldfndidngbaa
open Go.RowKit Go.Sp Go.Fl
set_option linter.unusedVariables false
set_option linter.unusedSimpArgs false

/-- Spans as cells: two each. -/
def spans (l : List (Int × Int)) : List Value := l.flatMap fun s => [Value.int .i64 s.1, Value.int .i64 s.2]
theorem spans_length (l : List (Int × Int)) : (spans l).length = l.length * 2 := by
  induction l with
  | nil => rfl
  | cons s l ih => unfold spans at *; simp [List.flatMap_cons, ih]; omega
theorem spans_at (l : List (Int × Int)) (k : Nat) (s : Int × Int) (h : l[k]? = some s) : (spans l)[k * 2]? = some (.int .i64 s.1) ∧ (spans l)[k * 2 + 1]? = some (.int .i64 s.2) := by
  induction l generalizing k with
  | nil => simp at h
  | cons r l ih =>
    cases k with
    | zero =>
      simp at h; subst h
      exact ⟨rfl, rfl⟩
    | succ k =>
      have h' : l[k]? = some s := by simpa using h
      have := ih k h'
      have e : spans (r :: l) = .int .i64 r.1 :: .int .i64 r.2 :: spans l := rfl
      rw [e, show (k + 1) * 2 = k * 2 + 1 + 1 by omega]
      simpa using this
theorem spans_one (l : List (Int × Int)) : ∀ u ∈ spans l, u.oneCell' = true := by
  intro u hu
  unfold spans at hu
  obtain ⟨s, _, hs⟩ := List.mem_flatMap.1 hu
  simp at hs
  rcases hs with rfl | rfl <;> rfl
theorem spans_append (l m : List (Int × Int)) : spans (l ++ m) = spans l ++ spans m := by unfold spans; rw [List.flatMap_append]
/-- A list of spans is read at its place k. -/
theorem Sees.span {w : World} {B : Nat} {A : Option Addr} {l : List (Int × Int)} (h : Sees w B 2 A l.length (spans l)) (k : Nat) (s : Int × Int) (hk : l[k]? = some s) :
    ∃ b off, A = some ⟨b, off, none⟩ ∧ b < B ∧ w.cell? ⟨b, off + k * 2, none⟩ = some (.int .i64 s.1) ∧ w.cell? ⟨b, off + k * 2 + 1, none⟩ = some (.int .i64 s.2) := by
  have hl := (List.getElem?_eq_some_iff.1 hk).1
  obtain ⟨b, off, hA, hb, hc⟩ := h.2 (by omega)
  obtain ⟨h0, h1⟩ := spans_at l k s hk
  exact ⟨b, off, hA, hb, hc _ _ h0, by have := hc _ _ h1; rwa [← Nat.add_assoc] at this⟩

set_option maxHeartbeats 4000000 in
theorem rjoin_any (B : Nat) (A : Option Addr) (cap : Nat) (l : List (Int × Int)) (w : World) (hs : Sees w B 2 A l.length (spans l)) (hB : B ≤ w.heap.size) (hl : l.length ≤ 1000000) :
    Calls Try.prog 26 #[.slice A l.length cap] w fun e w' => e = .returned (.tuple #[.agg #[.int .i64 (joiL l), .int .i64 (joiH l)], .bool (joiB l)]) ∧ Below w.heap.size w w' := by
  have HS := Lib.hid hs
  have HK := Lib.hid (((Knows.nil w).alloc w.heap.size rfl 23 #[.int .i64 0, .int .i64 0]).alloc (w.heap.size + 1) (by simp) 23 #[.int .i64 1125899906842624, .int .i64 0])
  have HZ := Lib.hid (((Below.refl w.heap.size w).alloc (Nat.le_refl _) (.cells #[.int .i64 0, .int .i64 0] 23)).alloc (by simp) (.cells #[.int .i64 1125899906842624, .int .i64 0] 23))
  clear hs
  go_enter Try.func26, Try.ntmps26
  go_wp2_with fail
  go_loopw [5] (fun i wr => ∃ k : Nat, k ≤ l.length ∧ i = .int .i64 (k : Int) ∧ Below w.heap.size w wr ∧ Knows wr [(w.heap.size + 1, 23, #[.int .i64 (lowest (l.take k)), .int .i64 (highest (l.take k))]), (w.heap.size, 23, #[.int .i64 0, .int .i64 0])] ∧ AllS (l.take k)) (fun i _ => l.length - (intOf i).toNat)
  case atStart => exact ⟨0, by omega, rfl, HZ.out, HK.out, AllS.nil⟩
  case round =>
    obtain ⟨k, hk, rfl, hbel, hkn, hall⟩ := hrel
    have HB := Lib.hid hbel
    have HN := Lib.hid hkn
    have HA := Lib.hid hall
    clear hbel hkn hall
    by_cases hlt : k < l.length
    · obtain ⟨s, hn⟩ : ∃ s, l[k]? = some s := ⟨_, List.getElem?_eq_getElem hlt⟩
      obtain ⟨b0, off, rfl, hb, gl, gh⟩ := (HS.out.below (HB.out.mono hB)).span k s hn
      have HNN := Lib.hid hn
      have HI := Lib.hid (fun w0 => ris_any s.1 s.2 w0)
      have HLS := Lib.hid (lowest_snoc l k s hn)
      have HHS := Lib.hid (highest_snoc l k s hn)
      have hkl : (k : Int) < (l.length : Int) := by omega
      cases hi : isS s.1 s.2 with
      | true =>
        have HM := Lib.hid (HA.out.more hn hi)
        rw [hi] at HI
        have hk1 := (HA.out)
        clear hk1
        generalize lowest (l.take k) = L at *
        generalize highest (l.take k) = M at *
        clear hi hn
        obtain ⟨s1, s2⟩ := s
        simp only at gl gh HI HLS HHS
        have key : (s1 < L ∨ L ≤ s1) ∧ (M < s2 ∨ s2 ≤ M) := by omega
        obtain ⟨k1 | k1, k2 | k2⟩ := key
        all_goals
          first
            | rw [if_pos k1] at HLS
            | rw [if_neg (by omega)] at HLS
          first
            | rw [if_pos k2] at HHS
            | rw [if_neg (by omega)] at HHS
          go_wp2_with fail
          refine (HI.out _).mono ?_
          rintro e w1 ⟨rfl, hb1⟩
          have HN1 := Lib.hid (HN.out.keep hb1)
          have HB1 := Lib.hid (HB.out.trans (hb1.mono HB.out.size))
          obtain ⟨b1, off1, hA1, hbb1, gl1, gh1⟩ := (HS.out.below (HB1.out.mono hB)).span k (s1, s2) HNN.out
          injection hA1 with hA1
          injection hA1 with hA1 hA2
          subst hA1 hA2
          obtain ⟨g0, g1, f0, f1, z0⟩ := HN1.out.two 0 (w.heap.size + 1) rfl
          have hne : b0 ≠ w.heap.size + 1 := by omega
          clear hb1 gl gh
          go_wp2_with fail
          go_quiet (fail)
          go_wp2_with fail
          go_quiet (fail)
          go_wp2_with fail
          go_roundw
          case rel =>
            refine ⟨k + 1, by omega, by go_num, ?_, ?_, HM.out⟩
            · have hb := HB1.out
              repeat' (first | exact hb | refine below_drewN ?_ _ | refine Below.setCell ?_ (by go_size) _)
            · rw [HLS.out, HHS.out]
              have hd : ∀ r ∈ [((w.heap.size, 23, #[Value.int .i64 0, Value.int .i64 0]) : Row)], r.1 ≠ w.heap.size + 1 := by
                intro r hr
                rw [List.mem_singleton.1 hr]
                show w.heap.size ≠ _
                omega
              first
                | exact (((HN1.out.drewN _).set0 hd 0 _).drewN _).set0 hd 1 _
                | exact ((HN1.out.drewN _).set0 hd 0 _).drewN _
                | exact (HN1.out.drewN _).set0 hd 1 _
                | exact HN1.out.drewN _
          case measure => simp [intOf]; omega
      | false =>
        have HX : Hid (joiB l = false ∧ joiL l = 0 ∧ joiH l = 0) := Lib.hid (by
          have h0 : joiB l = false := by
            unfold joiB; rw [decide_eq_false_iff_not]
            exact fun h => AllS.stop hn hi h.2
          unfold joiL joiH; rw [h0]; exact ⟨rfl, rfl, rfl⟩)
        rw [hi] at HI
        generalize lowest (l.take k) = L at *
        generalize highest (l.take k) = M at *
        clear hi hn
        obtain ⟨s1, s2⟩ := s
        simp only at gl gh HI
        go_wp2_with fail
        refine (HI.out _).mono ?_
        rintro e w1 ⟨rfl, hb1⟩
        have HN1 := Lib.hid (HN.out.keep hb1)
        have HB1 := Lib.hid (HB.out.trans (hb1.mono HB.out.size))
        obtain ⟨g0, g1, f0, f1, z0⟩ := HN1.out.two 1 w.heap.size rfl
        clear hb1 gl gh
        go_wp2_with fail
        (try simp only [Exit.inBlock, Exit.then])
        refine bodyPost_ret (by simp [results, Try.results26, go_sem, g0, g1, f0, f1, z0]; try rfl) rfl ?_
        refine ⟨by rw [HX.out.1, HX.out.2.1, HX.out.2.2], ?_⟩
        have hb := HB1.out
        go_grown
    · obtain rfl : k = l.length := by omega
      rw [List.take_length] at HN HA
      obtain ⟨g0, g1, f0, f1, z0⟩ := HN.out.two 1 w.heap.size rfl
      obtain ⟨g2, g3, f2, f3, z2⟩ := HN.out.two 0 (w.heap.size + 1) rfl
      by_cases h0 : l.length = 0
      · have HX : Hid (joiB l = false ∧ joiL l = 0 ∧ joiH l = 0) := Lib.hid (by
          have h0 : joiB l = false := by
            unfold joiB; rw [decide_eq_false_iff_not]
            exact fun h => h.1 (List.eq_nil_of_length_eq_zero h0)
          unfold joiL joiH; rw [h0]; exact ⟨rfl, rfl, rfl⟩)
        generalize lowest l = L at *
        generalize highest l = M at *
        go_wp2_with fail
        (try simp only [Exit.inBlock, Exit.then])
        refine bodyPost_ret (by simp [results, Try.results26, go_sem, g0, g1, f0, f1, z0]; try rfl) rfl ?_
        refine ⟨by rw [HX.out.1, HX.out.2.1, HX.out.2.2], ?_⟩
        have hb := HB.out
        go_grown
      · have HX : Hid (joiB l = true ∧ joiL l = lowest l ∧ joiH l = highest l) := Lib.hid (by
          have h0 : joiB l = true := by
            unfold joiB; rw [decide_eq_true_eq]
            exact ⟨fun h => h0 (by rw [h]; rfl), HA.out⟩
          unfold joiL joiH; rw [h0]; exact ⟨rfl, rfl, rfl⟩)
        generalize lowest l = L at *
        generalize highest l = M at *
        have h1 : ((l.length : Int) == 0) = false := by simpa using (by omega : ¬ (l.length : Int) = 0)
        go_wp2_with fail
        (try simp only [Exit.inBlock, Exit.then])
        refine bodyPost_ret (by simp [results, Try.results26, go_sem, g0, g1, f0, f1, z0]; try rfl) rfl ?_
        refine ⟨by rw [HX.out.1, HX.out.2.1, HX.out.2.2], ?_⟩
        have hb := HB.out
        go_grown
end Go.Proofs.Ytaoldfndidngbaa
