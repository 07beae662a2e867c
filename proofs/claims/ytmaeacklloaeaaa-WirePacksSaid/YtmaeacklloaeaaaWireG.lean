/- Contract of the reader's value. -/
import Derived.Test.YtmaeacklloaeaaaWireF
namespace Go.Proofs.Ytmaeacklloaeaaa
open Go.RowKit Go.Fl Go.Wr
set_option linter.unusedVariables false
set_option linter.unusedSimpArgs false

theorem drop_at {bs : List UInt8} {pos : Nat} (h : pos < bs.length) : bs.drop pos = bs[pos] :: bs.drop (pos + 1) := List.drop_eq_getElem_cons h

theorem five {w : World} {g : Nat} {t : TypeId} {a b c d e : Value} (h : Whole w g t #[a, b, c, d, e]) :
    (w.cell? ⟨g, 0, none⟩ = some a ∧ w.cell? ⟨g, 1, none⟩ = some b ∧ w.cell? ⟨g, 2, none⟩ = some c ∧ w.cell? ⟨g, 3, none⟩ = some d ∧ w.cell? ⟨g, 4, none⟩ = some e) ∧
    (w.frozen? ⟨g, 0, none⟩ = false ∧ w.frozen? ⟨g, 1, none⟩ = false ∧ w.frozen? ⟨g, 2, none⟩ = false ∧ w.frozen? ⟨g, 3, none⟩ = false ∧ w.frozen? ⟨g, 4, none⟩ = false) :=
  ⟨⟨h.cell 0, h.cell 1, h.cell 2, h.cell 3, h.cell 4⟩, h.free 0, h.free 1, h.free 2, h.free 3, h.free 4⟩
theorem not_reader {R g : Nat} (h : R < g) : (some g : Option Nat) ≠ some R := by intro e; injection e with e; omega

theorem readValue_1 (R B : Nat) (b : Option Addr) (cap : Nat) (bs : List UInt8) (pos : Nat) (beg : Int) (w : World) (h : Whole w R 54 #[.slice b bs.length cap, .int .i64 (pos : Int), .int .i64 beg])
    (hR : B ≤ R) (hs : Sees w B 1 b bs.length (Lib.byteCells bs)) (h1 : pos < bs.length) (h2 : bs.length ≤ cap) (h3 : cap ≤ 9223372036854775807) (hc : (bs[pos]).toNat = 1) :
    Calls Try.prog 36 #[.pointer (some ⟨R, 0, none⟩)] w (Reads (rdVal (bs.drop pos)) aggV w R (.slice b bs.length cap) bs.length beg) := by
  have H := Lib.hid h
  have HS := Lib.hid hs
  have HL := h.lt
  have HC := Lib.hid hc
  have HRD : Hid (∀ g, rdNum 0 0 (bs.drop (pos + 1)) = g → rdVal (bs.drop pos) = match g with | .ok n r' => .ok ⟨1, (n : Int), 0, 0, empty⟩ r' | .err e => .err e) := by
    refine Lib.hid ?_
    rintro g rfl
    rw [drop_at h1]; simp only [rdVal, hc, show ¬ (2 : Nat) = 1 by omega, show ¬ (3 : Nat) = 1 by omega, show ¬ (3 : Nat) = 2 by omega, show ¬ (4 : Nat) = 1 by omega, show ¬ (4 : Nat) = 2 by omega, show ¬ (4 : Nat) = 3 by omega, if_true, if_false]
    cases rdNum 0 0 (bs.drop (pos + 1)) <;> rfl
  clear h hs hc
  go_enter Try.func36, Try.ntmps36
  go_wp2_with fail
  refine (take_ok R B b cap bs pos 1 beg _ (H.out.alloc _) hR (HS.out.alloc (by omega) _) (by omega) h2 h3).mono ?_
  rintro e w1 ⟨A, c', rfl, hc1, hc2, hsee, hwh, hgr⟩
  obtain ⟨b1, o1, rfl, hb1, hcs⟩ := hsee.2 (by omega)
  have hcell := hcs 0 (.int .u8 1) (by
    rw [drop_at h1]
    show some (Value.int .u8 ((bs[pos]).toNat : Int)) = _
    rw [HC.out]; rfl)
  rw [Nat.add_zero] at hcell
  have hres : Whole w1 w.heap.size 36 _ := (Whole.fresh w 36 _).grown hgr (not_reader HL)
  have hz : w.heap.size < w1.heap.size := by have := hgr.size; simp at this; omega
  have HW1 := Lib.hid hwh
  have HRES := Lib.hid hres
  have HG1 := Lib.hid (grow_trans (World.grownBy_alloc w _ (some R)) hgr)
  have HS1 := Lib.hid (HS.out.grow HG1.out hR (by omega))
  clear hwh hgr hcs hsee hres
  go_wp2_with fail
  cases hrd : rdNum 0 0 (bs.drop (pos + 1)) with
  | err x =>
    have HR := Lib.hid (HRD.out _ hrd)
    refine (readNumber R B b cap bs (pos + 1) beg _ (HW1.out.alloc _) hR (HS1.out.alloc (by omega) _) (by omega) h2 h3).mono ?_
    rw [hrd]
    rintro e w2 ⟨rfl, hg⟩
    have HG2 := Lib.hid (grow_trans (grow_alloc HG1.out _) hg)
    clear hg hrd
    go_wp2_with fail
    refine bodyPost_panic rfl ?_
    rw [HR.out]
    exact ⟨rfl, HG2.out⟩
  | ok n r =>
    have HR := Lib.hid (HRD.out _ hrd)
    
    refine (readNumber R B b cap bs (pos + 1) beg _ (HW1.out.alloc _) hR (HS1.out.alloc (by omega) _) (by omega) h2 h3).mono ?_
    rw [hrd]
    rintro e w2 ⟨rfl, hwh2, hg⟩
    have hloc := (Whole.fresh w1 36 _).grown hg (not_reader (by omega))
    have hres2 := (HRES.out.alloc _).grown hg (not_reader HL)
    have HG2 := Lib.hid (grow_trans (grow_alloc HG1.out _) hg)
    have HW2 := Lib.hid hwh2
    obtain ⟨⟨g0, g1, g2, g3, g4⟩, f0, f1, f2, f3, f4⟩ := five hloc
    obtain ⟨⟨r0, r1, r2, r3, r4⟩, q0, q1, q2, q3, q4⟩ := five hres2
    have hz2 : w1.heap.size < w2.heap.size := by have := hg.size; simp at this; omega
    clear hg hrd hwh2 hloc hres2
    go_wp2_with fail
    have hloc2 := fun (u : Value) (i : Nat) => grow_set HG2.out (p := ⟨w1.heap.size, i, none⟩) (by show w.heap.size ≤ w1.heap.size; omega) u
    have hR0 : R ≠ w.heap.size := by omega
    have hR1 : R ≠ w1.heap.size := by omega
    refine bodyPost_ret (v := aggV ⟨1, (n : Int), 0, 0, empty⟩) (by simp [results, Try.results36, go_sem, empty, r0, r1, r2, r3, r4, Nat.ne_of_gt hz, Nat.ne_of_lt hz]) rfl ?_
    rw [HR.out]
    refine ⟨rfl, ?_, ?_⟩
    · rw [show bs.length - r.length = bs.length - r.length from rfl]
      exact (((((HW2.out.away hR1 _).away hR0 _).away hR0 _).away hR0 _).away hR0 _).away hR0 _
    · exact grow_set (grow_set (grow_set (grow_set (grow_set (hloc2 _ _) (p := ⟨w.heap.size, 0, none⟩) (Nat.le_refl _) _) (p := ⟨w.heap.size, 1, none⟩) (Nat.le_refl _) _) (p := ⟨w.heap.size, 2, none⟩) (Nat.le_refl _) _) (p := ⟨w.heap.size, 3, none⟩) (Nat.le_refl _) _) (p := ⟨w.heap.size, 4, none⟩) (Nat.le_refl _) _

theorem readValue_2 (R B : Nat) (b : Option Addr) (cap : Nat) (bs : List UInt8) (pos : Nat) (beg : Int) (w : World) (h : Whole w R 54 #[.slice b bs.length cap, .int .i64 (pos : Int), .int .i64 beg])
    (hR : B ≤ R) (hs : Sees w B 1 b bs.length (Lib.byteCells bs)) (h1 : pos < bs.length) (h2 : bs.length ≤ cap) (h3 : cap ≤ 9223372036854775807) (hc : (bs[pos]).toNat = 2) :
    Calls Try.prog 36 #[.pointer (some ⟨R, 0, none⟩)] w (Reads (rdVal (bs.drop pos)) aggV w R (.slice b bs.length cap) bs.length beg) := by
  have H := Lib.hid h
  have HS := Lib.hid hs
  have HL := h.lt
  have HC := Lib.hid hc
  have HRD : Hid (∀ g, rdNum 0 0 (bs.drop (pos + 1)) = g → rdVal (bs.drop pos) = match g with | .ok n r' => .ok ⟨2, 0, sg n, 0, empty⟩ r' | .err e => .err e) := by
    refine Lib.hid ?_
    rintro g rfl
    rw [drop_at h1]; simp only [rdVal, hc, show ¬ (2 : Nat) = 1 by omega, show ¬ (3 : Nat) = 1 by omega, show ¬ (3 : Nat) = 2 by omega, show ¬ (4 : Nat) = 1 by omega, show ¬ (4 : Nat) = 2 by omega, show ¬ (4 : Nat) = 3 by omega, if_true, if_false]
    cases rdNum 0 0 (bs.drop (pos + 1)) <;> rfl
  clear h hs hc
  go_enter Try.func36, Try.ntmps36
  go_wp2_with fail
  refine (take_ok R B b cap bs pos 1 beg _ (H.out.alloc _) hR (HS.out.alloc (by omega) _) (by omega) h2 h3).mono ?_
  rintro e w1 ⟨A, c', rfl, hc1, hc2, hsee, hwh, hgr⟩
  obtain ⟨b1, o1, rfl, hb1, hcs⟩ := hsee.2 (by omega)
  have hcell := hcs 0 (.int .u8 2) (by
    rw [drop_at h1]
    show some (Value.int .u8 ((bs[pos]).toNat : Int)) = _
    rw [HC.out]; rfl)
  rw [Nat.add_zero] at hcell
  have hres : Whole w1 w.heap.size 36 _ := (Whole.fresh w 36 _).grown hgr (not_reader HL)
  have hz : w.heap.size < w1.heap.size := by have := hgr.size; simp at this; omega
  have HW1 := Lib.hid hwh
  have HRES := Lib.hid hres
  have HG1 := Lib.hid (grow_trans (World.grownBy_alloc w _ (some R)) hgr)
  have HS1 := Lib.hid (HS.out.grow HG1.out hR (by omega))
  clear hwh hgr hcs hsee hres
  go_wp2_with fail
  cases hrd : rdNum 0 0 (bs.drop (pos + 1)) with
  | err x =>
    have HR := Lib.hid (HRD.out _ hrd)
    refine (readNumber R B b cap bs (pos + 1) beg _ (HW1.out.alloc _) hR (HS1.out.alloc (by omega) _) (by omega) h2 h3).mono ?_
    rw [hrd]
    rintro e w2 ⟨rfl, hg⟩
    have HG2 := Lib.hid (grow_trans (grow_alloc HG1.out _) hg)
    clear hg hrd
    go_wp2_with fail
    refine bodyPost_panic rfl ?_
    rw [HR.out]
    exact ⟨rfl, HG2.out⟩
  | ok n r =>
    have HR := Lib.hid (HRD.out _ hrd)
    have hn : n < 18446744073709551616 := by
      obtain ⟨m, hm0, hm1, _, _⟩ := rdNum_only _ _ _ _ _ (by omega) hrd
      simp at hm0 hm1; omega
    have HSG := Lib.hid (signed_any (n : Int) (by omega) (by omega))
    rw [Int.toNat_natCast] at HSG
    refine (readNumber R B b cap bs (pos + 1) beg _ (HW1.out.alloc _) hR (HS1.out.alloc (by omega) _) (by omega) h2 h3).mono ?_
    rw [hrd]
    rintro e w2 ⟨rfl, hwh2, hg⟩
    have hloc := (Whole.fresh w1 36 _).grown hg (not_reader (by omega))
    have hres2 := (HRES.out.alloc _).grown hg (not_reader HL)
    have HG2 := Lib.hid (grow_trans (grow_alloc HG1.out _) hg)
    have HW2 := Lib.hid hwh2
    obtain ⟨⟨g0, g1, g2, g3, g4⟩, f0, f1, f2, f3, f4⟩ := five hloc
    obtain ⟨⟨r0, r1, r2, r3, r4⟩, q0, q1, q2, q3, q4⟩ := five hres2
    have hz2 : w1.heap.size < w2.heap.size := by have := hg.size; simp at this; omega
    clear hg hrd hwh2 hloc hres2
    go_wp2_with fail
    refine (HSG.out _).mono ?_
    rintro e w3 ⟨rfl, rfl⟩
    go_wp2_with fail
    have hloc2 := fun (u : Value) (i : Nat) => grow_set HG2.out (p := ⟨w1.heap.size, i, none⟩) (by show w.heap.size ≤ w1.heap.size; omega) u
    have hR0 : R ≠ w.heap.size := by omega
    have hR1 : R ≠ w1.heap.size := by omega
    refine bodyPost_ret (v := aggV ⟨2, 0, sg n, 0, empty⟩) (by simp [results, Try.results36, go_sem, empty, r0, r1, r2, r3, r4, Nat.ne_of_gt hz, Nat.ne_of_lt hz]) rfl ?_
    rw [HR.out]
    refine ⟨rfl, ?_, ?_⟩
    · rw [show bs.length - r.length = bs.length - r.length from rfl]
      exact (((((HW2.out.away hR1 _).away hR0 _).away hR0 _).away hR0 _).away hR0 _).away hR0 _
    · exact grow_set (grow_set (grow_set (grow_set (grow_set (hloc2 _ _) (p := ⟨w.heap.size, 0, none⟩) (Nat.le_refl _) _) (p := ⟨w.heap.size, 1, none⟩) (Nat.le_refl _) _) (p := ⟨w.heap.size, 2, none⟩) (Nat.le_refl _) _) (p := ⟨w.heap.size, 3, none⟩) (Nat.le_refl _) _) (p := ⟨w.heap.size, 4, none⟩) (Nat.le_refl _) _

theorem readValue_3 (R B : Nat) (b : Option Addr) (cap : Nat) (bs : List UInt8) (pos : Nat) (beg : Int) (w : World) (h : Whole w R 54 #[.slice b bs.length cap, .int .i64 (pos : Int), .int .i64 beg])
    (hR : B ≤ R) (hs : Sees w B 1 b bs.length (Lib.byteCells bs)) (h1 : pos < bs.length) (h2 : bs.length ≤ cap) (h3 : cap ≤ 9223372036854775807) (hc : (bs[pos]).toNat = 3) :
    Calls Try.prog 36 #[.pointer (some ⟨R, 0, none⟩)] w (Reads (rdVal (bs.drop pos)) aggV w R (.slice b bs.length cap) bs.length beg) := by
  have H := Lib.hid h
  have HS := Lib.hid hs
  have HL := h.lt
  have HC := Lib.hid hc
  have HRD : Hid (∀ g, rdFloat (bs.drop (pos + 1)) = g → rdVal (bs.drop pos) = match g with | .ok n r' => .ok ⟨3, 0, 0, n, empty⟩ r' | .err e => .err e) := by
    refine Lib.hid ?_
    rintro g rfl
    rw [drop_at h1]; simp only [rdVal, hc, show ¬ (2 : Nat) = 1 by omega, show ¬ (3 : Nat) = 1 by omega, show ¬ (3 : Nat) = 2 by omega, show ¬ (4 : Nat) = 1 by omega, show ¬ (4 : Nat) = 2 by omega, show ¬ (4 : Nat) = 3 by omega, if_true, if_false]
    cases rdFloat (bs.drop (pos + 1)) <;> rfl
  clear h hs hc
  go_enter Try.func36, Try.ntmps36
  go_wp2_with fail
  refine (take_ok R B b cap bs pos 1 beg _ (H.out.alloc _) hR (HS.out.alloc (by omega) _) (by omega) h2 h3).mono ?_
  rintro e w1 ⟨A, c', rfl, hc1, hc2, hsee, hwh, hgr⟩
  obtain ⟨b1, o1, rfl, hb1, hcs⟩ := hsee.2 (by omega)
  have hcell := hcs 0 (.int .u8 3) (by
    rw [drop_at h1]
    show some (Value.int .u8 ((bs[pos]).toNat : Int)) = _
    rw [HC.out]; rfl)
  rw [Nat.add_zero] at hcell
  have hres : Whole w1 w.heap.size 36 _ := (Whole.fresh w 36 _).grown hgr (not_reader HL)
  have hz : w.heap.size < w1.heap.size := by have := hgr.size; simp at this; omega
  have HW1 := Lib.hid hwh
  have HRES := Lib.hid hres
  have HG1 := Lib.hid (grow_trans (World.grownBy_alloc w _ (some R)) hgr)
  have HS1 := Lib.hid (HS.out.grow HG1.out hR (by omega))
  clear hwh hgr hcs hsee hres
  go_wp2_with fail
  cases hrd : rdFloat (bs.drop (pos + 1)) with
  | err x =>
    have HR := Lib.hid (HRD.out _ hrd)
    refine (readFloat R B b cap bs (pos + 1) beg _ (HW1.out.alloc _) hR (HS1.out.alloc (by omega) _) (by omega) h2 h3).mono ?_
    rw [hrd]
    rintro e w2 ⟨rfl, hg⟩
    have HG2 := Lib.hid (grow_trans (grow_alloc HG1.out _) hg)
    clear hg hrd
    go_wp2_with fail
    refine bodyPost_panic rfl ?_
    rw [HR.out]
    exact ⟨rfl, HG2.out⟩
  | ok n r =>
    have HR := Lib.hid (HRD.out _ hrd)
    
    refine (readFloat R B b cap bs (pos + 1) beg _ (HW1.out.alloc _) hR (HS1.out.alloc (by omega) _) (by omega) h2 h3).mono ?_
    rw [hrd]
    rintro e w2 ⟨rfl, hwh2, hg⟩
    have hloc := (Whole.fresh w1 36 _).grown hg (not_reader (by omega))
    have hres2 := (HRES.out.alloc _).grown hg (not_reader HL)
    have HG2 := Lib.hid (grow_trans (grow_alloc HG1.out _) hg)
    have HW2 := Lib.hid hwh2
    obtain ⟨⟨g0, g1, g2, g3, g4⟩, f0, f1, f2, f3, f4⟩ := five hloc
    obtain ⟨⟨r0, r1, r2, r3, r4⟩, q0, q1, q2, q3, q4⟩ := five hres2
    have hz2 : w1.heap.size < w2.heap.size := by have := hg.size; simp at this; omega
    clear hg hrd hwh2 hloc hres2
    go_wp2_with fail
    have hloc2 := fun (u : Value) (i : Nat) => grow_set HG2.out (p := ⟨w1.heap.size, i, none⟩) (by show w.heap.size ≤ w1.heap.size; omega) u
    have hR0 : R ≠ w.heap.size := by omega
    have hR1 : R ≠ w1.heap.size := by omega
    refine bodyPost_ret (v := aggV ⟨3, 0, 0, n, empty⟩) (by simp [results, Try.results36, go_sem, empty, r0, r1, r2, r3, r4, Nat.ne_of_gt hz, Nat.ne_of_lt hz]) rfl ?_
    rw [HR.out]
    refine ⟨rfl, ?_, ?_⟩
    · rw [show bs.length - r.length = bs.length - r.length from rfl]
      exact (((((HW2.out.away hR1 _).away hR0 _).away hR0 _).away hR0 _).away hR0 _).away hR0 _
    · exact grow_set (grow_set (grow_set (grow_set (grow_set (hloc2 _ _) (p := ⟨w.heap.size, 0, none⟩) (Nat.le_refl _) _) (p := ⟨w.heap.size, 1, none⟩) (Nat.le_refl _) _) (p := ⟨w.heap.size, 2, none⟩) (Nat.le_refl _) _) (p := ⟨w.heap.size, 3, none⟩) (Nat.le_refl _) _) (p := ⟨w.heap.size, 4, none⟩) (Nat.le_refl _) _

theorem readValue_4 (R B : Nat) (b : Option Addr) (cap : Nat) (bs : List UInt8) (pos : Nat) (beg : Int) (w : World) (h : Whole w R 54 #[.slice b bs.length cap, .int .i64 (pos : Int), .int .i64 beg])
    (hR : B ≤ R) (hs : Sees w B 1 b bs.length (Lib.byteCells bs)) (h1 : pos < bs.length) (h2 : bs.length ≤ cap) (h3 : cap ≤ 9223372036854775807) (hc : (bs[pos]).toNat = 4) :
    Calls Try.prog 36 #[.pointer (some ⟨R, 0, none⟩)] w (Reads (rdVal (bs.drop pos)) aggV w R (.slice b bs.length cap) bs.length beg) := by
  have H := Lib.hid h
  have HS := Lib.hid hs
  have HL := h.lt
  have HC := Lib.hid hc
  have HRD : Hid (∀ g, rdText (bs.drop (pos + 1)) = g → rdVal (bs.drop pos) = match g with | .ok n r' => .ok ⟨4, 0, 0, 0, n⟩ r' | .err e => .err e) := by
    refine Lib.hid ?_
    rintro g rfl
    rw [drop_at h1]; simp only [rdVal, hc, show ¬ (2 : Nat) = 1 by omega, show ¬ (3 : Nat) = 1 by omega, show ¬ (3 : Nat) = 2 by omega, show ¬ (4 : Nat) = 1 by omega, show ¬ (4 : Nat) = 2 by omega, show ¬ (4 : Nat) = 3 by omega, if_true, if_false]
    cases rdText (bs.drop (pos + 1)) <;> rfl
  clear h hs hc
  go_enter Try.func36, Try.ntmps36
  go_wp2_with fail
  refine (take_ok R B b cap bs pos 1 beg _ (H.out.alloc _) hR (HS.out.alloc (by omega) _) (by omega) h2 h3).mono ?_
  rintro e w1 ⟨A, c', rfl, hc1, hc2, hsee, hwh, hgr⟩
  obtain ⟨b1, o1, rfl, hb1, hcs⟩ := hsee.2 (by omega)
  have hcell := hcs 0 (.int .u8 4) (by
    rw [drop_at h1]
    show some (Value.int .u8 ((bs[pos]).toNat : Int)) = _
    rw [HC.out]; rfl)
  rw [Nat.add_zero] at hcell
  have hres : Whole w1 w.heap.size 36 _ := (Whole.fresh w 36 _).grown hgr (not_reader HL)
  have hz : w.heap.size < w1.heap.size := by have := hgr.size; simp at this; omega
  have HW1 := Lib.hid hwh
  have HRES := Lib.hid hres
  have HG1 := Lib.hid (grow_trans (World.grownBy_alloc w _ (some R)) hgr)
  have HS1 := Lib.hid (HS.out.grow HG1.out hR (by omega))
  clear hwh hgr hcs hsee hres
  go_wp2_with fail
  cases hrd : rdText (bs.drop (pos + 1)) with
  | err x =>
    have HR := Lib.hid (HRD.out _ hrd)
    refine (readText R B b cap bs (pos + 1) beg _ (HW1.out.alloc _) hR (HS1.out.alloc (by omega) _) (by omega) h2 h3).mono ?_
    rw [hrd]
    rintro e w2 ⟨rfl, hg⟩
    have HG2 := Lib.hid (grow_trans (grow_alloc HG1.out _) hg)
    clear hg hrd
    go_wp2_with fail
    refine bodyPost_panic rfl ?_
    rw [HR.out]
    exact ⟨rfl, HG2.out⟩
  | ok n r =>
    have HR := Lib.hid (HRD.out _ hrd)
    
    refine (readText R B b cap bs (pos + 1) beg _ (HW1.out.alloc _) hR (HS1.out.alloc (by omega) _) (by omega) h2 h3).mono ?_
    rw [hrd]
    rintro e w2 ⟨rfl, hwh2, hg⟩
    have hloc := (Whole.fresh w1 36 _).grown hg (not_reader (by omega))
    have hres2 := (HRES.out.alloc _).grown hg (not_reader HL)
    have HG2 := Lib.hid (grow_trans (grow_alloc HG1.out _) hg)
    have HW2 := Lib.hid hwh2
    obtain ⟨⟨g0, g1, g2, g3, g4⟩, f0, f1, f2, f3, f4⟩ := five hloc
    obtain ⟨⟨r0, r1, r2, r3, r4⟩, q0, q1, q2, q3, q4⟩ := five hres2
    have hz2 : w1.heap.size < w2.heap.size := by have := hg.size; simp at this; omega
    clear hg hrd hwh2 hloc hres2
    go_wp2_with fail
    have hloc2 := fun (u : Value) (i : Nat) => grow_set HG2.out (p := ⟨w1.heap.size, i, none⟩) (by show w.heap.size ≤ w1.heap.size; omega) u
    have hR0 : R ≠ w.heap.size := by omega
    have hR1 : R ≠ w1.heap.size := by omega
    refine bodyPost_ret (v := aggV ⟨4, 0, 0, 0, n⟩) (by simp [results, Try.results36, go_sem, empty, r0, r1, r2, r3, r4, Nat.ne_of_gt hz, Nat.ne_of_lt hz]) rfl ?_
    rw [HR.out]
    refine ⟨rfl, ?_, ?_⟩
    · rw [show bs.length - r.length = bs.length - r.length from rfl]
      exact (((((HW2.out.away hR1 _).away hR0 _).away hR0 _).away hR0 _).away hR0 _).away hR0 _
    · exact grow_set (grow_set (grow_set (grow_set (grow_set (hloc2 _ _) (p := ⟨w.heap.size, 0, none⟩) (Nat.le_refl _) _) (p := ⟨w.heap.size, 1, none⟩) (Nat.le_refl _) _) (p := ⟨w.heap.size, 2, none⟩) (Nat.le_refl _) _) (p := ⟨w.heap.size, 3, none⟩) (Nat.le_refl _) _) (p := ⟨w.heap.size, 4, none⟩) (Nat.le_refl _) _

theorem readValue_no (R B : Nat) (b : Option Addr) (cap : Nat) (bs : List UInt8) (pos : Nat) (beg : Int) (w : World) (h : Whole w R 54 #[.slice b bs.length cap, .int .i64 (pos : Int), .int .i64 beg])
    (hR : B ≤ R) (hs : Sees w B 1 b bs.length (Lib.byteCells bs)) (h1 : pos < bs.length) (h2 : bs.length ≤ cap) (h3 : cap ≤ 9223372036854775807)
    (hc : (bs[pos]).toNat ≠ 1 ∧ (bs[pos]).toNat ≠ 2 ∧ (bs[pos]).toNat ≠ 3 ∧ (bs[pos]).toNat ≠ 4) :
    Calls Try.prog 36 #[.pointer (some ⟨R, 0, none⟩)] w (Reads (rdVal (bs.drop pos)) aggV w R (.slice b bs.length cap) bs.length beg) := by
  have H := Lib.hid h
  have HS := Lib.hid hs
  have HL := h.lt
  have HR : Hid (rdVal (bs.drop pos) = .err 21) := by
    refine Lib.hid ?_
    rw [drop_at h1]; simp only [rdVal]
    rw [if_neg hc.1, if_neg hc.2.1, if_neg hc.2.2.1, if_neg hc.2.2.2]
  obtain ⟨ci, hci⟩ : ∃ ci, ci = (bs[pos]).toNat := ⟨_, rfl⟩
  rw [← hci] at hc
  have hcl : ci < 256 := by rw [hci]; exact (bs[pos]).toNat_lt
  have k1 : ((ci : Int) == 1) = false := by simpa using (by omega : ¬ (ci : Int) = 1)
  have k2 : ((ci : Int) == 2) = false := by simpa using (by omega : ¬ (ci : Int) = 2)
  have k3 : ((ci : Int) == 3) = false := by simpa using (by omega : ¬ (ci : Int) = 3)
  have k4 : ((ci : Int) == 4) = false := by simpa using (by omega : ¬ (ci : Int) = 4)
  have HC := Lib.hid hci
  clear h hs hc hci
  go_enter Try.func36, Try.ntmps36
  go_wp2_with fail
  refine (take_ok R B b cap bs pos 1 beg _ (H.out.alloc _) hR (HS.out.alloc (by omega) _) (by omega) h2 h3).mono ?_
  rintro e w1 ⟨A, c', rfl, hc1, hc2, hsee, hwh, hgr⟩
  obtain ⟨b1, o1, rfl, hb1, hcs⟩ := hsee.2 (by omega)
  have hcell := hcs 0 (.int .u8 (ci : Int)) (by
    rw [drop_at h1]
    show some (Value.int .u8 ((bs[pos]).toNat : Int)) = _
    rw [HC.out])
  rw [Nat.add_zero] at hcell
  have HW1 := Lib.hid (hwh.alloc (.cells #[.int .i64 (ci : Int), .int .u64 0, .int .i64 0, .float .f64 0, .string ⟨#[]⟩] 36))
  have HG1 := Lib.hid (grow_trans (World.grownBy_alloc w _ (some R)) hgr)
  clear hwh hgr hcs hsee
  go_wp2_with fail
  refine (fail_any R _ _ beg 21 _ HW1.out).mono ?_
  rintro e w2 ⟨rfl, rfl⟩
  go_wp2_with fail
  refine bodyPost_panic rfl ?_
  rw [HR.out]
  exact ⟨rfl, grow_alloc HG1.out _⟩

theorem readValue (R B : Nat) (b : Option Addr) (cap : Nat) (bs : List UInt8) (pos : Nat) (beg : Int) (w : World) (h : Whole w R 54 #[.slice b bs.length cap, .int .i64 (pos : Int), .int .i64 beg])
    (hR : B ≤ R) (hs : Sees w B 1 b bs.length (Lib.byteCells bs)) (h1 : pos < bs.length) (h2 : bs.length ≤ cap) (h3 : cap ≤ 9223372036854775807) :
    Calls Try.prog 36 #[.pointer (some ⟨R, 0, none⟩)] w (Reads (rdVal (bs.drop pos)) aggV w R (.slice b bs.length cap) bs.length beg) := by
  by_cases c1 : (bs[pos]).toNat = 1
  · exact readValue_1 R B b cap bs pos beg w h hR hs h1 h2 h3 c1
  · by_cases c2 : (bs[pos]).toNat = 2
    · exact readValue_2 R B b cap bs pos beg w h hR hs h1 h2 h3 c2
    · by_cases c3 : (bs[pos]).toNat = 3
      · exact readValue_3 R B b cap bs pos beg w h hR hs h1 h2 h3 c3
      · by_cases c4 : (bs[pos]).toNat = 4
        · exact readValue_4 R B b cap bs pos beg w h hR hs h1 h2 h3 c4
        · exact readValue_no R B b cap bs pos beg w h hR hs h1 h2 h3 ⟨c1, c2, c3, c4⟩
end Go.Proofs.Ytmaeacklloaeaaa
