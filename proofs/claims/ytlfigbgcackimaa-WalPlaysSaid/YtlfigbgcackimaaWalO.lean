/- Contract of the program's Open at layer 8. -/
import Derived.Test.YtlfigbgcackimaaWalA
namespace Go.Wl
open Go.Dk Go.Fm
set_option linter.unusedVariables false
theorem opens_settle (d : D) (log : Int) (h : d.check log = 0) : opens d log = d.settle log (d.of log).all (scan (d.of log).all).2 := by
  have hle := scan_le (d.of log).all
  unfold opens D.settle
  rw [if_neg (by simp [h])]
  split
  · rfl
  · rename_i hn
    have e : (scan (d.of log).all).2 = (d.of log).all.length := by omega
    rw [e]
theorem opens_check (d : D) (log : Int) (h : d.check log ≠ 0) : opens d log = (d, d.check log) := by unfold opens; rw [if_pos h]
end Go.Wl
namespace Go.Proofs.Ytlfigbgcackimaa
open Go.RowKit Go.Fm Go.Dk Go.Wl
set_option linter.unusedVariables false
set_option linter.unusedSimpArgs false
set_option maxRecDepth 100000

/-- Loads that have been told: a row of slices, and the bytes that they show; all of them in blocks R. -/
structure Told (R : List Row) (h : Nat) (ls : List (List UInt8)) : Prop where
  shows : ∀ w2, Knows w2 R → ShowsL w2 w2.heap.size (some ⟨h, 0, none⟩) ls
  nil : ∀ w2, Knows w2 R → ∀ (b off k : Nat) l a c, (some ⟨h, 0, none⟩ : Option Addr) = some ⟨b, off, none⟩ → ls[k]? = some l → w2.cell? ⟨b, off + k, none⟩ = some (.slice a l.length c) → a = none → c = 0
theorem Knows.more {w : World} {L : List Row} (h : Knows w L) {r : Row} (hr : Whole w r.1 r.2.1 r.2.2) : Knows w (r :: L) := fun x hx => by
  rcases List.mem_cons.1 hx with rfl | hx
  · exact hr
  · exact h x hx
theorem ScanAt.told {w w' : World} {ls : List (List UInt8)} {h g : Nat} {cs : Array Value} {v : Value} (s : ScanAt w w' ls h g cs v) (hl : (frames ls).length ≤ 9223372036854775807) :
    ∃ R, Knows w' R ∧ (∀ r ∈ R, w.heap.size ≤ r.1) ∧ Told R h ls := by
  have key : ∀ R : List Row, (h, 52, cs) ∈ R → (∀ w2, Knows w2 R → OwnB w2 w.heap.size v (frames ls)) → Told R h ls := fun R hR ho => by
    have at_ : ∀ w2, Knows w2 R → ∀ k l, ls[k]? = some l → w2.cell? ⟨h, 0 + k, none⟩ = some (Value.slice (tailA g (frames (ls.take k)).length (8 + l.length)) l.length l.length) := fun w2 hk k l hkl => by
      rw [Nat.zero_add, (hk _ hR).cell k]; exact s.at_ k l hkl
    refine ⟨fun w2 hk h0 => ⟨h, 0, rfl, (hk _ hR).lt, fun k l hkl => ⟨_, _, at_ w2 hk k l hkl, Nat.le_refl _, ?_, ?_⟩⟩, fun w2 hk b off k l a c he hkl hc hn => ?_⟩
    · have h1 := frames_upto ls (k + 1)
      rw [frames_take ls k l hkl, List.length_append, frame_length] at h1
      omega
    · obtain ⟨c, hv⟩ := s.form h0
      have := ho w2 hk
      rw [hv] at this
      exact load_sees this rfl k l hkl
    · injection he with he
      injection he with e1 e2
      subst e1 e2
      rw [at_ w2 hk k l hkl] at hc
      injection hc with hc
      injection hc with e3 e4 e5
      rw [hn] at e3
      unfold tailA at e3
      split at e3 <;> cases e3
  rcases s.own.2 with ⟨hv, h0⟩ | ⟨b, cap, cur, rfl, hB, hh, h2, h3, h4, h5⟩
  · refine ⟨[(h, 52, cs)], fun r hr => by rw [List.mem_singleton.1 hr]; exact s.row, fun r hr => by rw [List.mem_singleton.1 hr]; exact s.new, key _ (List.mem_singleton.2 rfl) fun w2 hk => ?_⟩
    exact ⟨s.own.1, .inl ⟨hv, h0⟩⟩
  · refine ⟨[(h, 52, cs), (b, 5, cur)], fun r hr => ?_, fun r hr => ?_, key _ (List.mem_cons_self ..) fun w2 hk => ⟨s.own.1, .inr ⟨b, cap, cur, rfl, hB, hk (b, 5, cur) (by simp), h2, h3, h4, h5⟩⟩⟩
    · rcases List.mem_cons.1 hr with rfl | hr
      · exact s.row
      · rw [List.mem_singleton.1 hr]; exact hh
    · rcases List.mem_cons.1 hr with rfl | hr
      · exact s.new
      · rw [List.mem_singleton.1 hr]; exact hB

/-- What Open tells of a disk d whose log has power, and in which nothing errs. -/
structure Opened (F : Nat → Prop) (w w' : World) (g p h : Nat) (d : D) (log : Int) (R : List Row) (ls : List (List UInt8)) : Prop where
  off : Off F w w'
  wal : ∃ F', (∀ b, F' b → F b ∨ w.heap.size ≤ b) ∧ Wx w' p g ⟨ls.length, ls.length, log, false⟩ d F' ∧ ∀ r ∈ R, ¬ F' r.1
  new : w.heap.size ≤ p
  knows : Knows w' R
  far : ∀ r ∈ R, w.heap.size ≤ r.1 ∧ r.1 ≠ p
  told : Told R h ls

theorem scan_nil_any (w : World) :
    Calls Try.prog 44 #[.slice none 0 0] w (Scans w []) := by
  obtain ⟨i0, hi, hz0, hz1, hz2⟩ := info_parts info_sl
  have HF := Lib.hid (fsize_any 0 none 0 [] w (Sees.nothing _ _ _ _) (by simp) (by omega))
  unfold Sized at HF
  rw [opened_short (show ([] : List UInt8).length < 8 by simp)] at HF
  have HMK := Lib.hid (fun w0 => run_make (P := Try.prog) w0 53 52 i0 (.slice none 0 0) Try.underlying53 hi hz0 .i64 .i64 0 0 (by omega) (by omega) (by rw [hz2]; omega) (by omega))
  go_enter Try.func44, Try.ntmps44
  go_wp2_with fail
  go_loopw [4, 5] (fun v i wr => i = .int .i64 0 ∧ v = .slice none 0 0 ∧ wr = w) (fun _ i _ => 0)
  case atStart => exact ⟨rfl, rfl, rfl⟩
  case round =>
    obtain ⟨rfl, rfl, rfl⟩ := hrel
    go_wp2_with fail
    refine HF.out.mono ?_
    rintro e w1 ⟨rfl, hb1⟩
    have HB1 := Lib.hid hb1
    clear hb1
    go_wp2_with fail
    refine (clone_any 0 none 0 [] w1 (Sees.nothing _ _ _ _) (by omega) (by simp) (by omega) (fun _ => rfl) (by simp)).mono ?_
    rintro e w2 ⟨v2, rfl, ho2, hb2⟩
    have HB2 := Lib.hid (HB1.out.trans (hb2.mono HB1.out.size))
    have HO2 := Lib.hid (ho2.less HB1.out.size)
    have hmk := HMK.out w2
    simp only [Int.toNat_zero, Nat.zero_mul] at hmk
    have hsz0 := size_madeCells (Value.slice none 0 0).cells 0
    generalize madeCells (Value.slice none 0 0).cells 0 = cs0 at *
    clear ho2 hb2 HF HMK
    go_wp2_with fail
    go_loopw [10, 38] (fun b i w4 => i = .int .i64 0 ∧ w4 = w2.alloc (.cells cs0 52)) (fun _ i _ => 0)
    case atStart => exact ⟨rfl, rfl⟩
    case round =>
      obtain ⟨rfl, rfl⟩ := hrel
      go_wp2_with fail
      go_ret2
      refine ⟨w2.heap.size, w2.heap.size + 1, cs0, v2, ?_, ?_⟩
      · rw [scan_nil]; rfl
      · rw [scan_nil]
        exact ⟨HB2.out.size, Whole.fresh w2 _ _, hsz0, (fun k l hk => by simp at hk), HO2.out.keep ((Below.refl w2.heap.size w2).alloc (Nat.le_refl _) _) (Nat.le_refl _), (fun h => by simp at h), by omega, HB2.out.alloc HB2.out.size _⟩

set_option maxHeartbeats 2000000 in
theorem scan_whole_any (B : Nat) (A : Option Addr) (cap : Nat) (bs : List UInt8) (w : World) (ho : OwnB w B (.slice A bs.length cap) bs) (hl : bs.length ≤ 4194304) :
    Calls Try.prog 44 #[.slice A bs.length cap] w (Scans w bs) := by
  rcases ho.2 with ⟨hv, h0⟩ | ⟨b, cap', cur, hv, hB, hh, h2, h3, h4, h5⟩
  · obtain rfl : bs = [] := List.eq_nil_of_length_eq_zero h0
    simp only [Value.slice.injEq] at hv
    obtain ⟨rfl, -, rfl⟩ := hv
    exact scan_nil_any w
  · simp only [Value.slice.injEq, true_and] at hv
    obtain ⟨rfl, rfl⟩ := hv
    exact scan_any w.heap.size b 0 cap bs w (ho.sees rfl) (Array.getElem?_eq_some_iff.1 hh).1 (Nat.le_refl _) h2 (by unfold maxLen at h3; omega) hl

set_option maxHeartbeats 2000000 in
theorem open_no (log : Int) (w : World) :
    Calls Try.prog 24 #[.pointer none, .int .i64 log] w fun e w' => e = .returned (.tuple #[.pointer none, .slice none 0 0, .int .i64 80]) ∧ w' = w := by
  go_enter Try.func24, Try.ntmps24
  go_wp2_with fail
  go_ret3
  exact ⟨rfl, rfl⟩
set_option maxHeartbeats 2000000 in
theorem open_any (g : Nat) (d : D) (F : Nat → Prop) (log : Int) (hlog : W64 log) (hacts : d.acts + 1 ≤ 9223372036854775807) (w : World) (x : Dsk w g d F) :
    Calls Try.prog 24 #[ptr g, .int .i64 log] w fun e w' =>
      ((opens d log).2 ≠ 0 → e = .returned (.tuple #[.pointer none, .slice none 0 0, .int .i64 (opens d log).2]) ∧ Moved F w w' g (opens d log).1) ∧
      ((opens d log).2 = 0 → ∃ p h R, e = .returned (.tuple #[ptr p, .slice (some ⟨h, 0, none⟩) (scan (d.of log).all).1.length (scan (d.of log).all).1.length, .int .i64 0]) ∧ Opened F w w' g p h (opens d log).1 log R (scan (d.of log).all).1) := by
  have HX := Lib.hid x
  have HRD := Lib.hid (read_any g d F log hlog w x)
  by_cases h0 : d.check log = 0
  case neg =>
    have HR : Hid (opens d log = (d, d.check log)) := Lib.hid (opens_check d log h0)
    have q9 : (d.check log != 0) = true := by simpa using h0
    have HN := Lib.hid h0
    clear x h0
    generalize d.check log = E at *
    generalize d.read log = rd at *
    go_enter Try.func24, Try.ntmps24
    go_wp2_with fail
    refine HRD.out.mono ?_
    rintro e w1 ⟨v1, rfl, ho, hb⟩
    have HB := Lib.hid hb
    clear ho hb HRD
    go_wp2_with fail
    go_ret3
    rw [HR.out]
    exact ⟨fun _ => ⟨rfl, .of HB.out F, F, fun b hb => .inl hb, HX.out.call HB.out⟩, fun h => absurd h HN.out⟩
  case pos =>
    have hrd : d.read log = (d.of log).all := by unfold D.read; rw [if_pos h0]
    have hok : (d.of log).all.length ≤ 4194304 := by obtain ⟨a, b, c, y⟩ := x; exact (okay_of y.ok log).2
    have HSC : Hid (∀ w1 A cap, OwnB w1 w.heap.size (.slice A (d.of log).all.length cap) (d.of log).all → Calls Try.prog 44 #[.slice A (d.of log).all.length cap] w1 (Scans w1 (d.of log).all)) := Lib.hid fun w1 A cap ho => scan_whole_any _ A cap _ w1 ho hok
    have HSE : Hid (∀ w1 A cap, Below w.heap.size w w1 → InB w1 A cap (d.of log).all → Calls Try.prog 45 #[ptr g, .int .i64 log, .slice A (d.of log).all.length cap, .int .i64 (scan (d.of log).all).2] w1 fun e w' => e = .returned (.int .i64 (opens d log).2) ∧ Moved F w1 w' g (opens d log).1) := Lib.hid fun w1 A cap hb hin => by
      rw [opens_settle d log h0]
      exact settle_any g d F log hlog A cap _ _ (scan_le _) hacts w1 (HX.out.call hb) hin
    have HFL : Hid ((frames (scan (d.of log).all).1).length ≤ 9223372036854775807) := Lib.hid (by
      rw [← scan_take, List.length_take]
      omega)
    have hz : (scan (d.of log).all).1.length ≤ 4194304 := by
      have h := frames_many (scan (d.of log).all).1
      rw [← scan_take, List.length_take] at h
      omega
    rw [h0, hrd] at HRD
    clear x h0 hrd
    unfold Scans at HSC
    generalize opens d log = R at *
    generalize (scan (d.of log).all).1 = ls at *
    generalize (scan (d.of log).all).2 = size at *
    generalize (d.of log).all = bs at *
    go_enter Try.func24, Try.ntmps24
    go_wp2_with fail
    refine HRD.out.mono ?_
    rintro e w1 ⟨v1, rfl, ho, hb⟩
    obtain ⟨A, cap, rfl, h1, h2, h3⟩ := own_slice0 ho
    have HB := Lib.hid hb
    have HO := Lib.hid ho
    have HSC1 := Lib.hid (HSC.out w1 A cap ho)
    clear ho hb HRD HSC
    go_wp2_with fail
    refine HSC1.out.mono ?_
    rintro e w2 ⟨h, g2, cs, v2, rfl, hsc⟩
    have HA := Lib.hid hsc
    have HB2 := Lib.hid (HB.out.trans (hsc.below.mono HB.out.size))
    have HO2 := Lib.hid (HO.out.keep hsc.below (Nat.le_refl _))
    have HSE2 := Lib.hid (HSE.out w2 A cap HB2.out ⟨⟨_, Nat.le_refl _, HO2.out.sees rfl⟩, h1, h2, h3⟩)
    clear hsc HSC1 HSE h3
    go_wp2_with fail
    refine HSE2.out.mono ?_
    rintro e w3 ⟨rfl, hm⟩
    have HM := Lib.hid hm
    clear hm HSE2
    by_cases hE : R.2 = 0
    · obtain ⟨Q, hk, hfar, htold⟩ := HA.out.told HFL.out
      have HK := Lib.hid hk
      have HFAR := Lib.hid hfar
      have HT := Lib.hid htold
      have HEE := Lib.hid hE
      rw [hE]
      clear hE hk hfar htold
      go_wp2_with fail
      refine (allSure_any ls.length w3).mono ?_
      rintro e w4 ⟨rfl, hb4⟩
      have HB4 := Lib.hid hb4
      clear hb4
      go_wp2_with fail
      go_ret3
      refine ⟨fun h => absurd HEE.out h, fun _ => ⟨w4.heap.size, h, Q, by first | rfl | (rw [HEE.out]; rfl), ?_⟩⟩
      obtain ⟨ho, F', hF, hd⟩ := HM.out
      have hz2 := HB2.out.size
      have hs3 := ho.size
      have hs4 := HB4.out.size
      have ho2 : Off F w w4 := ((Off.of HB2.out F).trans ho).call HB4.out
      have hfr : ∀ r ∈ Q, ¬ F' r.1 := fun r hr hf => by
        have h1 := HFAR.out r hr
        have h2 := (HK.out r hr).lt
        have h3 := HB.out.size
        rcases hF _ hf with h | h
        · have := HX.out.low h; omega
        · omega
      refine ⟨ho2.alloc _, ⟨F', fun b hb => ?_, ⟨Whole.fresh w4 _ _, (hd.call HB4.out).call ((Below.refl _ _).alloc (Nat.le_refl _) _), fun hf => ?_⟩, hfr⟩, by omega, fun r hr => ?_, fun r hr => ⟨Nat.le_trans HB.out.size (HFAR.out r hr), ?_⟩, HT.out⟩
      · rcases hF b hb with h | h
        · exact .inl h
        · exact .inr (by omega)
      · have := hd.low hf
        omega
      · have h1 := (HK.out r hr).lt
        have hnf : ¬ F r.1 := fun hf => by
          have := HX.out.low hf
          have := HFAR.out r hr
          have := HB.out.size
          omega
        exact (((ho.whole (HK.out r hr) hnf).below HB4.out (by omega))).alloc _
      · have h1 := (HK.out r hr).lt
        omega
    · have q9 : (R.2 != 0) = true := by simpa using hE
      have HN := Lib.hid hE
      clear hE
      go_wp2_with fail
      go_ret3
      exact ⟨fun _ => ⟨rfl, HM.out.before HB2.out⟩, fun h => absurd h HN.out⟩
end Go.Proofs.Ytlfigbgcackimaa
