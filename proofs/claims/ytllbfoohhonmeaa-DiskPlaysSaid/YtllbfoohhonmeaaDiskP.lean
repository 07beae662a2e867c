/- few, awake, made at layer 7. -/
import Derived.Test.YtllbfoohhonmeaaDiskO
namespace Go.Proofs.Ytllbfoohhonmeaa
open Go.RowKit Go.Dk
set_option linter.unusedVariables false
set_option linter.unusedSimpArgs false
set_option maxRecDepth 100000

theorem ret_act (v : Ac) : Value.agg #[.int .i64 v.kind, .int .i64 v.log, .int .i64 v.n, .string (txt v.s), .slice v.A v.keep.length v.cap] = .agg (encA v).toArray := rfl
set_option maxHeartbeats 1000000 in
theorem few_any (v : Ac) (hc : v.keep.length ≤ v.cap) (ht : v.cap ≤ 9223372036854775807) (hs : v.s.length ≤ 9223372036854775807) (w : World) :
    Calls Try.prog 13 #[.agg (encA v).toArray] w fun e w' => e = .returned (.agg (encA v.few).toArray) ∧ Below w.heap.size w w' := by
  obtain ⟨kind, log, n, s, A, cap, keep⟩ := v
  simp only at hc ht hs
  have HR : Hid ((encA (Ac.few ⟨kind, log, n, s, A, cap, keep⟩)).toArray = #[.int .i64 kind, .int .i64 log, .int .i64 n, .string (txt (s.take 2000)), .slice A (keep.take 20).length cap]) := Lib.hid rfl
  show Calls Try.prog 13 #[.agg #[.int .i64 kind, .int .i64 log, .int .i64 n, .string (txt s), .slice A keep.length cap]] w _
  rw [HR.out]
  have hsz : (txt s).size = s.length := txt_size s
  have HS1 : Hid (2000 < s.length → (txt s).extract 0 2000 = txt (s.take 2000)) := Lib.hid fun _ => by
    unfold txt
    apply ByteArray.ext
    simp
  have HS2 : Hid (¬ 2000 < s.length → txt s = txt (s.take 2000)) := Lib.hid fun h => by rw [List.take_of_length_le (by omega)]
  have HK1 : Hid (20 < keep.length → (keep.take 20).length = 20) := Lib.hid fun h => by rw [List.length_take]; omega
  have HK2 : Hid (¬ 20 < keep.length → (keep.take 20).length = keep.length) := Lib.hid fun h => by rw [List.length_take]; omega
  clear HR
  generalize txt s = S at *
  generalize txt (s.take 2000) = S' at *
  generalize s.length = m at *
  generalize (keep.take 20).length = k' at *
  generalize keep.length = k at *
  have key : (2000 < m ∨ ¬ 2000 < m) ∧ (20 < k ∨ ¬ 20 < k) := by omega
  rcases key with ⟨h1 | h1, h2 | h2⟩
  all_goals
    try have e1 := HS1.out h1
    try have e1 := HS2.out h1
    try have e2 := HK1.out h2
    try have e2 := HK2.out h2
    have g1 : (2000 : Int) < m ↔ 2000 < m := by omega
    have g2 : (20 : Int) < k ↔ 20 < k := by omega
    simp only [h1, h2, iff_true, iff_false] at g1 g2
    have HE1 := Lib.hid e1
    have HE2 := Lib.hid e2
    clear HS1 HS2 HK1 HK2 e1 e2
    go_enter Try.func13, Try.ntmps13
    go_wp2_with fail
    refine bodyPost_ret (by simp [results, Try.results13, go_sem]; try rfl) rfl ?_
    rw [HE2.out, ← HE1.out]
    refine ⟨rfl, ?_⟩
    have hb := Below.refl w.heap.size w
    go_grown

theorem inB_mark (w : World) (bs : List UInt8) (fr : Nat × Nat) (h : bs.length ≤ 9223372036854775807) : InB (w.alloc (.cells (Lib.byteCells bs).toArray 5 fr)) (some ⟨w.heap.size, 0, none⟩) bs.length bs :=
  ⟨⟨w.heap.size + 1, by simp, seesB_mark w 5 bs fr⟩, Nat.le_refl _, h, fun h => by cases h⟩
theorem Lw.other {W w : World} {L : List Row} {g : Nat} {d : D} (h : Lw W w L g d) (o : Obj) : Lw W (w.alloc o) L g d := h.call ((Below.refl _ _).alloc (Nat.le_refl _) o)
theorem Lw.knows {W w : World} {L : List Row} {g : Nat} {d : D} (h : Lw W w L g d) : Knows w L := h.st.knows
/-- Bytes of the call's own that have just come: as blocks that are known. -/
theorem Lw.own1 {W w w' : World} {L : List Row} {g : Nat} {d : D} {v : Value} {bs : List UInt8} (h : Lw W w L g d) (hb : Below w.heap.size w w') (ho : OwnB w' w.heap.size v bs) :
    ∃ A cap R, v = .slice A bs.length cap ∧ (A = none → cap = 0) ∧ cap ≤ 9223372036854775807 ∧ Lw W w' (R ++ L) g d ∧ (∀ w2, Knows w2 R → OwnB w2 0 (.slice A bs.length cap) bs) ∧ ∀ r ∈ R, w.heap.size ≤ r.1 := by
  have h1 := h.call hb
  rcases ho.2 with ⟨rfl, h0⟩ | ⟨b, cap, cur, rfl, hB, hh, h2, h3, h4, h5⟩
  · obtain rfl : bs = [] := List.eq_nil_of_length_eq_zero h0
    exact ⟨none, 0, [], rfl, fun _ => rfl, by omega, h1, (fun w2 _ => OwnB.none_ _ _), fun r hr => by cases hr⟩
  · refine ⟨some ⟨b, 0, none⟩, cap, [(b, 5, cur)], rfl, (fun h => by cases h), h3, ?_, (fun w2 hk => ⟨ho.1, .inr ⟨b, cap, cur, rfl, Nat.zero_le _, hk _ (List.mem_singleton.2 rfl), h2, h3, h4, h5⟩⟩), fun r hr => by rw [List.mem_singleton.1 hr]; exact hB⟩
    obtain ⟨F, x, f1, f2⟩ := h.dsk
    refine ⟨⟨h1.st.below, fun r hr => ?_⟩, F, x.call hb, f1, fun r hr hf => ?_⟩
    · rcases List.mem_cons.1 hr with rfl | hr
      · exact hh
      · exact h1.st.knows r hr
    · rcases List.mem_cons.1 hr with rfl | hr
      · have := x.low hf
        simp only at this
        omega
      · exact f2 r hr hf
theorem Lw.own {W w w' : World} {L : List Row} {g : Nat} {d : D} {v : Value} {bs : List UInt8} (h : Lw W w L g d) (hb : Below w.heap.size w w') (ho : OwnB w' w.heap.size v bs) :
    ∃ A cap R, v = .slice A bs.length cap ∧ (A = none → cap = 0) ∧ cap ≤ 9223372036854775807 ∧ Lw W w' (R ++ L) g d ∧ ∀ w2, Knows w2 R → OwnB w2 0 (.slice A bs.length cap) bs := by
  obtain ⟨A, cap, R, h1, h2, h3, h4, h5, -⟩ := h.own1 hb ho
  exact ⟨A, cap, R, h1, h2, h3, h4, h5⟩
theorem inI_known {W w : World} {L : List Row} {g : Nat} {d : D} (h : Lw W w L g d) {b : Nat} {l : List Int} {fr : Unit} (hr : (b, 3, (ints l).toArray) ∈ L) (hl : l.length ≤ 9223372036854775807) (hw : ∀ n ∈ l, W64 n) : InI W w L (some ⟨b, 0, none⟩) l.length l :=
  ⟨⟨b + 1, (h.knows _ hr).lt, by rw [ints_length, Nat.mul_one], fun _ => ⟨b, 0, rfl, by omega, fun j u hu => by rw [Nat.zero_add, (h.knows _ hr).cell j]; simpa using hu⟩⟩, fun _ a ha => .inr ⟨_, hr, by injection ha with ha; subst ha; rfl⟩, hw, hl⟩
theorem inI_nil (W w : World) (L : List Row) (cap : Nat) : InI W w L none cap [] := ⟨⟨0, Nat.zero_le _, Sees.nothing _ _ _ _⟩, (fun _ a h => by cases h), (fun n h => by cases h), by simp⟩

def aw0 : D := D.new 2
def aw1 : D := (aw0.append 0 [97, 98]).1
def aw2 : D := (aw1.sync 0).1
def aw3 : D := (aw2.append 0 [99, 100, 101]).1
def aw4 : D := aw3.crash [2]
def aw5 : D := aw4.up
def aw6 : D := aw5.arm 2 []
def aw7 : D := (aw6.append 1 [120]).1
def aw8 : D := (aw7.sync 1).1
def aw9 : D := aw8.up
theorem aw_facts : (aw0.append 0 [97, 98]).2 = 0 ∧ (aw1.sync 0).2 = 0 ∧ (aw2.append 0 [99, 100, 101]).2 = 0 ∧ aw4.down = true ∧ aw5.check 0 = 0 ∧ aw5.read 0 = [97, 98, 99, 100] ∧ (aw6.append 1 [120]).2 = 0 ∧ (aw7.sync 1).2 = 71 ∧ aw9.check 1 = 0 ∧ aw9.read 1 = [] ∧ (aw9.of 0).sure = 4 ∧ aw9.acts = 4 ∧
    aw0.acts = 0 ∧ aw1.acts = 1 ∧ aw2.acts = 2 ∧ aw6.acts = 3 ∧ aw7.acts = 4 := by decide +kernel
set_option maxHeartbeats 4000000 in
theorem awake_any (w : World) : Calls Try.prog 11 #[] w fun e w' => e = .returned (.bool true) ∧ Below w.heap.size w w' := by
  obtain ⟨q0, q1, q2, q3, q4, q5, q6, q7, q8, q9, q10, q11, p0, p1, p2, p6, p7⟩ := aw_facts
  have Q0 := Lib.hid q0
  have Q1 := Lib.hid q1
  have Q2 := Lib.hid q2
  have Q3 := Lib.hid q3
  have Q4 := Lib.hid q4
  have Q5 := Lib.hid q5
  have Q6 := Lib.hid q6
  have Q7 := Lib.hid q7
  have Q8 := Lib.hid q8
  have Q9 := Lib.hid q9
  have Q10 := Lib.hid q10
  have Q11 := Lib.hid q11
  have P0 := Lib.hid p0
  have P1 := Lib.hid p1
  have P2 := Lib.hid p2
  have P6 := Lib.hid p6
  have P7 := Lib.hid p7
  clear q0 q1 q2 q3 q4 q5 q6 q7 q8 q9 q10 q11 p0 p1 p2 p6 p7
  have kc := fun (w : World) (C : Array Value) (n c : Nat) => Lib.run_convert_bytes_const (P := Try.prog) w 41 5 C n c Try.underlying41 Try.underlying5
  go_enter Try.func11, Try.ntmps11
  go_wp2_with fail
  refine (new_lw (St.start w) 2 (by omega) (by omega)).mono ?_
  rintro e w1 ⟨g, rfl, hl⟩
  have H : Hid (Lw w w1 [] g aw0) := Lib.hid hl
  clear hl
  go_wp2_with fail
  refine ((H.out.other _).append (w64 0 (by omega)) (by decide) (by rw [P0.out]; omega) (inB_mark w1 [97, 98] (2, 3) (by decide))).mono ?_
  rintro e w2 ⟨rfl, hl⟩
  rw [Q0.out]
  replace H : Hid (Lw w w2 [] g aw1) := Lib.hid hl
  clear hl
  go_wp2_with fail
  refine (H.out.sync (w64 0 (by omega)) (by rw [P1.out]; omega)).mono ?_
  rintro e w3 ⟨rfl, hl⟩
  rw [Q1.out]
  replace H : Hid (Lw w w3 [] g aw2) := Lib.hid hl
  clear hl
  go_wp2_with fail
  refine ((H.out.other _).append (w64 0 (by omega)) (by decide) (by rw [P2.out]; omega) (inB_mark w3 [99, 100, 101] (3, 4) (by decide))).mono ?_
  rintro e w4 ⟨rfl, hl⟩
  rw [Q2.out]
  replace H : Hid (Lw w w4 [] g aw3) := Lib.hid hl
  clear hl
  go_wp2_with fail
  have hk := H.out.alloc w4.heap.size rfl 3 #[.int .i64 2]
  refine (hk.crash (inI_known (fr := ()) hk (l := [2]) (List.mem_singleton.2 rfl) (by decide) (fun n hn => by rw [List.mem_singleton.1 hn]; exact w64 2 (by omega)))).mono ?_
  rintro e w5 ⟨rfl, hl⟩
  clear hk
  replace H : Hid (Lw w w5 [] g aw4) := Lib.hid (hl.few (fun r hr => by cases hr))
  clear hl
  go_wp2_with fail
  refine H.out.down.mono ?_
  rintro e x ⟨rfl, ex⟩
  subst x
  rw [Q3.out]
  go_wp2_with fail
  refine H.out.up.mono ?_
  rintro e w6 ⟨rfl, hl⟩
  replace H : Hid (Lw w w6 [] g aw5) := Lib.hid hl
  clear hl
  go_wp2_with fail
  refine (H.out.read (w64 0 (by omega))).mono ?_
  rintro e w7 ⟨v, rfl, ho, hb⟩
  rw [Q4.out]
  rw [Q5.out] at ho
  obtain ⟨A, cap, R, rfl, hA, hcap, hl, hown⟩ := H.out.own hb ho
  have HN := Lib.hid hown
  replace H : Hid (Lw w w7 R g aw5) := Lib.hid (by simpa using hl)
  clear hl ho hb hown
  go_wp2_with fail
  refine (H.out.arm (w64 2 (by omega)) (inI_nil _ _ _ _)).mono ?_
  rintro e w8 ⟨rfl, hl⟩
  replace H : Hid (Lw w w8 R g aw6) := Lib.hid hl
  clear hl
  go_wp2_with fail
  refine ((H.out.other _).append (w64 1 (by omega)) (by decide) (by rw [P6.out]; omega) (inB_mark w8 [120] (1, 2) (by decide))).mono ?_
  rintro e w9 ⟨rfl, hl⟩
  rw [Q6.out]
  replace H : Hid (Lw w w9 R g aw7) := Lib.hid hl
  clear hl
  go_wp2_with fail
  refine (H.out.sync (w64 1 (by omega)) (by rw [P7.out]; omega)).mono ?_
  rintro e w10 ⟨rfl, hl⟩
  rw [Q7.out]
  replace H : Hid (Lw w w10 R g aw8) := Lib.hid hl
  clear hl
  go_wp2_with fail
  refine H.out.up.mono ?_
  rintro e w11 ⟨rfl, hl⟩
  replace H : Hid (Lw w w11 R g aw9) := Lib.hid hl
  clear hl
  go_wp2_with fail
  refine (H.out.read (w64 1 (by omega))).mono ?_
  rintro e w12 ⟨v, rfl, ho, hb⟩
  rw [Q8.out]
  rw [Q9.out] at ho
  obtain ⟨A2, cap2, R2, rfl, hA2, hcap2, hl, hown2⟩ := H.out.own hb ho
  replace H : Hid (Lw w w12 R g aw9) := Lib.hid (hl.few (fun r hr => List.mem_append.2 (.inr hr)))
  have hcv : (convert 41 9 (.slice A 4 cap)).run Try.prog w12 = .ok (.string ⟨#[97, 98, 99, 100]⟩) w12 := conv_bytes [97, 98, 99, 100] A cap _ w12 ((HN.out w12 H.out.knows).sees rfl)
  clear hl ho hb hown2 kc
  go_wp2_with fail
  refine (H.out.sure (w64 0 (by omega))).mono ?_
  rintro e w13 ⟨rfl, hb⟩
  rw [Q10.out]
  replace H : Hid (Lw w w13 R g aw9) := Lib.hid (H.out.call hb)
  clear hb
  go_wp2_with fail
  refine H.out.acts.mono ?_
  rintro e x ⟨rfl, ex⟩
  subst x
  rw [Q11.out]
  go_wp2_with fail
  go_ret
  exact ⟨rfl, H.out.st.below⟩

/-- A text as bytes. -/
theorem text_run (l : List UInt8) (hl : l.length ≤ 9223372036854775807) (w : World) : ∃ c W', (convert 9 41 (.string (txt l))).run Try.prog w = .ok (.slice (some ⟨w.heap.size, 0, none⟩) l.length c) W' ∧
    InB W' (some ⟨w.heap.size, 0, none⟩) c l ∧ Below w.heap.size w W' := by
  have h := run_bytes_of_string w 9 41 5 (txt l) Try.underlying9 Try.underlying41 Try.underlying5
  rw [txt_size] at h
  refine ⟨_, _, h, ⟨⟨w.heap.size + 1, ?_, ?_⟩, ?_, ?_, fun h => by cases h⟩, ?_⟩
  · show _ ≤ (w.drew.alloc _).heap.size
    simp
  · refine ⟨by simp [Lib.byteCells], fun _ => ⟨w.heap.size, 0, rfl, by omega, fun j u hu => ?_⟩⟩
    have hj : j < (txt l).data.size := by
      have := (List.getElem?_eq_some_iff.1 hu).1
      simpa [Lib.byteCells, txt] using this
    rw [Nat.zero_add, show w.heap.size = w.drew.heap.size from rfl, World.cell?_alloc_mark, bytesRow_at (txt l) _ j hj]
    unfold Lib.byteCells at hu
    rw [List.getElem?_map, List.getElem?_eq_getElem (by simpa [txt] using hj)] at hu
    simpa [txt] using hu
  · have := grownCap_ge w (txt l).size 0 5
    rw [txt_size] at this; exact this
  · have := grownCap_le_maxLen w l.length 0 5 (by unfold maxLen; exact hl)
    unfold maxLen at this; exact this
  · exact ((Below.refl w.heap.size w).drew).alloc (Nat.le_refl _) _

theorem GA.inI {W w : World} {L : List Row} {v : Ac} (h : GA W v) (hb : Below W.heap.size W w) : InI W w L v.A v.cap v.keep := by
  have h1 := h.room
  have h2 := h.top
  refine ⟨⟨W.heap.size, hb.size, h.sees.below hb⟩, fun h0 a ha => ?_, h.range, by omega⟩
  · obtain ⟨b, off, e, hlt, -⟩ := h.sees.2 h0
    rw [e] at ha
    injection ha with ha
    subst ha
    exact .inl hlt

set_option maxHeartbeats 4000000 in
theorem made_any (A : Option Addr) (cap : Nat) (l : List Ac) (w : World) (hL : IsR w A l.length cap 5 encA (GA w) l) :
    Calls Try.prog 19 #[.slice A l.length cap] w fun e w' => ∃ g d, e = .returned (ptr g) ∧ Lw w w' [] g d ∧ Fit d 30 := by
  obtain ⟨hlen, hs, hc1, hc2, hn, hg⟩ := hL
  have HS := Lib.hid hs
  have HG := Lib.hid hg
  clear hs hg hn hlen
  go_enter Try.func19, Try.ntmps19
  go_wp2_with fail
  refine (new_lw (St.start w) 3 (by omega) (by omega)).mono ?_
  rintro e w1 ⟨g, rfl, hl⟩
  have H : Hid (Lw w w1 [] g (D.new 3)) := Lib.hid hl
  clear hl
  go_wp2_with fail
  go_loopw [5] (fun i wr => ∃ (n : Nat) (d : D), n ≤ l.length ∧ n ≤ 30 ∧ i = .int .i64 (n : Int) ∧ Fit d n ∧ Lw w wr [] g d) (fun i _ => l.length - (intOf i).toNat)
  case atStart => exact ⟨0, D.new 3, by omega, by omega, rfl, Fit.new, H.out⟩
  case round =>
    obtain ⟨n, d, hn1, hn2, rfl, hfit, hl⟩ := hrel
    replace H := Lib.hid hl
    have HF := Lib.hid hfit
    have hacts := hfit.acts
    clear hl hfit
    by_cases hlt : n < l.length ∧ n < 30
    · obtain ⟨h1, h2⟩ := hlt
      obtain ⟨v, hv⟩ : ∃ v, l[n]? = some v := ⟨_, List.getElem?_eq_getElem h1⟩
      have hga := HG.out v (List.mem_of_getElem? hv)
      have HGA := Lib.hid hga.few
      have HFEW := Lib.hid (few_any v hga.room hga.top hga.s)
      have hfs : v.few.s.length ≤ 2000 := by show (v.s.take 2000).length ≤ _; rw [List.length_take]; omega
      obtain ⟨b0, off, rfl, hb, hcc⟩ := (HS.out.below H.out.st.below).item encA_len (by omega) n v hv
      have q0 := hcc 0 _ rfl
      have q1 := hcc 1 _ rfl
      have q2 := hcc 2 _ rfl
      have q3 := hcc 3 _ rfl
      have q4 := hcc 4 _ rfl
      rw [Nat.add_zero] at q0
      clear hcc hv hga
      have hea : (encA v).toArray = #[.int .i64 v.kind, .int .i64 v.log, .int .i64 v.n, .string (txt v.s), .slice v.A v.keep.length v.cap] := rfl
      rw [hea] at HFEW
      have i1 : (n : Int) < (l.length : Int) := by omega
      have i2 : (n : Int) < 30 := by omega
      generalize v.few = u at *
      have heb : (encA u).toArray = #[.int .i64 u.kind, .int .i64 u.log, .int .i64 u.n, .string (txt u.s), .slice u.A u.keep.length u.cap] := rfl
      rw [heb] at HFEW
      clear hea heb
      have hlg := HGA.out.log
      have HLG := Lib.hid hlg
      clear hlg
      go_wp2_with fail
      refine (HFEW.out _).mono ?_
      rintro e w2 ⟨rfl, hb2⟩
      have H2 := Lib.hid ((H.out.call hb2).alloc w2.heap.size rfl 36 #[.int .i64 u.kind, .int .i64 u.log, .int .i64 u.n, .string (txt u.s), .slice u.A u.keep.length u.cap])
      obtain ⟨tc, w3, htr, hin, htb⟩ := text_run u.s (by omega) (w2.alloc (.cells #[.int .i64 u.kind, .int .i64 u.log, .int .i64 u.n, .string (txt u.s), .slice u.A u.keep.length u.cap] 36))
      have HIN := Lib.hid hin
      have HTB := Lib.hid htb
      have hsz : (w2.alloc (.cells #[.int .i64 u.kind, .int .i64 u.log, .int .i64 u.n, .string (txt u.s), .slice u.A u.keep.length u.cap] 36)).heap.size = w2.heap.size + 1 := by simp
      rw [hsz] at htr HIN
      clear q0 q1 q2 q3 q4 hb2 hin htb HFEW hsz
      have kinds : u.kind = 0 ∨ u.kind = 1 ∨ u.kind = 2 ∨ u.kind = 5 ∨ (u.kind ≠ 0 ∧ u.kind ≠ 1 ∧ u.kind ≠ 2 ∧ u.kind ≠ 5) := by omega
      generalize u.kind = kd at *
      rcases kinds with rfl | rfl | rfl | rfl | ⟨k0, k1, k2, k5⟩
      · go_wp2_with fail
        refine ((H2.out.call HTB.out).append HLG.out (by omega) (by omega) HIN.out).mono ?_
        rintro e w4 ⟨rfl, hl⟩
        have H4 := Lib.hid (hl.few (L' := []) (fun r hr => by cases hr))
        have HF4 := Lib.hid (HF.out.append u.log u.s)
        clear hl
        generalize (d.append u.log u.s).1 = d4 at *
        go_wp2_with fail
        go_roundw
        case rel => exact ⟨n + 1, d4, by omega, by omega, by go_num, HF4.out, H4.out⟩
        case measure => simp [intOf]; omega
      · go_wp2_with fail
        refine (H2.out.sync HLG.out (by omega)).mono ?_
        rintro e w4 ⟨rfl, hl⟩
        have H4 := Lib.hid (hl.few (L' := []) (fun r hr => by cases hr))
        have HF4 := Lib.hid (HF.out.sync u.log)
        clear hl
        generalize (d.sync u.log).1 = d4 at *
        go_wp2_with fail
        go_roundw
        case rel => exact ⟨n + 1, d4, by omega, by omega, by go_num, HF4.out, H4.out⟩
        case measure => simp [intOf]; omega
      · go_wp2_with fail
        refine ((H2.out.call HTB.out).swap HLG.out (by omega) HIN.out).mono ?_
        rintro e w4 ⟨rfl, hl⟩
        have H4 := Lib.hid (hl.few (L' := []) (fun r hr => by cases hr))
        have HF4 := Lib.hid (HF.out.swap u.log u.s)
        clear hl
        generalize (d.swap u.log u.s).1 = d4 at *
        go_wp2_with fail
        go_roundw
        case rel => exact ⟨n + 1, d4, by omega, by omega, by go_num, HF4.out, H4.out⟩
        case measure => simp [intOf]; omega
      · have HII := Lib.hid (HGA.out.inI H2.out.st.below (L := [(w2.heap.size, 36, #[.int .i64 5, .int .i64 u.log, .int .i64 u.n, .string (txt u.s), .slice u.A u.keep.length u.cap])]))
        go_wp2_with fail
        refine (H2.out.crash HII.out).mono ?_
        rintro e w4 ⟨rfl, hl⟩
        replace H2 := Lib.hid hl
        clear hl
        go_wp2_with fail
        refine H2.out.up.mono ?_
        rintro e w5 ⟨rfl, hl⟩
        have H4 := Lib.hid (hl.few (L' := []) (fun r hr => by cases hr))
        have HF4 := Lib.hid ((HF.out.lost u.keep).more (Nat.le_succ n))
        clear hl
        generalize (d.crash u.keep).up = d4 at *
        go_wp2_with fail
        go_roundw
        case rel => exact ⟨n + 1, d4, by omega, by omega, by go_num, HF4.out, H4.out⟩
        case measure => simp [intOf]; omega
      · have H4 := Lib.hid (H2.out.few (L' := []) (fun r hr => by cases hr))
        go_wp2_with fail
        go_roundw
        case rel => exact ⟨n + 1, d, by omega, by omega, by go_num, HF.out.more (Nat.le_succ n), H4.out⟩
        case measure => simp [intOf]; omega
    · have hend : n = l.length ∨ (n < l.length ∧ n = 30) := by omega
      rcases hend with rfl | ⟨h1, rfl⟩
      · go_wp2_with fail
        go_ret
        exact ⟨g, d, rfl, H.out, HF.out.more (by omega)⟩
      · have g1 : ((30 : Nat) : Int) < (l.length : Int) := by omega
        go_wp2_with fail
        go_ret
        exact ⟨g, d, rfl, H.out, HF.out⟩
/-- A list of numbers that came in. -/
theorem inI_arg {W w : World} {L : List Row} {A : Option Addr} {cap : Nat} {l : List Int} (h : IsR W A l.length cap 1 encI W64 l) (hb : Below W.heap.size W w) : InI W w L A cap l := by
  have h1 := h.room
  have h2 := h.top
  have hs := h.sees
  rw [flat_ints] at hs
  refine ⟨⟨W.heap.size, hb.size, hs.below hb⟩, fun h0 a ha => ?_, h.good, by omega⟩
  obtain ⟨b, off, e, hlt, -⟩ := hs.2 h0
  rw [e] at ha
  injection ha with ha
  subst ha
  exact .inl hlt
theorem InI.take {W w : World} {L : List Row} {A : Option Addr} {cap : Nat} {l : List Int} (h : InI W w L A cap l) (k : Nat) (hk : k ≤ l.length) : InI W w L A cap (l.take k) := by
  obtain ⟨B, hB, hs⟩ := h.sees
  have hl : (l.take k).length = k := by rw [List.length_take]; omega
  refine ⟨⟨B, hB, ?_⟩, fun h0 a ha => h.far (by omega) a ha, fun n hn => h.range n (List.mem_of_mem_take hn), by have := h.top; omega⟩
  have := hs.first hk
  rw [Nat.mul_one, ints_take] at this
  rw [hl]; exact this
end Go.Proofs.Ytllbfoohhonmeaa
