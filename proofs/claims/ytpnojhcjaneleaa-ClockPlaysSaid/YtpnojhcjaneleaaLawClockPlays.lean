/- Whatever a clock is set by and asked, it answers as the document says: moietylaw06.ClockPlays answers true. For every float and list of calls; no conditions. -/
import Derived.Test.YtpnojhcjaneleaaClkV
namespace Go.Proofs.Ytpnojhcjaneleaa.clockPlays
open Go.ChangeShapes Go.WideShapes Go.ChangeAt Go.RowKit Go.Sp Go.Fl Go.Ck
set_option linter.unusedVariables false
set_option linter.unusedSimpArgs false

theorem isT_but {w w2 : World} {A : Option Addr} {n cap : Nat} {l : List Tk} {g : Nat} (h : IsT w A n cap l) (hb : But g w w2) (hne : ∀ p, A = some p → p.block ≠ g) : IsT w2 A n cap l := by
  refine ⟨h.count, ⟨h.sees.1, fun hn => ?_⟩, h.room, h.top, h.nil⟩
  obtain ⟨b, off, hA, hlt, hc⟩ := h.sees.2 hn
  refine ⟨b, off, hA, Nat.lt_of_lt_of_le hlt hb.size, fun j u hu => ?_⟩
  rw [World.cell?_of_block (w := w) (a := ⟨b, off + j, none⟩) (hb.block b hlt (hne _ hA))]
  exact hc j u hu
theorem isT_alloc {w : World} {A : Option Addr} {n cap : Nat} {l : List Tk} (h : IsT w A n cap l) (o : Obj) : IsT (w.alloc o) A n cap l := h.call ((Below.refl _ _).alloc (Nat.le_refl _) o)
theorem isT_set {w : World} {A : Option Addr} {n cap : Nat} {l : List Tk} {x i : Nat} {u : Value} (h : IsT w A n cap l) (hne : ∀ p, A = some p → p.block ≠ x) : IsT (w.setCell ⟨x, i, none⟩ u) A n cap l := by
  refine ⟨h.count, ⟨h.sees.1, fun hn => ?_⟩, h.room, h.top, h.nil⟩
  obtain ⟨b, off, hA, hlt, hc⟩ := h.sees.2 hn
  refine ⟨b, off, hA, by simpa using hlt, fun j v hv => ?_⟩
  rw [World.cell?_of_block (w := w) (a := ⟨b, off + j, none⟩) (Below.heap_setCell w _ u b (hne _ hA))]
  exact hc j v hv
/-- Where this law stands: its clock, the document's clock in block x, and the row that it has. -/
structure Pl (W w : World) (x rt g : Nat) (c : Ck) (A : Option Addr) (n cap : Nat) (l : List Tk) : Prop where
  lw : Lw W w [(x, 32, #[.float .f64 rt, .slice A n cap])] g c
  row : IsT w A n cap l
  is : Is6 c l
  ok : Ok c
  rate : c.rate = rt
  far : ∀ p, A = some p → p.block ≠ g ∧ p.block ≠ x

set_option maxRecDepth 100000 in
set_option maxHeartbeats 16000000 in
theorem walk (x : Nat) (hx : x < 18446744073709551616) (A : Option Addr) (len cap : Nat) (l : List Cl) (w : World) (hL : IsR w A len cap 4 encC GC l) :
    Calls Try.prog 3 #[.float .f64 x, .slice A len cap] w fun r w' => r = .returned (.bool true) ∧ Below w.heap.size w w' := by
  obtain ⟨hlen, hs, hc1, hc2, hn, hg⟩ := hL
  subst hlen
  have HS := Lib.hid hs
  have HG := Lib.hid hg
  clear hs hg hn
  have HC := Lib.hid (fun w0 => rcrated_any x hx w0)
  cases hc : crated x with
  | false =>
    have HN := Lib.hid (fun w0 => new_no x hx hc w0)
    rw [hc] at HC
    clear hx hc
    go_enter Try.func3, Try.ntmps3
    go_wp2_with fail
    refine (HN.out _).mono ?_
    rintro r w1 ⟨rfl, e1⟩
    subst w1
    go_wp2_with fail
    refine (awake_any _).mono ?_
    rintro r w1 ⟨rfl, hb1⟩
    have H := Lib.hid ((St.start w).call hb1)
    clear hb1
    go_wp2_with fail
    refine (HC.out _).mono ?_
    rintro r w2 ⟨rfl, e1⟩
    subst w2
    go_wp2_with fail
    go_ret
    exact ⟨rfl, H.out.below⟩
  | true =>
    rw [hc] at HC
    have HX := Lib.hid (Ok.fresh hc)
    go_enter Try.func3, Try.ntmps3
    go_wp2_with fail
    refine (new_at x hc _ _ rfl).mono ?_
    rintro r w1 ⟨rfl, hb1, k⟩
    have HL := Lib.hid (show Lw w w1 [] w.heap.size (fresh x) from ⟨(St.start w).call hb1, k, Nat.le_refl _, fun r hr => by cases hr⟩)
    clear hb1 k
    go_wp2_with fail
    refine (awake_any _).mono ?_
    rintro r w2 ⟨rfl, hb1⟩
    replace HL := Lib.hid (HL.out.call hb1)
    clear hb1
    go_wp2_with fail
    refine (HC.out _).mono ?_
    rintro r w3 ⟨rfl, e1⟩
    subst w3
    go_wp2_with fail
    replace HL := Lib.hid (HL.out.alloc w2.heap.size rfl 32 #[.float .f64 x, .slice none 0 0])
    have HMW := Lib.hid (show w.heap.size ≤ w2.heap.size from by have := HL.out.st.below.size; simp at this; have := HL.out.clk.lt; simp at this; omega)
    go_loopw [8] (fun i wr => ∃ (n : Nat) (c : Ck) (A' : Option Addr) (n' cap' : Nat) (l' : List Tk), n ≤ l.length ∧ n ≤ 40 ∧ i = .int .i64 (n : Int) ∧ l'.length ≤ n ∧ Pl w wr w2.heap.size x w.heap.size c A' n' cap' l') (fun i _ => l.length - (intOf i).toNat)
    case atStart => exact ⟨0, fresh x, none, 0, 0, [], by omega, by omega, rfl, by simp, ⟨HL.out, ⟨rfl, Sees.nothing _ _ _ _, by omega, by omega, fun _ => rfl⟩, Is6.fresh x, HX.out, rfl, fun p hp => by cases hp⟩⟩
    case round =>
      obtain ⟨n, c, A', n', cap', l', hn1, hn2, rfl, hl', hpl⟩ := hrel
      have HP := Lib.hid hpl
      clear hpl HX HL
      by_cases hlt : n < l.length ∧ n < 40
      · obtain ⟨h1, h2⟩ := hlt
        obtain ⟨v, hv⟩ : ∃ v, l[n]? = some v := ⟨_, List.getElem?_eq_getElem h1⟩
        obtain ⟨g1, g2, g3, g4⟩ := HG.out v (List.mem_of_getElem? hv)
        have G2 := Lib.hid g2
        have G3 := Lib.hid g3
        have G4 := Lib.hid g4
        obtain ⟨b0, off, rfl, hb, hcc⟩ := (HS.out.below HP.out.lw.st.below).item encC_len (by omega) n v hv
        have q0 := hcc 0 _ rfl
        have q1 := hcc 1 _ rfl
        have q2 := hcc 2 _ rfl
        have q3 := hcc 3 _ rfl
        rw [Nat.add_zero] at q0
        clear hcc hv g1 g2 g3 g4
        obtain ⟨vk, vh, vt, ve⟩ := v
        simp only at q0 q1 q2 q3 G2 G3 G4
        have i1 : (n : Int) < (l.length : Int) := by omega
        have i2 : (n : Int) < 40 := by omega
        obtain ⟨m0, m1, k0, k1, z0⟩ := HP.out.lw.st.two 0 w2.heap.size rfl
        have kind : 1 < vk ∨ (vk ≤ 1 ∧ vk < 0) ∨ (0 ≤ vk ∧ vk = 0) ∨ (0 ≤ vk ∧ vk = 1) := by omega
        rcases kind with kk | ⟨kk, kk2⟩ | ⟨kk, rfl⟩ | ⟨kk, rfl⟩
        case' inl | inr.inl =>
          have N1 := Lib.hid (fun w0 (k : Clk w0 w.heap.size c) => set_any w.heap.size c vh vt ve G2.out G3.out G4.out w0 k)
          have N2 := Lib.hid (fun w0 (k : IsT w0 A' n' cap' l') => rset_any x c HP.out.ok l' HP.out.is A' n' cap' w0 k (by omega) vh vt ve G2.out G3.out G4.out)
          have HO2 := Lib.hid (HP.out.ok.set vh vt ve)
          have HR2 : Hid ((c.set vh vt ve).rate = x) := Lib.hid (by unfold Ck.set; split <;> exact HP.out.rate)
          generalize c.setE vh vt ve = E at *
          generalize c.set vh vt ve = c2 at *
          go_wp2_with fail
          have HL1 := Lib.hid (HP.out.lw.alloc wr.heap.size rfl 34 #[.int .i64 vk, .int .i64 vh, .int .i64 vt, .int .i64 ve])
          have HT1 := Lib.hid (isT_alloc HP.out.row (.cells #[.int .i64 vk, .int .i64 vh, .int .i64 vt, .int .i64 ve] 34))
          refine (N2.out _ HT1.out).mono ?_
          rintro r y1 ⟨A2, n2, cap2, l2, rfl, hb1, hT2, hI2, hl2, hA2⟩
          have hgl := HP.out.lw.clk.lt
          have hml := (HP.out.lw.st.knows.at 0 rfl).lt
          have far2 : ∀ p, A2 = some p → p.block ≠ w.heap.size ∧ p.block ≠ w2.heap.size := fun p hp => by
            rcases hA2 p hp with e | e
            · exact HP.out.far p (by rw [← e]; exact hp)
            · simp at e; omega
          have FAR := Lib.hid far2
          have hyl : wr.heap.size < y1.heap.size := by have := hb1.size; simp at this; omega
          have hd9 : ∀ r ∈ ([(y1.heap.size, 32, #[.float .f64 x, .slice A2 n2 cap2]), (wr.heap.size, 34, #[.int .i64 vk, .int .i64 vh, .int .i64 vt, .int .i64 ve])] : List Row), r.1 ≠ w2.heap.size := by intro r hr; simp at hr; rcases hr with rfl | rfl <;> (show _ ≠ _; simp <;> omega)
          have HD9 := Lib.hid hd9
          have hmw : w.heap.size ≤ w2.heap.size := HMW.out
          have HI2 := Lib.hid hI2
          have hl3 : l2.length ≤ n + 1 := by omega
          have HL2 := Lib.hid ((HL1.out.call hb1).alloc y1.heap.size rfl 32 #[.float .f64 x, .slice A2 n2 cap2])
          have HT2 := Lib.hid (isT_alloc hT2 (.cells #[.float .f64 x, .slice A2 n2 cap2] 32))
          clear hb1 hT2 hI2 hl2 hA2 hd9 HL1 HT1 far2 m0 m1 k0 k1 z0
          obtain ⟨e0, e1, e2, e3⟩ := (HL2.out.st.knows.at 1 rfl).four
          go_wp2_with fail
          refine (N1.out _ HL2.out.clk).mono ?_
          rintro r y2 ⟨rfl, hb1, k⟩
          have HT3 := Lib.hid (isT_but HT2.out hb1 (fun p hp => (FAR.out p hp).1))
          have HL3 := Lib.hid (HL2.out.turn hb1 k)
          clear hb1 k HT2 HL2 e0 e1 e2 e3
          obtain ⟨m0, m1, k0, k1, z0⟩ := HL3.out.st.two 0 y1.heap.size rfl
          obtain ⟨s0, s1, t0, t1, u0⟩ := HL3.out.st.two 2 w2.heap.size rfl
          go_wp2_with fail
          go_roundw
          case rel =>
            have hl9 := ((HL3.out.few (L' := [(w2.heap.size, 32, #[.float .f64 x, .slice A' n' cap']), (y1.heap.size, 32, #[.float .f64 x, .slice A2 n2 cap2]), (wr.heap.size, 34, #[.int .i64 vk, .int .i64 vh, .int .i64 vt, .int .i64 ve])]) (by simp)).set0 hmw HD9.out (by decide) (by decide) 0 (.float .f64 x)).set0 hmw HD9.out (by decide) (by decide) 1 (.slice A2 n2 cap2)
            exact ⟨n + 1, c2, A2, n2, cap2, l2, by omega, by omega, by go_num, hl3, ⟨hl9.few (by simp), isT_set (isT_set HT3.out (fun p hp => (FAR.out p hp).2)) (fun p hp => (FAR.out p hp).2), HI2.out, HO2.out, HR2.out, FAR.out⟩⟩
          case measure => simp [intOf]; omega
        case' inr.inr.inl =>
          have HO2 := Lib.hid (HP.out.ok.now vh)
          have HR2 : Hid ((c.now vh).rate = x) := Lib.hid (by unfold Ck.now; split <;> exact HP.out.rate)
          have N2 := Lib.hid (fun w0 (k : IsT w0 A' n' cap' l') => rnow_any c HP.out.ok l' HP.out.is A' n' cap' w0 k (by omega) vh G2.out)
          rw [HP.out.rate] at N2
          have N1 := Lib.hid (fun w0 (k : Clk w0 w.heap.size c) => now_any w.heap.size c HP.out.ok vh G2.out w0 k)
          generalize c.nowE vh = E at *
          generalize c.nowL vh = L at *
          generalize c.nowH vh = M at *
          generalize c.now vh = c2 at *
          go_wp2_with fail
          have HL1 := Lib.hid (HP.out.lw.alloc wr.heap.size rfl 34 #[.int .i64 0, .int .i64 vh, .int .i64 vt, .int .i64 ve])
          have HT1 := Lib.hid (isT_alloc HP.out.row (.cells #[.int .i64 0, .int .i64 vh, .int .i64 vt, .int .i64 ve] 34))
          refine (N2.out _ HT1.out).mono ?_
          rintro r y1 ⟨A2, n2, cap2, l2, rfl, hb1, hT2, hI2, hl2, hA2⟩
          have hgl := HP.out.lw.clk.lt
          have hml := (HP.out.lw.st.knows.at 0 rfl).lt
          have far2 : ∀ p, A2 = some p → p.block ≠ w.heap.size ∧ p.block ≠ w2.heap.size := fun p hp => by
            rcases hA2 p hp with e | e
            · exact HP.out.far p (by rw [← e]; exact hp)
            · simp at e; omega
          have FAR := Lib.hid far2
          have hyl : wr.heap.size < y1.heap.size := by have := hb1.size; simp at this; omega
          have hd9 : ∀ r ∈ ([(y1.heap.size, 32, #[.float .f64 x, .slice A2 n2 cap2]), (wr.heap.size, 34, #[.int .i64 0, .int .i64 vh, .int .i64 vt, .int .i64 ve])] : List Row), r.1 ≠ w2.heap.size := by intro r hr; simp at hr; rcases hr with rfl | rfl <;> (show _ ≠ _; simp <;> omega)
          have HD9 := Lib.hid hd9
          have hmw : w.heap.size ≤ w2.heap.size := HMW.out
          have HI2 := Lib.hid hI2
          have hl3 : l2.length ≤ n + 1 := by omega
          have HL2 := Lib.hid (((HL1.out.call hb1).alloc y1.heap.size rfl 32 #[.float .f64 x, .slice A2 n2 cap2]).alloc (y1.heap.size + 1) (by simp) 39 #[.int .i64 L, .int .i64 M])
          have HT2 := Lib.hid (isT_alloc (isT_alloc hT2 (.cells #[.float .f64 x, .slice A2 n2 cap2] 32)) (.cells #[.int .i64 L, .int .i64 M] 39))
          clear hb1 hT2 hI2 hl2 hA2 hd9 HL1 HT1 far2 m0 m1 k0 k1 z0
          obtain ⟨e0, e1, e2, e3⟩ := (HL2.out.st.knows.at 2 rfl).four
          obtain ⟨m0, m1, k0, k1, z0⟩ := HL2.out.st.two 3 w2.heap.size rfl
          go_wp2_with fail
          have hd8 : ∀ r ∈ ([(y1.heap.size + 1, 39, #[.int .i64 L, .int .i64 M]), (y1.heap.size, 32, #[.float .f64 x, .slice A2 n2 cap2]), (wr.heap.size, 34, #[.int .i64 0, .int .i64 vh, .int .i64 vt, .int .i64 ve])] : List Row), r.1 ≠ w2.heap.size := by intro r hr; simp at hr; rcases hr with rfl | rfl | rfl <;> (show _ ≠ _; simp <;> omega)
          have HL4 := Lib.hid (((HL2.out.few (L' := [(w2.heap.size, 32, #[.float .f64 x, .slice A' n' cap']), (y1.heap.size + 1, 39, #[.int .i64 L, .int .i64 M]), (y1.heap.size, 32, #[.float .f64 x, .slice A2 n2 cap2]), (wr.heap.size, 34, #[.int .i64 0, .int .i64 vh, .int .i64 vt, .int .i64 ve])]) (by simp)).set0 hmw hd8 (by decide) (by decide) 0 (.float .f64 x)).set0 hmw hd8 (by decide) (by decide) 1 (.slice A2 n2 cap2))
          have HT4 := Lib.hid (isT_set (x := w2.heap.size) (i := 1) (u := .slice A2 n2 cap2) (isT_set (x := w2.heap.size) (i := 0) (u := .float .f64 x) HT2.out (fun p hp => (FAR.out p hp).2)) (fun p hp => (FAR.out p hp).2))
          clear hd8 HL2 HT2 e0 e1 e2 e3 m0 m1 k0 k1 z0
          refine (N1.out _ HL4.out.clk).mono ?_
          rintro r y2 ⟨rfl, hb1, k⟩
          have HT5 := Lib.hid (isT_but HT4.out hb1 (fun p hp => (FAR.out p hp).1))
          have HL5 := Lib.hid ((HL4.out.turn hb1 k).alloc y2.heap.size rfl 39 #[.int .i64 L, .int .i64 M])
          have HT6 := Lib.hid (isT_alloc HT5.out (.cells #[.int .i64 L, .int .i64 M] 39))
          clear hb1 k HT4 HL4 HT5
          obtain ⟨s0, s1, t0, t1, u0⟩ := HL5.out.st.two 0 y2.heap.size rfl
          obtain ⟨m0, m1, k0, k1, z0⟩ := HL5.out.st.two 2 (y1.heap.size + 1) rfl
          go_wp2_with fail
          go_roundw
          case rel => exact ⟨n + 1, c2, A2, n2, cap2, l2, by omega, by omega, by go_num, hl3, ⟨HL5.out.few (by simp), HT6.out, HI2.out, HO2.out, HR2.out, FAR.out⟩⟩
          case measure => simp [intOf]; omega
        case' inr.inr.inr =>
          have HO2 := Lib.hid (HP.out.ok.now vh)
          have HR2 : Hid ((c.now vh).rate = x) := Lib.hid (by unfold Ck.now; split <;> exact HP.out.rate)
          have N2 := Lib.hid (fun w0 (k : IsT w0 A' n' cap' l') => rnow_any c HP.out.ok l' HP.out.is A' n' cap' w0 k (by omega) vh G2.out)
          rw [HP.out.rate] at N2
          have N1 := Lib.hid (fun w0 (k : Clk w0 w.heap.size c) => past_any w.heap.size c HP.out.ok vt vh G2.out w0 k)
          have key : (c.nowE vh = 0 ∧ ((vt < c.nowL vh ∧ c.past vt vh = true) ∨ (c.nowL vh ≤ vt ∧ c.past vt vh = false))) ∨ (c.nowE vh ≠ 0 ∧ c.past vt vh = false) := by
            unfold Ck.past Ck.nowL
            by_cases h0 : c.nowE vh = 0
            · rw [if_pos h0]
              simp only [h0, true_and]
              simp
              omega
            · simp [h0]
          generalize c.past vt vh = pb at *
          generalize c.nowE vh = E at *
          generalize c.nowL vh = L at *
          generalize c.nowH vh = M at *
          generalize c.now vh = c2 at *
          go_wp2_with fail
          have HL1 := Lib.hid (HP.out.lw.alloc wr.heap.size rfl 34 #[.int .i64 1, .int .i64 vh, .int .i64 vt, .int .i64 ve])
          have HT1 := Lib.hid (isT_alloc HP.out.row (.cells #[.int .i64 1, .int .i64 vh, .int .i64 vt, .int .i64 ve] 34))
          refine (N2.out _ HT1.out).mono ?_
          rintro r y1 ⟨A2, n2, cap2, l2, rfl, hb1, hT2, hI2, hl2, hA2⟩
          have hgl := HP.out.lw.clk.lt
          have hml := (HP.out.lw.st.knows.at 0 rfl).lt
          have far2 : ∀ p, A2 = some p → p.block ≠ w.heap.size ∧ p.block ≠ w2.heap.size := fun p hp => by
            rcases hA2 p hp with e | e
            · exact HP.out.far p (by rw [← e]; exact hp)
            · simp at e; omega
          have FAR := Lib.hid far2
          have hyl : wr.heap.size < y1.heap.size := by have := hb1.size; simp at this; omega
          have hd9 : ∀ r ∈ ([(y1.heap.size, 32, #[.float .f64 x, .slice A2 n2 cap2]), (wr.heap.size, 34, #[.int .i64 1, .int .i64 vh, .int .i64 vt, .int .i64 ve])] : List Row), r.1 ≠ w2.heap.size := by intro r hr; simp at hr; rcases hr with rfl | rfl <;> (show _ ≠ _; simp <;> omega)
          have HD9 := Lib.hid hd9
          have hmw : w.heap.size ≤ w2.heap.size := HMW.out
          have HI2 := Lib.hid hI2
          have hl3 : l2.length ≤ n + 1 := by omega
          have HL2 := Lib.hid (((HL1.out.call hb1).alloc y1.heap.size rfl 32 #[.float .f64 x, .slice A2 n2 cap2]).alloc (y1.heap.size + 1) (by simp) 39 #[.int .i64 L, .int .i64 M])
          have HT2 := Lib.hid (isT_alloc (isT_alloc hT2 (.cells #[.float .f64 x, .slice A2 n2 cap2] 32)) (.cells #[.int .i64 L, .int .i64 M] 39))
          clear hb1 hT2 hI2 hl2 hA2 hd9 HL1 HT1 far2 m0 m1 k0 k1 z0
          obtain ⟨e0, e1, e2, e3⟩ := (HL2.out.st.knows.at 2 rfl).four
          obtain ⟨m0, m1, k0, k1, z0⟩ := HL2.out.st.two 3 w2.heap.size rfl
          go_wp2_with fail
          have hd8 : ∀ r ∈ ([(y1.heap.size + 1, 39, #[.int .i64 L, .int .i64 M]), (y1.heap.size, 32, #[.float .f64 x, .slice A2 n2 cap2]), (wr.heap.size, 34, #[.int .i64 1, .int .i64 vh, .int .i64 vt, .int .i64 ve])] : List Row), r.1 ≠ w2.heap.size := by intro r hr; simp at hr; rcases hr with rfl | rfl | rfl <;> (show _ ≠ _; simp <;> omega)
          have HL4 := Lib.hid (((HL2.out.few (L' := [(w2.heap.size, 32, #[.float .f64 x, .slice A' n' cap']), (y1.heap.size + 1, 39, #[.int .i64 L, .int .i64 M]), (y1.heap.size, 32, #[.float .f64 x, .slice A2 n2 cap2]), (wr.heap.size, 34, #[.int .i64 1, .int .i64 vh, .int .i64 vt, .int .i64 ve])]) (by simp)).set0 hmw hd8 (by decide) (by decide) 0 (.float .f64 x)).set0 hmw hd8 (by decide) (by decide) 1 (.slice A2 n2 cap2))
          have HT4 := Lib.hid (isT_set (x := w2.heap.size) (i := 1) (u := .slice A2 n2 cap2) (isT_set (x := w2.heap.size) (i := 0) (u := .float .f64 x) HT2.out (fun p hp => (FAR.out p hp).2)) (fun p hp => (FAR.out p hp).2))
          clear hd8 HL2 HT2 e0 e1 e2 e3 m0 m1 k0 k1 z0
          refine (N1.out _ HL4.out.clk).mono ?_
          rintro r y2 ⟨rfl, hb1, k⟩
          have HT5 := Lib.hid (isT_but HT4.out hb1 (fun p hp => (FAR.out p hp).1))
          have HL5 := Lib.hid (HL4.out.turn hb1 k)
          clear hb1 k HT4 HL4
          obtain ⟨m0, m1, k0, k1, z0⟩ := HL5.out.st.two 1 (y1.heap.size + 1) rfl
          obtain ⟨e0, e1, e2, e3⟩ := (HL5.out.st.knows.at 3 rfl).four
          rcases key with ⟨rfl, ⟨x1, rfl⟩ | ⟨x1, rfl⟩⟩ | ⟨x1, rfl⟩
          case' inr => have q9 : (E == 0) = false := by simpa using x1
          all_goals
            go_wp2_with fail
            go_roundw
            case rel => exact ⟨n + 1, c2, A2, n2, cap2, l2, by omega, by omega, by go_num, hl3, ⟨HL5.out.few (by simp), HT5.out, HI2.out, HO2.out, HR2.out, FAR.out⟩⟩
            case measure => simp [intOf]; omega
      · have hend : ((n : Int) < (l.length : Int) ∧ n = 40) ∨ (¬ (n : Int) < (l.length : Int)) := by omega
        rcases hend with ⟨i1, rfl⟩ | i1
        all_goals
          go_wp2_with fail
          go_ret
          exact ⟨rfl, HP.out.lw.st.below⟩

set_option maxRecDepth 100000 in
theorem lifted (os : Os) (started : os.Started) (H : Type) (enc : TypeId × Value → H) :
    ReturnsInHanded {} Try.checked os 3 .any (Rows.clockPlaysSpec.pre6 enc Try.prog Try.f3 Rows.clockPlaysRow.domain false) (Rows.clockPlaysSpec.post enc Try.prog Try.f3 false true false false) := by
  refine returnsInHanded_of_change (C := Try.checked) own started (by kernel_rfl) Try.func3
    (ChangeSpec.witness6 (enc := enc) (C := Try.checked) false ⟨#[], #[.float .f64 0, .slice none 0 0], []⟩ 8 (by kernel_rfl) (by kernel_rfl) (by kernel_rfl) (by kernel_rfl)) ?_
  intro W base args ds gs before hval0 hW hcnd _
  have hval : ∀ (j : Nat) t v, Try.f3.params[j]? = some t → args[j]? = some v → Value.okWide Try.prog W .any base t v := hval0
  have hW' := hW
  obtain ⟨p, q, hA0, hV, rfl, hfz, hnd⟩ := hW
  have hA : DataW.TrodAll enc Try.prog W 0 (fun _ => true) true Try.f3.params.toList args.toList ds p := hA0
  rw [Try.params3] at hA hval
  obtain ⟨v0, vs0, d0, ds0, p0, q0, hargs, rfl, rfl, h0, r0⟩ := trodAll_cons hA
  obtain ⟨v1, vs1, d1, ds1, p1, q1, rfl, rfl, rfl, h1, r1⟩ := trodAll_cons r0
  obtain ⟨rfl, rfl, rfl⟩ := trodAll_nil r1
  obtain rfl : args = #[v0, v1] := by cases args; simp_all
  obtain ⟨rfl, rfl⟩ := trodVars_none hV
  obtain ⟨a0, rfl⟩ := okWide_float Try.underlying22 (hval 0 22 v0 rfl rfl)
  have w0 : a0 < 18446744073709551616 := by
    obtain ⟨m, hm⟩ := h0
    obtain ⟨s, hs, hl⟩ := float_of (k := .f64) Try.underlying22 hm
    simp [Value.cells] at hs
    rw [hs]; simpa [Lit.wf] using hl
  have lt0 : ∀ x ∈ p0, x.block < W.heap.size := by obtain ⟨m, hm⟩ := h0; exact DataW.trod_lt m _ _ _ hm
  obtain ⟨A1, len1, cap1, rfl⟩ := okWide_slice Try.underlying23 (hval 1 23 v1 rfl rfl)
  obtain ⟨l1, w1⟩ := open_calls h1
  have lt1 : ∀ x ∈ p1, x.block < W.heap.size := by obtain ⟨m, hm⟩ := h1; exact DataW.trod_lt m _ _ _ hm
  clear hA0 hval0
  simp only [List.append_nil] at hW'
  refine (walk a0 w0 A1 len1 cap1 l1 W w1).mono fun e W' ⟨he, bel⟩ => ?_
  subst he
  exact ⟨_, rfl, _, _, _, [], _, [], hW', trodAll_mk1 (shut_bool Try.underlying4 _), (trodAll_cons_mk (Below.trod laidOut (by kernel_rfl) (of_decide_eq_true (by kernel_rfl)) h0 bel lt0) (trodAll_cons_mk (Below.trod laidOut (by kernel_rfl) (of_decide_eq_true (by kernel_rfl)) h1 bel lt1) trodAll_mk0)), rfl, bel.frame _, fun h => by cases h⟩

theorem proved : Rows.ClockPlaysSaid :=
  OpenClaim.holds_of_wide 3 Try.f3 rfl rfl rfl rfl rfl rfl rfl ⟨rfl, rfl, rfl, rfl, rfl⟩ rfl rfl rfl rfl rfl (by kernel_rfl) Try.func3 (by kernel_rfl)
    (of_decide_eq_true (by kernel_rfl)) (by unfold Func.isWrapper; first | (rw [if_pos (by decide +kernel)]; kernel_rfl) | (rw [if_neg (by decide +kernel)]; exact ⟨rfl, rfl⟩))
    (fun os started H enc _ => lifted os started H enc)
#print axioms proved
end Go.Proofs.Ytpnojhcjaneleaa.clockPlays
