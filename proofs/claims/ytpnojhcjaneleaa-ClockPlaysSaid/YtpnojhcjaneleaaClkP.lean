/- The document's clock: Set. -/
import Derived.Test.YtpnojhcjaneleaaClkQ
namespace Go.Proofs.Ytpnojhcjaneleaa
open Go.RowKit Go.Sp Go.Fl Go.Ck
set_option linter.unusedVariables false
set_option linter.unusedSimpArgs false
set_option maxRecDepth 100000

/-- A row of readings that were taken. -/
structure IsT (w : World) (A : Option Addr) (n cap : Nat) (l : List Tk) : Prop where
  count : l.length = n
  sees : Sees w w.heap.size 5 A n (flat encT l)
  room : n ≤ cap
  top : cap ≤ 9223372036854775807
  nil : A = none → cap = 0
theorem IsT.call {w w' : World} {A : Option Addr} {n cap : Nat} {l : List Tk} (h : IsT w A n cap l) (hb : Below w.heap.size w w') : IsT w' A n cap l :=
  ⟨h.count, (h.sees.below hb).more hb.size, h.room, h.top, h.nil⟩
theorem encT_one (l : List Tk) : ∀ u ∈ flat encT l, u.oneCell' = true := by
  intro u hu
  unfold flat at hu
  obtain ⟨v, -, hv⟩ := List.mem_flatMap.1 hu
  unfold encT at hv
  simp at hv
  rcases hv with rfl | rfl | rfl | rfl | rfl <;> rfl
theorem info_taken : (Try.prog.info? 77).map (fun i => (i.zero, i.size, i.bytes)) = some (some (.agg #[.int .i64 0, .bool false, .int .i64 0, .int .i64 0, .int .i64 0]), 5, 40) := by kernel_rfl
theorem own_emptyAt (w : World) (e : TypeId) (size g : Nat) (hg : g = w.heap.size) : (w.alloc (.cells #[] e)).ownsRow g e size (.slice (some ⟨g, 0, none⟩) 0 0) 0 [] := by
  subst hg
  exact own_empty w e size
theorem own_block_ge {w : World} {B size n k : Nat} {e : TypeId} {v : Value} {xs : List Value} (h : w.ownsRow B e size v n xs) (hk : v.ownBlock = some k) : B ≤ k := by
  rcases h.2 with ⟨rfl, _⟩ | ⟨g, cap, cur, rfl, hb, _⟩
  · simp [Value.ownBlock] at hk
  · have : g = k := by simpa [Value.ownBlock] using hk
    omega
theorem own_away {w : World} {B size n : Nat} {e : TypeId} {v : Value} {xs : List Value} (h : w.ownsRow B e size v n xs) {p : Addr} (hp : p.block < B) (u : Value) : (w.setCell p u).ownsRow B e size v n xs := by
  refine ⟨h.1, ?_⟩
  rcases h.2 with hn | ⟨g, cap, cur, rfl, hb, hg, r⟩
  · exact .inl hn
  · exact .inr ⟨g, cap, cur, rfl, hb, (Below.heap_setCell w p u g (by omega)).trans hg, r⟩
theorem own_low {w : World} {B size n c m : Nat} {e : TypeId} {A : Option Addr} {xs : List Value} {p : Addr} (h : w.ownsRow B e size (.slice A n c) n xs) (hp : A = some p) (hm : m ≤ B) : m ≤ p.block := by
  subst hp
  rcases h.2 with ⟨hn, -⟩ | ⟨g, cap, cur, e1, hb, -⟩
  · cases hn
  · injection e1 with e1 e2 e3
    injection e1 with e1
    subst e1
    exact Nat.le_trans hm hb
theorem sees_item (w : World) (g : Nat) (hg : g = w.heap.size) (t : TypeId) (v : Tk) : Sees (w.alloc (.cells #[.int .i64 v.h, .bool v.s, .int .i64 v.t, .int .i64 v.e, .int .i64 v.f] t)) (g + 1) 5 (some ⟨g, 0, none⟩) 1 (encT v) := by
  subst hg
  refine ⟨rfl, fun _ => ⟨w.heap.size, 0, rfl, by omega, fun j u hu => ?_⟩⟩
  rw [Nat.zero_add, (Whole.fresh w t _).cell j, ← Array.getElem?_toList]
  exact hu
theorem isT_of_own {w : World} {B n : Nat} {A : Option Addr} {c : Nat} {l : List Tk} (h : w.ownsRow B 77 5 (.slice A n c) n (flat encT l)) (hl : l.length = n) : IsT w A n c l := by
  obtain ⟨a, c', e, h1, h2, h3⟩ := own_slice0 h
  injection e with e1 e2 e3
  subst e1 e3
  exact ⟨hl, Sees.own h, h1, h2, h3⟩

theorem St.callB {W w w' : World} {L : List Row} {B : Nat} (h : St W w L) (hb : Below B w w') (hB : W.heap.size ≤ B) (hr : ∀ r ∈ L, r.1 < B) : St W w' L :=
  ⟨h.below.trans (hb.mono hB), fun r hr' => (h.knows r hr').below hb (hr r hr')⟩
theorem rset_end {w W : World} {x : Nat} {A : Option Addr} {n cap : Nat} {l : List Tk} {c c' : Ck} {k : Int} (hT : IsT w A n cap l) (hI : Is6 c l) (hc : c' = c) (hb : Below w.heap.size w W) :
    ∃ (A' : Option Addr) (n' cap' : Nat) (l' : List Tk), (Ending.returned (.tuple #[.agg #[.float .f64 x, .slice A n cap], .int .i64 k])) = .returned (.tuple #[.agg #[.float .f64 x, .slice A' n' cap'], .int .i64 k]) ∧ Below w.heap.size w W ∧ IsT W A' n' cap' l' ∧ Is6 c' l' ∧ l'.length ≤ l.length + 1 ∧ (∀ p, A' = some p → A' = A ∨ w.heap.size ≤ p.block) :=
  ⟨A, n, cap, l, rfl, hb, hT.call hb, by rw [hc]; exact hI, by omega, fun _ _ => .inl rfl⟩
theorem kinds (c : Ck) (l : List Tk) (hi : Is6 c l) : (l = [] ∧ c.last = 0) ∨ (∃ k v, l.length = k + 1 ∧ l[k]? = some v ∧ v.h = c.last) := by
  rcases hi.last with h | ⟨v, h1, h2, h3⟩
  · exact .inl h
  · refine .inr ⟨l.length - 1, v, by omega, h1, h3⟩

set_option maxHeartbeats 8000000 in
theorem rset_any (x : Nat) (c : Ck) (o : Ok c) (l : List Tk) (hi : Is6 c l) (A : Option Addr) (n cap : Nat) (w : World) (hT : IsT w A n cap l) (hl : l.length ≤ 1000) (h t e : Int) (hh : R64 h) (ht : R64 t) (he : R64 e) :
    Calls Try.prog 13 #[.agg #[.float .f64 x, .slice A n cap], .int .i64 h, .int .i64 t, .int .i64 e] w fun r w' =>
      ∃ (A' : Option Addr) (n' cap' : Nat) (l' : List Tk), r = .returned (.tuple #[.agg #[.float .f64 x, .slice A' n' cap'], .int .i64 (c.setE h t e)]) ∧ Below w.heap.size w w' ∧ IsT w' A' n' cap' l' ∧ Is6 (c.set h t e) l' ∧ l'.length ≤ l.length + 1 ∧ (∀ p, A' = some p → A' = A ∨ w.heap.size ≤ p.block) := by
  have HA := Lib.hid (fun w0 => rtime_any h w0)
  have HB := Lib.hid (fun w0 => rtime_any t w0)
  have HE := Lib.hid (fun w0 => rtime_any e w0)
  have H := Lib.hid (((St.start w).alloc w.heap.size rfl 32 #[.float .f64 x, .slice A n cap]).alloc (w.heap.size + 1) (by simp) 32 #[.float .f64 0, .slice none 0 0])
  obtain ⟨c0, c1, d0, d1, z0⟩ := H.out.two 1 w.heap.size rfl
  obtain ⟨p0, p1, q0, q1, y0⟩ := H.out.two 0 (w.heap.size + 1) rfl
  have HT := Lib.hid hT
  have HI := Lib.hid hi
  rcases set_cases c h t e with ⟨E0, a, b, d, h1, h2, h3, h4, E⟩ | ⟨E0, a, b, d, h4, E⟩ | ⟨E0, a, b, d, E⟩ | ⟨E0, a, b, E⟩ | ⟨E0, a, E⟩
  case' inr.inr.inr.inr =>
    rw [E0]
    have HN := Lib.hid E
    rw [a] at HA
    clear E0 a E hh ht he hi o hT
    go_enter Try.func13, Try.ntmps13
    go_wp2_with fail
    refine (HA.out _).mono ?_
    rintro r w1 ⟨rfl, e1⟩
    subst w1
    go_wp2_with fail
    refine bodyPost_ret (by simp [results, Try.results13, go_sem, p0, p1, q0, q1, y0]; try rfl) rfl ?_
    refine rset_end HT.out HI.out HN.out ?_
    have hb := H.out.below
    go_grown
  case' inr.inr.inr.inl =>
    rw [E0]
    have HN := Lib.hid E
    rw [a] at HA
    rw [b] at HB
    clear E0 a b E hh ht he hi o hT
    go_enter Try.func13, Try.ntmps13
    go_wp2_with fail
    refine (HA.out _).mono ?_
    rintro r w1 ⟨rfl, e1⟩
    subst w1
    go_wp2_with fail
    refine (HB.out _).mono ?_
    rintro r w1 ⟨rfl, e1⟩
    subst w1
    go_wp2_with fail
    refine bodyPost_ret (by simp [results, Try.results13, go_sem, p0, p1, q0, q1, y0]; try rfl) rfl ?_
    refine rset_end HT.out HI.out HN.out ?_
    have hb := H.out.below
    go_grown
  case' inr.inr.inl =>
    rw [E0]
    have HN := Lib.hid E
    rw [a] at HA
    rw [b] at HB
    rw [d] at HE
    clear E0 a b d E hh ht he hi o hT
    go_enter Try.func13, Try.ntmps13
    go_wp2_with fail
    refine (HA.out _).mono ?_
    rintro r w1 ⟨rfl, e1⟩
    subst w1
    go_wp2_with fail
    refine (HB.out _).mono ?_
    rintro r w1 ⟨rfl, e1⟩
    subst w1
    go_wp2_with fail
    refine (HE.out _).mono ?_
    rintro r w1 ⟨rfl, e1⟩
    subst w1
    go_wp2_with fail
    refine bodyPost_ret (by simp [results, Try.results13, go_sem, p0, p1, q0, q1, y0]; try rfl) rfl ?_
    refine rset_end HT.out HI.out HN.out ?_
    have hb := H.out.below
    go_grown
  case' inr.inl =>
    rw [E0]
    have HN := Lib.hid E
    rw [a] at HA
    rw [b] at HB
    rw [d] at HE
    have hks : ∃ k v, l.length = k + 1 ∧ l[k]? = some v ∧ v.h = c.last := by
      rcases kinds c l hi with ⟨-, e0⟩ | h0
      · have := (isT_iff h).1 a; omega
      · exact h0
    obtain ⟨k, v, hk, hv, hvl⟩ := hks
    obtain rfl : n = k + 1 := by rw [← hT.count]; exact hk
    obtain ⟨b0, off, rfl, hb0, hcc⟩ := hT.sees.item encT_len (by omega) k v hv
    have g0 := hcc 0 _ rfl
    rw [Nat.add_zero] at g0
    rw [hvl] at g0
    have HG : Hid (∀ w0, Below w.heap.size w w0 → w0.cell? ⟨b0, off + k * 5, none⟩ = some (.int .i64 c.last)) := Lib.hid (fun w0 hw0 => by rw [hw0.cell hb0]; exact g0)
    have k1 : (0 : Int) < ((k + 1 : Nat) : Int) := by omega
    have k3 : (k : Int) ≤ 1000 := by omega
    have k4 : k ≤ 1000 := by omega
    have k2 : ((k + 1 : Nat) : Int) - 1 = (k : Int) := by omega
    clear E0 a b d E hh ht he hi o hT hcc hv hvl hk
    go_enter Try.func13, Try.ntmps13
    go_wp2_with fail
    refine (HA.out _).mono ?_
    rintro r w1 ⟨rfl, e1⟩
    subst w1
    go_wp2_with fail
    refine (HB.out _).mono ?_
    rintro r w1 ⟨rfl, e1⟩
    subst w1
    go_wp2_with fail
    refine (HE.out _).mono ?_
    rintro r w1 ⟨rfl, e1⟩
    subst w1
    go_wp2_with fail
    refine bodyPost_ret (by simp [results, Try.results13, go_sem, p0, p1, q0, q1, y0]; try rfl) rfl ?_
    refine rset_end HT.out HI.out HN.out ?_
    have hb := H.out.below
    go_grown
  case' inl =>
    rw [E0]
    rw [a] at HA
    rw [b] at HB
    rw [d] at HE
    have HIS := Lib.hid (hi.set o h t e E0 hh ht he)
    rcases kinds c l hi with ⟨hl0, e0⟩ | hks
    · subst hl0
      obtain rfl : n = 0 := hT.count.symm.trans rfl
      have hnl := hT.count
      clear hT E0 a b d E hh ht he hi o
      go_enter Try.func13, Try.ntmps13
      go_wp2_with fail
      refine (HA.out _).mono ?_
      rintro r w1 ⟨rfl, e1⟩
      subst w1
      go_wp2_with fail
      refine (HB.out _).mono ?_
      rintro r w1 ⟨rfl, e1⟩
      subst w1
      go_wp2_with fail
      refine (HE.out _).mono ?_
      rintro r w1 ⟨rfl, e1⟩
      subst w1
      go_wp2_with (at_builtin; refine wpList_appG rfl (.tmp 42) (.tmp 44) _ 77 _ 5 40 rfl info_taken Try.underlying30 rfl (by decide) (w.heap.size + 1 + 1) _ 0 [] rfl (own_emptyAt _ 77 5 _ (by simp)) w.heap.size _ _ cap (flat encT []) rfl (((HT.out.sees.alloc (Nat.le_refl _) _).alloc (by simp) _).alloc (by simp; omega) _) HT.out.nil (encT_one []) (by omega) (by omega) (by simp) ?_)
      intro v1 y1 ho1 hg1
      try rw [Nat.zero_add] at ho1
      try rw [List.nil_append] at ho1
      have hb1 : Below (w.heap.size + 1 + 1) ((w.alloc (.cells #[.float .f64 x, .slice A 0 cap] 32)).alloc (.cells #[.float .f64 0, .slice none 0 0] 32)) y1 := ((Below.refl _ _).alloc (by simp) _).grown hg1 (by simp) (fun k hk => by
        have : some (w.heap.size + 1 + 1) = some k := hk
        injection this with this
        omega)
      have H1 := Lib.hid (H.out.callB hb1 (by omega) (by intro r hr; simp at hr; rcases hr with rfl | rfl <;> (show _ < _; simp <;> omega)))
      have hy1 : w.heap.size + 1 + 1 ≤ y1.heap.size := by have := hb1.size; simpa using this
      have HO1 := Lib.hid ho1
      obtain ⟨A1, cp1, rfl, -, -, -⟩ := own_slice0 ho1
      clear ho1 hg1 hb1 c0 c1 d0 d1 z0 p0 p1 q0 q1 y0
      obtain ⟨c0, c1, d0, d1, z0⟩ := H1.out.two 1 w.heap.size rfl
      obtain ⟨p0, p1, q0, q1, y0⟩ := H1.out.two 0 (w.heap.size + 1) rfl
      go_wp2_with (at_builtin; refine wpList_appG rfl (.tmp 45) (.tmp 50) _ 77 _ 5 40 rfl info_taken Try.underlying30 rfl (by decide) (w.heap.size + 1 + 1) _ _ (flat encT []) rfl (HO1.out.alloc _) (y1.heap.size + 1) (some ⟨y1.heap.size, 0, none⟩) 1 1 (encT ⟨h, true, t, e, 0⟩) rfl (sees_item y1 _ rfl 77 ⟨h, true, t, e, 0⟩) (fun h => by cases h) (by intro u hu; exact encT_one [⟨h, true, t, e, 0⟩] u (by rw [flat_one]; exact hu)) (by omega) (by omega) (by simp; omega) ?_)
      intro v2 y2 ho2 hg2
      rw [← flat_one (enc := encT), ← flat_append] at ho2
      have hb2 : Below (w.heap.size + 1 + 1) y1 y2 := ((Below.refl _ _).alloc hy1 _).grown hg2 (by simp; omega) (fun k hk => own_block_ge HO1.out hk)
      have H2 := Lib.hid (H1.out.callB hb2 (by omega) (by intro r hr; simp at hr; rcases hr with rfl | rfl <;> (show _ < _; simp <;> omega)))
      have HO2 := Lib.hid ho2
      obtain ⟨A2, cp2, rfl, -, -, -⟩ := own_slice0 ho2
      clear ho2 hg2 hb2 c0 c1 d0 d1 z0 p0 p1 q0 q1 y0 H H1 HO1
      obtain ⟨c0, c1, d0, d1, z0⟩ := H2.out.two 1 w.heap.size rfl
      obtain ⟨p0, p1, q0, q1, y0⟩ := H2.out.two 0 (w.heap.size + 1) rfl
      go_wp2_with fail
      refine bodyPost_ret (by simp [results, Try.results13, go_sem, p0, p1, q0, q1, y0]; try rfl) rfl ?_
      refine ⟨A2, _, cp2, _, rfl, ?_, isT_of_own (own_away (own_away (own_away HO2.out (by show w.heap.size < _; omega) _) (by show w.heap.size + 1 < _; omega) _) (by show w.heap.size + 1 < _; omega) _) (by simp; try omega), HIS.out, by simp, fun p hp => .inr (own_low HO2.out hp (by omega))⟩
      have hb := H2.out.below
      go_grown
    · skip
      obtain ⟨k, v, hk, hv, hvl⟩ := hks
      obtain rfl : n = k + 1 := by rw [← hT.count]; exact hk
      obtain ⟨b0, off, rfl, hb0, hcc⟩ := hT.sees.item encT_len (by omega) k v hv
      have g0 := hcc 0 _ rfl
      rw [Nat.add_zero] at g0
      rw [hvl] at g0
      have HG : Hid (∀ w0, Below w.heap.size w w0 → w0.cell? ⟨b0, off + k * 5, none⟩ = some (.int .i64 c.last)) := Lib.hid (fun w0 hw0 => by rw [hw0.cell hb0]; exact g0)
      have k1 : (0 : Int) < ((k + 1 : Nat) : Int) := by omega
      have k3 : (k : Int) ≤ 1000 := by omega
      have k4 : k ≤ 1000 := by omega
      have k2 : ((k + 1 : Nat) : Int) - 1 = (k : Int) := by omega
      have k5 : c.last ≤ h := h4
      have hk9 := hk
      clear hcc hv hvl hT E0 a b d E hh ht he hi o
      go_enter Try.func13, Try.ntmps13
      go_wp2_with fail
      refine (HA.out _).mono ?_
      rintro r w1 ⟨rfl, e1⟩
      subst w1
      go_wp2_with fail
      refine (HB.out _).mono ?_
      rintro r w1 ⟨rfl, e1⟩
      subst w1
      go_wp2_with fail
      refine (HE.out _).mono ?_
      rintro r w1 ⟨rfl, e1⟩
      subst w1
      go_wp2_with (at_builtin; refine wpList_appG rfl (.tmp 42) (.tmp 44) _ 77 _ 5 40 rfl info_taken Try.underlying30 rfl (by decide) (w.heap.size + 1 + 1) _ 0 [] rfl (own_emptyAt _ 77 5 _ (by simp)) w.heap.size _ _ cap (flat encT l) rfl (((HT.out.sees.alloc (Nat.le_refl _) _).alloc (by simp) _).alloc (by simp; omega) _) HT.out.nil (encT_one l) (by omega) (by omega) (by simp) ?_)
      intro v1 y1 ho1 hg1
      try rw [Nat.zero_add] at ho1
      try rw [List.nil_append] at ho1
      have hb1 : Below (w.heap.size + 1 + 1) ((w.alloc (.cells #[.float .f64 x, .slice (some ⟨b0, off, none⟩) (k + 1) cap] 32)).alloc (.cells #[.float .f64 0, .slice none 0 0] 32)) y1 := ((Below.refl _ _).alloc (by simp) _).grown hg1 (by simp) (fun k hk => by
        have : some (w.heap.size + 1 + 1) = some k := hk
        injection this with this
        omega)
      have H1 := Lib.hid (H.out.callB hb1 (by omega) (by intro r hr; simp at hr; rcases hr with rfl | rfl <;> (show _ < _; simp <;> omega)))
      have hy1 : w.heap.size + 1 + 1 ≤ y1.heap.size := by have := hb1.size; simpa using this
      have HO1 := Lib.hid ho1
      obtain ⟨A1, cp1, rfl, -, -, -⟩ := own_slice0 ho1
      clear ho1 hg1 hb1 c0 c1 d0 d1 z0 p0 p1 q0 q1 y0
      obtain ⟨c0, c1, d0, d1, z0⟩ := H1.out.two 1 w.heap.size rfl
      obtain ⟨p0, p1, q0, q1, y0⟩ := H1.out.two 0 (w.heap.size + 1) rfl
      go_wp2_with (at_builtin; refine wpList_appG rfl (.tmp 45) (.tmp 50) _ 77 _ 5 40 rfl info_taken Try.underlying30 rfl (by decide) (w.heap.size + 1 + 1) _ _ (flat encT l) rfl (HO1.out.alloc _) (y1.heap.size + 1) (some ⟨y1.heap.size, 0, none⟩) 1 1 (encT ⟨h, true, t, e, 0⟩) rfl (sees_item y1 _ rfl 77 ⟨h, true, t, e, 0⟩) (fun h => by cases h) (by intro u hu; exact encT_one [⟨h, true, t, e, 0⟩] u (by rw [flat_one]; exact hu)) (by omega) (by omega) (by simp; omega) ?_)
      intro v2 y2 ho2 hg2
      rw [← flat_one (enc := encT), ← flat_append] at ho2
      have hb2 : Below (w.heap.size + 1 + 1) y1 y2 := ((Below.refl _ _).alloc hy1 _).grown hg2 (by simp; omega) (fun k hk => own_block_ge HO1.out hk)
      have H2 := Lib.hid (H1.out.callB hb2 (by omega) (by intro r hr; simp at hr; rcases hr with rfl | rfl <;> (show _ < _; simp <;> omega)))
      have HO2 := Lib.hid ho2
      obtain ⟨A2, cp2, rfl, -, -, -⟩ := own_slice0 ho2
      clear ho2 hg2 hb2 c0 c1 d0 d1 z0 p0 p1 q0 q1 y0 H H1 HO1
      obtain ⟨c0, c1, d0, d1, z0⟩ := H2.out.two 1 w.heap.size rfl
      obtain ⟨p0, p1, q0, q1, y0⟩ := H2.out.two 0 (w.heap.size + 1) rfl
      go_wp2_with fail
      refine bodyPost_ret (by simp [results, Try.results13, go_sem, p0, p1, q0, q1, y0]; try rfl) rfl ?_
      refine ⟨A2, _, cp2, _, rfl, ?_, isT_of_own (own_away (own_away (own_away HO2.out (by show w.heap.size < _; omega) _) (by show w.heap.size + 1 < _; omega) _) (by show w.heap.size + 1 < _; omega) _) (by simp; try omega), HIS.out, by simp, fun p hp => .inr (own_low HO2.out hp (by omega))⟩
      have hb := H2.out.below
      go_grown
end Go.Proofs.Ytpnojhcjaneleaa
