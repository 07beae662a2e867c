/- awake, bytes at layer 8; a text more behind a list, beside a disk. -/
import Derived.Test.YtlfigbgcackimaaWalV
namespace Go.Wl
open Go.Dk Go.Fm
set_option linter.unusedVariables false
/-- What the chapter's example comes to. -/
theorem awake_facts : ∃ d1 d2 d3 : D, Runs (D.new 1) 0 ⟨[], 0⟩ ∧ opens (D.new 1) 0 = (D.new 1, 0) ∧ (scan ((D.new 1).of 0).all).1 = [] ∧
    ((⟨[], 0⟩ : Wk).wv 0).append (D.new 1) [97] = (d1, (⟨[[97]], 0⟩ : Wk).wv 0, 0) ∧ ((⟨[[97]], 0⟩ : Wk).wv 0).sync d1 = (d2, (⟨[[97]], 1⟩ : Wk).wv 0, 0) ∧ ((⟨[[97]], 1⟩ : Wk).wv 0).append d2 [98, 98] = (d3, (⟨[[97], [98, 98]], 1⟩ : Wk).wv 0, 0) ∧
    d1.acts = 1 ∧ d2.acts = 2 ∧ d3.acts = 3 ∧ (d3.crash [9]).up.acts = 3 ∧ (opens (d3.crash [9]).up 0).2 = 0 ∧ (scan ((d3.crash [9]).up.of 0).all).1 = [[97]] ∧ ((opens (d3.crash [9]).up 0).1.of 0).sure = 9 := by
  obtain ⟨r0, e0, s0⟩ := new_runs 1 (by omega) (by omega) 0 (by omega)
  obtain ⟨d1, e1, r1, p1, -⟩ := r0.append (b := [97]) (by decide) (by decide) (by decide)
  obtain ⟨d2, e2, r2, p2, -⟩ := r1.sync (by rw [p1.ahead]; decide)
  have q2 := p1.trans p2
  obtain ⟨d3, e3, r3, p3, -⟩ := r2.append (b := [98, 98]) (by decide) (by decide) (by rw [q2.ahead]; decide)
  have q3 := q2.trans p3
  obtain ⟨j, h1, h2, h3, h4, h5, h6, h7⟩ := lost_at r3 [9]
  have hk : (d3.of 0).kept (List.getD [9] (Int.toNat 0) 0) = 18 := by
    unfold Lg.kept
    rw [r3.fits.all, r3.fits.sure]
    decide
  rw [hk] at h3 h4
  have hj : j = 1 := by
    have a2 : j ≤ 2 := h1
    have b2 : 1 ≤ j := h2
    rcases Nat.lt_or_ge j 2 with h | h
    · omega
    · obtain rfl : j = 2 := by omega
      exact absurd h3 (by decide)
  subst hj
  refine ⟨d1, d2, d3, r0, e0, s0, e1, e2, e3, p1.acts, q2.acts, q3.acts, ?_, h6, h5, ?_⟩
  · have : (d3.crash [9]).up.acts = d3.acts := by
      unfold D.crash; split <;> rfl
    rw [this]; exact q3.acts
  · rw [h7.fits.sure]; decide
/-- Texts, cut. -/
def cuts (ls : List (List UInt8)) : List (List UInt8) := ls.map (·.take 1000)
theorem cuts_length (ls : List (List UInt8)) : (cuts ls).length = ls.length := by simp [cuts]
theorem cuts_snoc (ls : List (List UInt8)) (k : Nat) (l : List UInt8) (h : ls[k]? = some l) : cuts (ls.take (k + 1)) = cuts (ls.take k) ++ [l.take 1000] := by
  unfold cuts
  rw [List.take_add_one, h, List.map_append]; rfl
theorem cuts_at (ls : List (List UInt8)) (k : Nat) (l : List UInt8) (h : ls[k]? = some l) : (cuts (ls.take k) ++ [l.take 1000])[k]? = some (l.take 1000) := by
  have hk := (List.getElem?_eq_some_iff.1 h).1
  rw [List.getElem?_append_right (by rw [cuts_length, List.length_take]; omega), cuts_length, List.length_take, Nat.min_eq_left (by omega), Nat.sub_self]; rfl
theorem cuts_short (ls : List (List UInt8)) : ∀ l ∈ cuts ls, l.length ≤ 1000 := fun l hl => by
  unfold cuts at hl
  obtain ⟨x, -, rfl⟩ := List.mem_map.1 hl
  rw [List.length_take]; omega
theorem frames_short (ls : List (List UInt8)) (h : ∀ l ∈ ls, l.length ≤ 1000) : (frames ls).length ≤ ls.length * 1008 := by
  induction ls with
  | nil => simp [frames]
  | cons l ls ih =>
    rw [frames_cons, List.length_append, frame_length, List.length_cons]
    have h1 := h l (List.mem_cons_self ..)
    have h2 := ih fun x hx => h x (List.mem_cons_of_mem _ hx)
    omega
theorem low_short {ls : List (List UInt8)} (h : ∀ l ∈ ls, l.length ≤ 1000) : Low ls := fun l hl => by have := h l hl; omega
/-- The power is armed. -/
theorem Runs.arm {d : D} {log : Int} {k : Wk} (h : Runs d log k) {n : Int} (hn : W64 n) {keep : List Int} (hk : ∀ m ∈ keep, W64 m) : Runs (d.arm n keep) log k ∧ (d.arm n keep).acts = d.acts ∧ (n < 1 → (d.arm n keep).ahead = 0) ∧ (¬ n < 1 → (d.arm n keep).ahead = n.toNat) := by
  have ho := h.ok.arm hn hk
  have hl : (d.arm n keep).logs = d.logs := by unfold D.arm; split <;> rfl
  have hd : (d.arm n keep).down = d.down := by unfold D.arm; split <;> rfl
  have hof : (d.arm n keep).of log = d.of log := by unfold D.of; rw [hl]
  refine ⟨⟨ho, ⟨by rw [hl]; exact h.fits.is, by rw [hof]; exact h.fits.all, by rw [hof]; exact h.fits.sure, h.fits.low, h.fits.le⟩, by rw [hd]; exact h.down⟩, ?_, fun h1 => ?_, fun h1 => ?_⟩
  · unfold D.arm; split <;> rfl
  · unfold D.arm; rw [if_pos h1]; rfl
  · unfold D.arm; rw [if_neg h1]
theorem lost_crash {d : D} (h : d.down = false) (k k2 : List Int) : ((d.lose k).crash k2).up = (d.crash k).up := by
  have e1 : (d.lose k).crash k2 = d.lose k := by unfold D.crash; exact if_pos rfl
  have e2 : d.crash k = d.lose k := by unfold D.crash; rw [if_neg (by simp [h])]
  rw [e1, e2]
theorem crash_acts (d : D) (k : List Int) : (d.crash k).up.acts = d.acts := by unfold D.crash; split <;> rfl
/-- What was all sure is all there. -/
theorem lost_all {d : D} {log : Int} {ls : List (List UInt8)} (h : Runs d log ⟨ls, ls.length⟩) (keep : List Int) :
    (scan ((d.crash keep).up.of log).all).1 = ls ∧ (opens (d.crash keep).up log).2 = 0 := by
  obtain ⟨j, h1, h2, h3, h4, h5, h6, h7⟩ := lost_at h keep
  simp only at h1 h2 h5
  obtain rfl : j = ls.length := by omega
  rw [List.take_length] at h5
  exact ⟨h5, h6⟩
theorem dead_append (v : Wv) (d : D) (b : List UInt8) (h : v.dead = true) : v.append d b = (d, v, 81) := by unfold Wv.append; rw [if_pos h]
theorem dead_sync (v : Wv) (d : D) (h : v.dead = true) : v.sync d = (d, v, 81) := by unfold Wv.sync; rw [if_pos h]
theorem dead_fresh (v : Wv) (d : D) (ls : List (List UInt8)) (h : v.dead = true) : v.fresh d ls = (d, v, 81) := by unfold Wv.fresh; rw [if_pos h]
end Go.Wl
namespace Go.Proofs.Ytlfigbgcackimaa
open Go.RowKit Go.Fm Go.Dk Go.Wl
set_option linter.unusedVariables false
set_option linter.unusedSimpArgs false
set_option maxRecDepth 100000

@[go_sem] theorem field_text (a b : Int) (s : ByteArray) (A : Option Addr) (n c : Nat) (w : World) : (Instr.field 44 (.agg #[.int .i64 a, .int .i64 b, .string s, .slice A n c]) 2).run Try.prog w = .ok (.string s) w := by rfl
/-- A load that was told, as a text. -/
theorem Told.at {R : List Row} {h : Nat} {ls : List (List UInt8)} (t : Told R h ls) {w : World} (hk : Knows w R) (k : Nat) (l : List UInt8) (hl : ls[k]? = some l) :
    ∃ a c, w.cell? ⟨h, k, none⟩ = some (.slice a l.length c) ∧ Sees w w.heap.size 1 a l.length (Lib.byteCells l) := by
  obtain ⟨b, off, e, hb, hat⟩ := t.shows w hk (by have := (List.getElem?_eq_some_iff.1 hl).1; omega)
  injection e with e
  injection e with e1 e2
  subst e1 e2
  obtain ⟨a, c, h1, -, -, h4⟩ := hat k l hl
  rw [Nat.zero_add] at h1
  exact ⟨a, c, h1, h4⟩

set_option maxHeartbeats 4000000 in
theorem awake_any (w : World) : Calls Try.prog 11 #[] w fun e w' => e = .returned (.bool true) ∧ Below w.heap.size w w' := by
  obtain ⟨d1, d2, d3, r0, e0, s0, e1, e2, e3, a1, a2, a3, a4, h4, s4, u4⟩ := awake_facts
  have a0 : (D.new 1).acts = 0 := rfl
  have E1 := Lib.hid e1
  have E2 := Lib.hid e2
  have E3 := Lib.hid e3
  have A0 := Lib.hid a0
  have A1 := Lib.hid a1
  have A2 := Lib.hid a2
  have A3 := Lib.hid a3
  have A4 := Lib.hid a4
  have E0 := Lib.hid e0
  have S0 := Lib.hid s0
  have H4 := Lib.hid h4
  have S4 := Lib.hid s4
  have U4 := Lib.hid u4
  have HNEW := Lib.hid (fun (w : World) => new_lw (St.start w) 1 (by omega) (by omega))
  clear e1 e2 e3 a0 a1 a2 a3 a4 e0 s0 h4 s4 u4 r0
  generalize D.new 1 = d0 at *
  have kc := fun (w : World) (C : Array Value) (n c : Nat) => Lib.run_convert_bytes_const (P := Try.prog) w 52 5 C n c Try.underlying52 Try.underlying5
  go_enter Try.func11, Try.ntmps11
  go_wp2_with fail
  refine (HNEW.out _).mono ?_
  rintro e w1 ⟨g, rfl, hl⟩
  have H : Hid (Lw w w1 [] g d0) := Lib.hid hl
  clear hl HNEW
  go_wp2_with fail
  refine (H.out.wopen (w64 0 (by omega)) (by rw [A0.out]; omega) (by rw [E0.out])).mono ?_
  rintro e w2 ⟨p, h, R, rfl, hl, hp, hd, -, -⟩
  rw [S0.out, E0.out] at hl
  rw [S0.out]
  simp only [List.length_nil] at hl ⊢
  have HP : Hid (w.heap.size ≤ p) := Lib.hid (Nat.le_trans H.out.st.below.size hp)
  replace H : Hid (Lw w w2 [wrow p g ((⟨[], 0⟩ : Wk).wv 0)] g d0) := Lib.hid (hl.few (fun r hr => by rw [List.mem_singleton.1 hr]; exact List.mem_cons_self ..))
  clear hl hp hd
  have HD : Hid (∀ r ∈ ([] : List Row), r.1 ≠ p) := Lib.hid fun r hr => by cases hr
  go_wp2_with fail
  refine ((H.out.other _).wappend HP.out HD.out (w64 0 (by omega)) (by rw [A0.out]; omega) (by decide) (inB_mark w2 [97] (1, 2) (by decide))).mono ?_
  rintro e w3 ⟨rfl, hl⟩
  rw [E1.out] at hl ⊢
  replace H := Lib.hid hl
  clear hl
  go_wp2_with fail
  refine (H.out.wsync HP.out HD.out (w64 0 (by omega)) (by simp only [A1.out]; omega)).mono ?_
  rintro e w4 ⟨rfl, hl⟩
  rw [E2.out] at hl ⊢
  replace H := Lib.hid hl
  clear hl
  go_wp2_with fail
  refine ((H.out.other _).wappend HP.out HD.out (w64 0 (by omega)) (by simp only [A2.out]; omega) (by decide) (inB_mark w4 [98, 98] (2, 3) (by decide))).mono ?_
  rintro e w5 ⟨rfl, hl⟩
  rw [E3.out] at hl ⊢
  replace H := Lib.hid hl
  clear hl
  go_wp2_with fail
  refine H.out.wlen.mono ?_
  rintro e x ⟨rfl, ex⟩
  subst x
  go_wp2_with fail
  refine H.out.wsure.mono ?_
  rintro e x ⟨rfl, ex⟩
  subst x
  go_wp2_with fail
  have hk := H.out.alloc w5.heap.size rfl 3 #[.int .i64 9]
  refine (hk.crash (inI_known (fr := ()) hk (l := [9]) (List.mem_cons_self ..) (by decide) (fun n hn => by rw [List.mem_singleton.1 hn]; exact w64 9 (by omega)))).mono ?_
  rintro e w6 ⟨rfl, hl⟩
  clear hk
  replace H := Lib.hid (hl.few (L' := []) (fun r hr => by cases hr))
  clear hl
  go_wp2_with fail
  refine H.out.up.mono ?_
  rintro e w7 ⟨rfl, hl⟩
  replace H := Lib.hid hl
  clear hl
  go_wp2_with fail
  refine (H.out.wopen (w64 0 (by omega)) (by rw [A4.out]; omega) H4.out).mono ?_
  rintro e w8 ⟨p2, h2, R2, rfl, hl, -, -, -, ht⟩
  rw [S4.out] at hl ht ⊢
  obtain ⟨b0, c0, k1, k2⟩ := ht.at (fun r hr => hl.knows r (by simp [hr])) 0 [97] rfl
  simp only [List.length_cons, List.length_nil, Nat.zero_add] at k1 hl ⊢
  have k3 := conv_bytes [97] b0 c0 _ w8 k2
  simp only [List.length_cons, List.length_nil, Nat.zero_add] at k3
  replace H := Lib.hid hl
  clear hl ht k2
  go_wp2_with fail
  refine (H.out.sure (w64 0 (by omega))).mono ?_
  rintro e w9 ⟨rfl, hb⟩
  rw [U4.out]
  replace H := Lib.hid (H.out.call hb)
  clear hb
  go_wp2_with fail
  go_ret
  exact ⟨rfl, H.out.st.below⟩

/-- A list of texts of the call's own, in blocks R. -/
def OwnT (R : List Row) (B : Nat) (v : Value) (ls : List (List UInt8)) : Prop := OwnR R B 9 1 v ls.length (strs ls)
/-- append(v, s) beside a disk: one text more. -/
theorem wpList_appX {ops : Array Oper} {rest : List Oper} {o : Oper} {a : Act} {Q : Exit → Act → World → Prop} {W w : World} {P R L : List Row} {g : Nat} {d : D} (hgd : o.guard = none) (s x : Operand)
    (ho : o.op = .call { callee := .builtin .append, args := #[s, x], argTypes := #[35, 35] })
    (B : Nat) (v : Value) (ls : List (List UInt8)) (hs : a.eval s = v) (h : Lx W w (P ++ (R ++ L)) g d) (hown : OwnT R B v ls) (hB : W.heap.size ≤ B) (hBw : B ≤ w.heap.size)
    (l : List UInt8) (b : Nat) (hx : a.eval x = .slice (some ⟨b, 0, none⟩) 1 1) (hb : b = w.heap.size) (hlen : ls.length + 1 ≤ 1000000000)
    (hc : ∀ A c w' R', OwnT R' B (.slice A (ls.length + 1) c) (ls ++ [l]) → ls.length + 1 ≤ c → c ≤ 9223372036854775807 → Lx W w' (P ++ (R' ++ L)) g d → w.heap.size ≤ w'.heap.size → wpList Try.prog ops Q rest (a.put o.dst (.slice A (ls.length + 1) c)) w') :
    wpList Try.prog ops Q (o :: rest) a (w.alloc (.cells #[.string (txt l)] 9)) := by
  subst hb
  have hse : Sees (w.alloc (.cells #[.string (txt l)] 9)) (w.heap.size + 1) 1 (some ⟨w.heap.size, 0, none⟩) 1 (strs [l]) := by
    refine ⟨rfl, fun _ => ⟨w.heap.size, 0, rfl, by omega, fun j u hu => ?_⟩⟩
    rw [Nat.zero_add, (Whole.fresh w 9 _).cell j]; simpa [strs] using hu
  have hw : w.ownsRow B 9 1 v ls.length (strs ls) := hown.1 w (fun r hr => h.lw.st.knows r (by simp [hr]))
  have h1 : Lx W (w.alloc (.cells #[.string (txt l)] 9)) (P ++ (R ++ L)) g d := h.other _
  refine wpList_appAt hgd s x 35 9 _ 1 16 ho info_str Try.underlying35 rfl (by decide) B v ls.length (strs ls) hs (World.ownsRow.alloc hw _) _ _ 1 1 (strs [l]) hx hse (fun h => by cases h) (strs_one _) (by omega) (by omega) (by simp; omega) ?_
  intro v' w' ho' hg hat
  rw [← strs_append] at ho'
  obtain ⟨R', i1, i2⟩ := h1.grown hown hB ho' hg hat
  obtain ⟨A, c, rfl, k1, k2, -⟩ := own_slice0 ho'
  refine hc A c w' R' ?_ k1 k2 i2 ?_
  · unfold OwnT; rw [List.length_append, List.length_singleton]; exact i1
  · have := hg.size
    simp at this; omega
/-- A text of a list that is owned. -/
theorem OwnT.text {R : List Row} {B : Nat} {A : Option Addr} {n c : Nat} {ls : List (List UInt8)} (h : OwnT R B (.slice A n c) ls) {w : World} (hk : Knows w R) (k : Nat) (l : List UInt8) (hl : ls[k]? = some l) :
    ∃ b, A = some ⟨b, 0, none⟩ ∧ w.cell? ⟨b, k, none⟩ = some (.string (txt l)) := by
  have ho := h.1 w hk
  have hlt := (List.getElem?_eq_some_iff.1 hl).1
  rcases ho.2 with ⟨hv, h0⟩ | ⟨b, cap, cur, hv, hB, hh, h2⟩
  · omega
  · simp only [Value.slice.injEq] at hv
    obtain ⟨rfl, rfl, rfl⟩ := hv
    refine ⟨b, rfl, ?_⟩
    have := Sees.own ho
    obtain ⟨b', off, e, -, hat⟩ := this.2 (by omega)
    injection e with e
    injection e with e1 e2
    subst e1 e2
    have := hat k _ (strs_at ls k l hl)
    rwa [Nat.zero_add] at this
theorem OwnT.sees {R : List Row} {B : Nat} {A : Option Addr} {n c : Nat} {ls : List (List UInt8)} (h : OwnT R B (.slice A n c) ls) (hn : n = ls.length) {w : World} (hk : Knows w R) : Sees w w.heap.size 1 A ls.length (strs ls) := by
  subst hn; exact Sees.own (h.1 w hk)
/-- Slices of bytes as cells: what they show, none of them in block X. -/
structure Shown (w : World) (ls : List (List UInt8)) (cells : List Value) (X : Option Nat) : Prop where
  len : cells.length = ls.length
  at_ : ∀ (k : Nat) (l : List UInt8), ls[k]? = some l → ∃ a c, cells[k]? = some (Value.slice a l.length c) ∧ l.length ≤ c ∧ c ≤ 9223372036854775807 ∧ (a = none → c = 0) ∧ Sees w w.heap.size 1 a l.length (Lib.byteCells l) ∧ ∀ p, a = some p → X ≠ some p.block ∧ p.block < w.heap.size
set_option maxHeartbeats 2000000 in
theorem bytes8_any (B : Nat) (A : Option Addr) (cap : Nat) (ls : List (List UInt8)) (w : World) (hs : Sees w B 1 A ls.length (strs ls)) (hB : B ≤ w.heap.size) (hl : ls.length ≤ 1000000) (hlen : ∀ l ∈ ls, l.length ≤ 140737488355328) :
    Calls Try.prog 34 #[.slice A ls.length cap] w fun e w' => ∃ a c, e = .returned (.slice a ls.length c) ∧ Below w.heap.size w w' ∧ ShowsL w' w'.heap.size a ls ∧
      ∀ (b off k : Nat) l a' c', a = some ⟨b, off, none⟩ → ls[k]? = some l → w'.cell? ⟨b, off + k, none⟩ = some (.slice a' l.length c') → a' = none → c' = 0 := by
  have HS := Lib.hid hs
  have HL := Lib.hid hlen
  clear hs hlen
  go_enter Try.func34, Try.ntmps34
  go_wp2_with fail
  go_loopw [3, 4] (fun u i wr => ∃ (k : Nat) (cells : List Value) (a0 : Option Addr) (c0 : Nat), k ≤ ls.length ∧ i = .int .i64 (k : Int) ∧ u = .slice a0 k c0 ∧ k ≤ c0 ∧ c0 ≤ 9223372036854775807 ∧ wr.ownsRow w.heap.size 52 1 (.slice a0 k c0) k cells ∧ Shown wr (ls.take k) cells (Value.slice a0 k c0).ownBlock ∧ Below w.heap.size w wr) (fun _ i _ => ls.length - (intOf i).toNat)
  case atStart => exact ⟨0, [], some ⟨w.heap.size, 0, none⟩, 0, by omega, rfl, rfl, by omega, by omega, own_empty w 52 1, ⟨rfl, fun k l h => by simp at h⟩, (Below.refl w.heap.size w).alloc (Nat.le_refl _) _⟩
  case round =>
    obtain ⟨k, cells, a0, c0, hk, rfl, rfl, hc1, hc2, ho, hsh, hb⟩ := hrel
    have HO := Lib.hid ho
    have HSH := Lib.hid hsh
    have HB' := Lib.hid hb
    by_cases hlt : k < ls.length
    · obtain ⟨l, hl1⟩ : ∃ l, ls[k]? = some l := ⟨_, List.getElem?_eq_getElem hlt⟩
      obtain ⟨b, off, rfl, hbB, hat⟩ := (HS.out.below (hb.mono hB)).2 (by omega)
      have g0 := hat k _ (strs_at ls k l hl1)
      have hll := HL.out l (List.mem_of_getElem? hl1)
      have HLK := Lib.hid hl1
      have HTK : Hid (ls.take (k + 1) = ls.take k ++ [l]) := Lib.hid (by rw [List.take_add_one, hl1]; rfl)
      have hkl : (k : Int) < (ls.length : Int) := by omega
      obtain ⟨c, w2, hcv, hlc, hcc0, hsee, hb2, hlt2⟩ := text_run l wr
      have hcc := hcc0 (by omega)
      have HSEE := Lib.hid hsee
      have HB2 := Lib.hid hb2
      have hz2 := hb2.size
      have hzr := hb.size
      clear ho hsh hb hat hl1 hsee hcc0 hb2
      have HO2 := Lib.hid (own_keep HO.out HB2.out (Nat.le_refl _))
      have hse : ∀ v : Value, Sees (w2.alloc (.cells #[v] 52)) (w2.heap.size + 1) 1 (some ⟨w2.heap.size, 0, none⟩) 1 [v] := fun v => by
        refine ⟨rfl, fun _ => ⟨w2.heap.size, 0, rfl, by omega, fun j u hu => ?_⟩⟩
        rw [Nat.zero_add, (Whole.fresh w2 52 _).cell j]; simpa using hu
      have HSE := Lib.hid hse
      clear hse
      go_wp2_with (at_builtin; refine wpList_appAt rfl (.tmp 12) (.tmp 18) 53 52 _ 1 24 rfl info_sl Try.underlying53 rfl (by decide) w.heap.size _ k cells rfl (World.ownsRow.alloc HO2.out _) _ _ 1 1 _ rfl (HSE.out _) (fun h => by cases h) (fun u hu => by rw [List.mem_singleton.1 hu]; rfl) (by omega) (by omega) (by simp; omega) ?_)
      intro v3 w3 ho3 hg3 hat3
      obtain ⟨a3, c3, rfl, h31, h32, -⟩ := own_slice0 ho3
      have HO3 := Lib.hid ho3
      have HB3 : Hid (Below w.heap.size w w3) := Lib.hid (((HB'.out.trans (HB2.out.mono hzr)).alloc (by omega) _).grown hg3 (by simp; omega) fun q hq => (HO2.out.lt q hq).1)
      have HSH3 : Hid (Shown w3 (ls.take (k + 1)) (cells ++ [Value.slice (some ⟨wr.heap.size, 0, none⟩) l.length c]) (Value.slice a3 (k + 1) c3).ownBlock) := Lib.hid (by
        have hown : ∀ q, (Value.slice a0 k c0).ownBlock = some q → q < wr.heap.size := fun q hq => (HO.out.lt q hq).2
        have hz3 := hg3.size
        simp at hz3
        have hkl2 : (ls.take k).length = k := by rw [List.length_take]; omega
        have keep : ∀ (a : Option Addr) (n : Nat) (cs : List Value) (B2 : Nat), B2 ≤ w2.heap.size → Sees w2 B2 1 a n cs → (∀ p, a = some p → (Value.slice a0 k c0).ownBlock ≠ some p.block) → Sees w3 w3.heap.size 1 a n cs := fun a n cs B2 hB2 h hx => by
          refine ⟨h.1, fun hn => ?_⟩
          obtain ⟨b, off, rfl, hb, hc⟩ := h.2 hn
          refine ⟨b, off, rfl, by omega, fun j u hu => ?_⟩
          have hne := hx _ rfl
          have hblk : w3.heap[b]? = w2.heap[b]? := by
            rw [hg3.block b (by simp; omega) (fun e => hne e.symm)]
            exact Below.heap_alloc w2 _ b (by omega)
          rw [World.cell?_of_block (a := ⟨b, off + j, none⟩) hblk]; exact hc j u hu
        have far : ∀ q, q < w2.heap.size → (Value.slice a0 k c0).ownBlock ≠ some q → (Value.slice a3 (k + 1) c3).ownBlock ≠ some q := fun q hq hne e => by
          rcases hat3 with h | h
          · rw [h] at e; exact hne e
          · rw [h] at e
            injection e with e
            first
              | omega
              | (simp at e; omega)
        refine ⟨by rw [HTK.out]; simp [HSH.out.len], fun j m hj => ?_⟩
        rw [HTK.out] at hj
        rcases Nat.lt_or_ge j k with hjk | hjk
        · rw [List.getElem?_append_left (by omega)] at hj
          obtain ⟨a, c', i1, i2, i3, i4, i5, i6⟩ := HSH.out.at_ j m hj
          refine ⟨a, c', by rw [List.getElem?_append_left (by rw [HSH.out.len]; omega)]; exact i1, i2, i3, i4, keep a _ _ wr.heap.size (by omega) (i5.below HB2.out) fun p hp => (i6 p hp).1, fun p hp => ⟨far _ (by have := (i6 p hp).2; omega) (i6 p hp).1, by have := (i6 p hp).2; omega⟩⟩
        · have hj2 : j = k := by
            have := (List.getElem?_eq_some_iff.1 hj).1
            rw [List.length_append, hkl2, List.length_singleton] at this
            omega
          subst hj2
          rw [List.getElem?_append_right (by omega), hkl2, Nat.sub_self] at hj
          have : l = m := by simpa using hj
          subst this
          have hne : ∀ p : Addr, (some ⟨wr.heap.size, 0, none⟩ : Option Addr) = some p → (Value.slice a0 j c0).ownBlock ≠ some p.block := fun p hp e => by
            injection hp with hp
            subst hp
            have := hown _ e
            simp at this
          refine ⟨_, c, by rw [List.getElem?_append_right (by rw [HSH.out.len]; omega), HSH.out.len, hkl2, Nat.sub_self]; rfl, hlc, hcc, (fun h => by cases h), keep _ _ _ (wr.heap.size + 1) hlt2 HSEE.out hne, fun p hp => ?_⟩
          injection hp with hp
          subst hp
          exact ⟨far _ hlt2 (hne _ rfl), by show wr.heap.size < w3.heap.size; omega⟩)
      clear ho3 hg3 hat3
      go_wp2_with fail
      go_roundw
      case rel => exact ⟨k + 1, _, a3, c3, by omega, by go_num, rfl, h31, h32, by simpa using HO3.out, HSH3.out, HB3.out⟩
      case measure => simp [intOf]; omega
    · obtain rfl : k = ls.length := by omega
      rw [List.take_length] at HSH
      clear ho hsh hb
      go_wp2_with fail
      go_ret
      refine ⟨a0, c0, rfl, HB'.out, fun h0 => ?_, fun b off k l a' c' hA hk1 hcell hn => ?_⟩
      · have := Sees.own HO.out
        obtain ⟨b, off, e, hb, hat⟩ := this.2 (by omega)
        refine ⟨b, off, e, hb, fun k l hkl => ?_⟩
        obtain ⟨a, c, i1, i2, i3, i4, i5, i6⟩ := HSH.out.at_ k l hkl
        exact ⟨a, c, hat k _ i1, i2, i3, i5⟩
      · have := Sees.own HO.out
        obtain ⟨b', off', e, hb, hat⟩ := this.2 (by have := (List.getElem?_eq_some_iff.1 hk1).1; omega)
        rw [hA] at e
        injection e with e
        injection e with e1 e2
        subst e1 e2
        obtain ⟨a, c, i1, i2, i3, i4, i5, i6⟩ := HSH.out.at_ k l hk1
        have := (hat k _ i1).symm.trans hcell
        injection this with this
        injection this with j1 j2 j3
        rw [← j3]; exact i4 (j1.trans hn)
end Go.Proofs.Ytlfigbgcackimaa
