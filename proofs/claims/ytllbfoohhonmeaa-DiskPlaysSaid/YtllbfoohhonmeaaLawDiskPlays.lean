/- Whatever is done to a disk, it answers as the document says, and has what it says: moietylaw07.DiskPlays answers true. For every number and list of acts; no conditions. -/
import Derived.Test.YtllbfoohhonmeaaDiskS
import Derived.Test.YtllbfoohhonmeaaDiskV
namespace Go.Proofs.Ytllbfoohhonmeaa.diskPlays
open Go.ChangeShapes Go.WideShapes Go.ChangeAt Go.RowKit Go.Dk
set_option linter.unusedVariables false
set_option linter.unusedSimpArgs false

theorem bw_start {w w1 w2 : World} {g : Nat} {d : D} {r : Rf} {A : Option Addr} {c : Nat} (h : Lw w w1 [] g d) (hb : Below w1.heap.size w1 w2) (hm : IsM (fun b => w1.heap.size ≤ b) w2 A c none 0 r) : Bw w w2 (fun _ => False) [] g d A c none 0 r := by
  obtain ⟨F, x, h1, h2⟩ := h.dsk
  exact ⟨h.st.call hb, ⟨F, x.call hb, h1, fun b hb => hb.elim, hm.mono fun b _ hb => ⟨fun hf => by have := x.low hf; omega, fun h => h⟩⟩, (fun r hr => by cases hr), fun b hb => hb.elim⟩

def so (b : Bool) (v u : Value) : Value := if b then v else u
theorem so_true (v u : Value) : so true v u = v := rfl
theorem so_false (v u : Value) : so false v u = u := rfl
/-- In what order the round's operations have come. -/
def Od (f : Nat → Bool) : Prop := (f 7 = true → f 1 = true ∧ f 6 = true) ∧ (f 8 = true → f 7 = true) ∧ (f 9 = true → f 7 = true) ∧ (f 10 = true → f 7 = true) ∧ (f 11 = true → f 7 = true) ∧ (f 12 = true → f 7 = true) ∧ (f 6 = true → f 5 = true)
theorem upd_true (f : Nat → Bool) (k j : Nat) : Iv.upd f k j = true ↔ (j = k ∨ f j = true) := by
  unfold Iv.upd
  split
  · rename_i h; simp [h]
  · rename_i h; simp [h]
theorem Od.upd {f : Nat → Bool} (h : Od f) (k : Nat) (h7 : k = 7 → f 1 = true ∧ f 6 = true) (h8 : k = 8 ∨ k = 9 ∨ k = 10 ∨ k = 11 ∨ k = 12 → f 7 = true) (h6 : k = 6 → f 5 = true) : Od (Iv.upd f k) := by
  obtain ⟨a, b, c, d, e, g, i⟩ := h
  unfold Od
  simp only [upd_true]
  refine ⟨fun h => ?_, fun h => ?_, fun h => ?_, fun h => ?_, fun h => ?_, fun h => ?_, fun h => ?_⟩
  · rcases h with h | h
    · exact ⟨.inr (h7 h.symm).1, .inr (h7 h.symm).2⟩
    · exact ⟨.inr (a h).1, .inr (a h).2⟩
  · exact .inr (h.elim (fun h => h8 (by omega)) b)
  · exact .inr (h.elim (fun h => h8 (by omega)) c)
  · exact .inr (h.elim (fun h => h8 (by omega)) d)
  · exact .inr (h.elim (fun h => h8 (by omega)) e)
  · exact .inr (h.elim (fun h => h8 (by omega)) g)
  · exact .inr (h.elim (fun h => h6 h.symm) i)
/-- Where a round stands: ahead of the act, behind it, and when the document's disk has been stored. -/
structure Dn (w y : World) (x g n : Nat) (A2 : Option Addr) (c2 : Nat) (A3 : Option Addr) (c3 : Nat) (r : Rf) (d : D) (A4 : Option Addr) (c4 : Nat) (A5 : Option Addr) (c5 : Nat) (r2 : Rf) (d2 : D) (b7 b11 : Bool) : Prop where
  a : b7 = false → Bw w y (fun b => False ∨ b = x) [(x, 30, #[.slice A2 r.logs.length c2, .int .i64 r.acts, .bool r.off, .int .i64 r.armed, .slice A3 r.keep.length c3])] g d A2 c2 A3 c3 r
  b : b7 = true → b11 = false → Bw w y (fun b => False ∨ b = x) [(x, 30, #[.slice A2 r.logs.length c2, .int .i64 r.acts, .bool r.off, .int .i64 r.armed, .slice A3 r.keep.length c3])] g d2 A4 c4 A5 c5 r2
  c : b11 = true → Bw w y (fun b => False ∨ b = x) [(x, 30, #[.slice A4 r2.logs.length c4, .int .i64 r2.acts, .bool r2.off, .int .i64 r2.armed, .slice A5 r2.keep.length c5])] g d2 A4 c4 A5 c5 r2
  p : b7 = true → Pl r2 d2 n
theorem Dn.call {w y y1 : World} {x g n : Nat} {A2 : Option Addr} {c2 : Nat} {A3 : Option Addr} {c3 : Nat} {r : Rf} {d : D} {A4 : Option Addr} {c4 : Nat} {A5 : Option Addr} {c5 : Nat} {r2 : Rf} {d2 : D} {b7 b11 : Bool} (h : Dn w y x g n A2 c2 A3 c3 r d A4 c4 A5 c5 r2 d2 b7 b11) (hb : Below y.heap.size y y1) : Dn w y1 x g n A2 c2 A3 c3 r d A4 c4 A5 c5 r2 d2 b7 b11 :=
  ⟨fun e => (h.a e).call hb, fun e1 e2 => (h.b e1 e2).call hb, fun e => (h.c e).call hb, h.p⟩

set_option maxRecDepth 100000 in
set_option maxHeartbeats 8000000 in
theorem walk (n : Int) (hn : -9223372036854775808 ≤ n ∧ n ≤ 9223372036854775807) (A : Option Addr) (len cap : Nat) (l : List Ac) (w : World) (hL : IsR w A len cap 5 encA (GA w) l) :
    Calls Try.prog 3 #[.int .i64 n, .slice A len cap] w fun r w' => r = .returned (.bool true) ∧ Below w.heap.size w w' := by
  obtain ⟨hlen, hs, hc1, hc2, hnl, hg⟩ := hL
  subst hlen
  have HS := Lib.hid hs
  have HG := Lib.hid hg
  clear hs hg hnl
  have hsz : n < 1 ∨ 16 < n ∨ ∃ k : Nat, n = k ∧ 1 ≤ k ∧ k ≤ 16 := by
    by_cases h1 : n < 1
    · exact .inl h1
    · by_cases h2 : 16 < n
      · exact .inr (.inl h2)
      · exact .inr (.inr ⟨n.toNat, by omega, by omega, by omega⟩)
  have HNO := Lib.hid fun (h : n < 1 ∨ 16 < n) (w0 : World) => new_no n hn h w0
  have HRO := Lib.hid fun (h : n < 1 ∨ 16 < n) (w0 : World) => rnew_no n hn h w0
  have hsz2 : (n < 1 ∨ 16 < n) ∨ ∃ k : Nat, n = k ∧ 1 ≤ k ∧ k ≤ 16 := by
    rcases hsz with h | h | h
    · exact .inl (.inl h)
    · exact .inl (.inr h)
    · exact .inr h
  clear hsz
  rcases hsz2 with hbad | ⟨k, rfl, hk1, hk2⟩
  · replace HNO := Lib.hid (HNO.out hbad)
    replace HRO := Lib.hid (HRO.out hbad)
    clear hbad
    go_enter Try.func3, Try.ntmps3
    go_wp2_with fail
    refine (HNO.out _).mono ?_
    rintro e w1 ⟨rfl, e1⟩
    subst w1
    go_wp2_with fail
    refine (HRO.out _).mono ?_
    rintro e w2 ⟨rfl, hb2⟩
    have H3 := Lib.hid (((St.start w).call hb2).alloc w2.heap.size rfl 30 #[.slice none 0 0, .int .i64 0, .bool false, .int .i64 0, .slice none 0 0])
    clear hb2
    go_wp2_with fail
    refine (awake_any _).mono ?_
    rintro e w4 ⟨rfl, hb4⟩
    have H4 := Lib.hid (H3.out.call hb4)
    clear hb4
    go_wp2_with fail
    go_ret
    exact ⟨rfl, H4.out.below⟩
  · clear HNO HRO
    go_enter Try.func3, Try.ntmps3
    go_wp2_with fail
    refine (new_lw (St.start w) k hk1 hk2).mono ?_
    rintro e w1 ⟨g, rfl, hl1⟩
    have HL1 := Lib.hid hl1
    clear hl1
    go_wp2_with fail
    refine (rnew_any k hk1 hk2 _).mono ?_
    rintro e w2 ⟨A1, c1, rfl, hb2, hm2⟩
    have hB := bw_start HL1.out hb2 hm2
    have hsz := hB.st.below.size
    have hl : (Rf.new k).logs.length = k := by simp [Rf.new]
    have hv : vM A1 c1 none 0 (Rf.new k) = .agg #[.slice A1 k c1, .int .i64 0, .bool false, .int .i64 0, .slice none 0 0] := by unfold vM; rw [hl]; rfl
    rw [hv]
    have H3 := Lib.hid (hB.alloc w2.heap.size rfl 30 #[.slice A1 k c1, .int .i64 0, .bool false, .int .i64 0, .slice none 0 0])
    have HP := Lib.hid (Pl.new k)
    have HV : Hid (#[Value.slice A1 k c1, .int .i64 0, .bool false, .int .i64 0, .slice none 0 0] = #[.slice A1 (Rf.new k).logs.length c1, .int .i64 (Rf.new k).acts, .bool (Rf.new k).off, .int .i64 (Rf.new k).armed, .slice none (Rf.new k).keep.length 0]) := Lib.hid (by rw [hl]; rfl)
    clear hb2 hB hm2 hl hv HL1
    go_upto_region 3 with fail
    generalize hX : w2.heap.size = x at H3 ⊢
    generalize w2.alloc _ = w3 at H3 ⊢
    have HXS : Hid (w.heap.size ≤ x) := Lib.hid (by rw [← hX]; exact hsz)
    clear hX hsz
    go_wp2_with fail
    refine (awake_any _).mono ?_
    rintro e w4 ⟨rfl, hb4⟩
    have H4 := Lib.hid (H3.out.call hb4)
    clear hb4 H3
    rw [HV.out] at H4
    go_wp2_with fail
    go_loopw [9] (fun i wr => ∃ j : Nat, j ≤ l.length ∧ j ≤ 40 ∧ i = .int .i64 (j : Int) ∧ ∃ A1 c1 A2 c2 r d, Bw w wr (fun b => False ∨ b = x) [(x, 30, #[.slice A1 r.logs.length c1, .int .i64 r.acts, .bool r.off, .int .i64 r.armed, .slice A2 r.keep.length c2])] g d A1 c1 A2 c2 r ∧ Pl r d j) (fun i _ => l.length - (intOf i).toNat)
    case atStart => exact ⟨0, by omega, by omega, rfl, A1, c1, none, 0, Rf.new k, D.new k, H4.out, HP.out⟩
    case round =>
      obtain ⟨j, hj1, hj2, rfl, A2, c2, A3, c3, r, d, hb5, hp5⟩ := hrel
      have H5 := Lib.hid hb5
      have HP5 := Lib.hid hp5
      obtain ⟨⟨b0, b1, b2, b3, b4⟩, f0, f1, f2, f3, f4⟩ := (hb5.st.knows.at 0 rfl).five
      clear hb5 hp5 H4 HP HV
      by_cases hlt : j < l.length ∧ j < 40
      · obtain ⟨h1, h2⟩ := hlt
        obtain ⟨v, hv⟩ : ∃ v, l[j]? = some v := ⟨_, List.getElem?_eq_getElem h1⟩
        have hga := HG.out v (List.mem_of_getElem? hv)
        have HGA := Lib.hid hga.few
        have HFEW := Lib.hid (few_any v hga.room hga.top hga.s)
        have hfs : v.few.s.length ≤ 2000 := by show (v.s.take 2000).length ≤ _; rw [List.length_take]; omega
        have hfk : v.few.keep.length ≤ 20 := by show (v.keep.take 20).length ≤ _; rw [List.length_take]; omega
        obtain ⟨b0', off, rfl, hb, hcc⟩ := HS.out.item encA_len (by omega) j v hv
        have HCC := Lib.hid fun a (hB : Below w.heap.size w a) => (show a.cell? ⟨b0', off + j * 5, none⟩ = some (.int .i64 v.kind) ∧ a.cell? ⟨b0', off + j * 5 + 1, none⟩ = some (.int .i64 v.log) ∧ a.cell? ⟨b0', off + j * 5 + 2, none⟩ = some (.int .i64 v.n) ∧ a.cell? ⟨b0', off + j * 5 + 3, none⟩ = some (.string (txt v.s)) ∧ a.cell? ⟨b0', off + j * 5 + 4, none⟩ = some (.slice v.A v.keep.length v.cap) from
          ⟨(hB.cell (p := ⟨b0', off + j * 5, none⟩) hb).trans (by have := hcc 0 _ rfl; rwa [Nat.add_zero] at this), (hB.cell (p := ⟨b0', off + j * 5 + 1, none⟩) hb).trans (hcc 1 _ rfl), (hB.cell (p := ⟨b0', off + j * 5 + 2, none⟩) hb).trans (hcc 2 _ rfl), (hB.cell (p := ⟨b0', off + j * 5 + 3, none⟩) hb).trans (hcc 3 _ rfl), (hB.cell (p := ⟨b0', off + j * 5 + 4, none⟩) hb).trans (hcc 4 _ rfl)⟩)
        have hea : (encA v).toArray = #[.int .i64 v.kind, .int .i64 v.log, .int .i64 v.n, .string (txt v.s), .slice v.A v.keep.length v.cap] := rfl
        rw [hea] at HFEW
        have i1 : (j : Int) < (l.length : Int) := by omega
        have i2 : (j : Int) < 40 := by omega
        clear hcc hv hga hea
        generalize v.few = u at *
        have heb : (encA u).toArray = #[.int .i64 u.kind, .int .i64 u.log, .int .i64 u.n, .string (txt u.s), .slice u.A u.keep.length u.cap] := rfl
        rw [heb] at HFEW
        clear heb
        go_upto_region 10 with fail
        clear b0 b1 b2 b3 b4 f0 f1 f2 f3 f4
        refine Iv.region (fun f aa y => ∃ A4 c4 A5 c5 r2 d2, aa = ⟨#[.int .i64 ((k : Nat) : Int), Value.slice (some ⟨b0', off, none⟩) l.length cap, undef, undef, u4, ptr g, .int .i64 0, .pointer (some ⟨x, 0, none⟩), so (f 12) (.bool true) u8, .int .i64 (j : Int), .tuple #[ptr g, .int .i64 0], .int .i64 ((k : Nat) : Int), .tuple #[ptr g, .int .i64 0], ptr g, .int .i64 0, .tuple #[.agg #[.slice A1 k c1, .int .i64 0, .bool false, .int .i64 0, .slice none 0 0], .bool true], .int .i64 ((k : Nat) : Int), .tuple #[.agg #[.slice A1 k c1, .int .i64 0, .bool false, .int .i64 0, .slice none 0 0], .bool true], .agg #[.slice A1 k c1, .int .i64 0, .bool false, .int .i64 0, .slice none 0 0], .bool true, .bool true, .bool false, .bool false, .int .i64 0, .bool true, .bool true, .bool false, .bool false, .bool false, ptr g, .bool false, .bool true, .bool false, .bool false, ptr g, .bool false, undef, undef, .int .i64 (j : Int), Value.slice (some ⟨b0', off, none⟩) l.length cap, .int .i64 (l.length : Int), .bool true, .bool true, .int .i64 (j : Int), .bool true, .bool true, u46, u47, so (f 8) (Value.tuple #[.agg #[.slice A4 r2.logs.length c4, .int .i64 r2.acts, .bool r2.off, .int .i64 r2.armed, .slice A5 r2.keep.length c5], .bool true]) u48, so (f 0) ((ptr g)) u49, so (f 1) (Value.agg #[.slice A2 r.logs.length c2, .int .i64 r.acts, .bool r.off, .int .i64 r.armed, .slice A3 r.keep.length c3]) u50, so (f 2) (Value.slice (some ⟨b0', off, none⟩) l.length cap) u51, so (f 3) (.int .i64 (j : Int)) u52, so (f 4) (.pointer (some ⟨b0', off + j * 5, none⟩)) u53, so (f 5) (Value.agg #[.int .i64 v.kind, .int .i64 v.log, .int .i64 v.n, .string (txt v.s), .slice v.A v.keep.length v.cap]) u54, so (f 6) (Value.agg #[.int .i64 u.kind, .int .i64 u.log, .int .i64 u.n, .string (txt u.s), .slice u.A u.keep.length u.cap]) u55, so (f 7) (Value.tuple #[.agg #[.slice A4 r2.logs.length c4, .int .i64 r2.acts, .bool r2.off, .int .i64 r2.armed, .slice A5 r2.keep.length c5], .bool true]) u56, so (f 9) (Value.agg #[.slice A4 r2.logs.length c4, .int .i64 r2.acts, .bool r2.off, .int .i64 r2.armed, .slice A5 r2.keep.length c5]) u57, so (f 10) (.bool true) u58, u59, u60, u61, u62, u63, u64, u65, u66], []⟩ ∧ Dn w y x g (j + 1) A2 c2 A3 c3 r d A4 c4 A5 c5 r2 d2 (f 7) (f 11) ∧ Od f) (by kernel_rfl) (by kernel_rfl) ?_ ?_ ?_
        · exact ⟨A2, c2, A3, c3, r, d, rfl, ⟨⟨fun _ => H5.out.drewN 1, (fun h => by cases h), (fun h => by cases h), fun h => by cases h⟩, (fun h => by cases h), (fun h => by cases h), (fun h => by cases h), (fun h => by cases h), (fun h => by cases h), (fun h => by cases h), fun h => by cases h⟩⟩
        · refine ⟨?_, ?_, ?_, ?_, ?_, ?_, ?_, ?_, ?_, ?_, ?_, ?_, ?_, trivial⟩
          · rintro f a0 y Q' ⟨A4, c4, A5, c5, r2, d2, rfl, hw⟩ hi hd hQ
            replace hQ := Lib.hid hQ
            simp [Iv.depsB, Region.binds] at hd
            try simp only [hi, hd, sl_true, sl_false, so_true, so_false]
            try simp only [hi, sl_true, sl_false, so_true, so_false]
            go_wp2_with fail
            refine hQ.out _ _ ⟨A4, c4, A5, c5, r2, d2, ?_, ?_⟩
            · simp [Iv.upd, hi, hd, sl_true, sl_false, so_true, so_false]
            · exact ⟨by simpa [Iv.upd] using hw.1, hw.2.upd 0 (fun e => absurd e (by decide)) (fun e => absurd e (by decide)) (fun e => absurd e (by decide))⟩
          · rintro f a0 y Q' ⟨A4, c4, A5, c5, r2, d2, rfl, hw⟩ hi hd hQ
            replace hQ := Lib.hid hQ
            simp [Iv.depsB, Region.binds] at hd
            try simp only [hi, hd, sl_true, sl_false, so_true, so_false]
            try simp only [hi, sl_true, sl_false, so_true, so_false]
            have h7 : f 7 = false := by
              cases e : f 7 with
              | false => rfl
              | true => have := hw.2.1 e; simp [hi] at this
            obtain ⟨⟨b0, b1, b2, b3, b4⟩, -⟩ := ((hw.1.a h7).st.knows.at 0 rfl).five
            go_wp2_with fail
            refine hQ.out _ _ ⟨A4, c4, A5, c5, r2, d2, ?_, ?_⟩
            · simp [Iv.upd, hi, hd, h7, sl_true, sl_false, so_true, so_false]
            · exact ⟨by simpa [Iv.upd] using hw.1, hw.2.upd 1 (fun e => absurd e (by decide)) (fun e => absurd e (by decide)) (fun e => absurd e (by decide))⟩
          · rintro f a0 y Q' ⟨A4, c4, A5, c5, r2, d2, rfl, hw⟩ hi hd hQ
            replace hQ := Lib.hid hQ
            simp [Iv.depsB, Region.binds] at hd
            try simp only [hi, hd, sl_true, sl_false, so_true, so_false]
            try simp only [hi, sl_true, sl_false, so_true, so_false]
            go_wp2_with fail
            refine hQ.out _ _ ⟨A4, c4, A5, c5, r2, d2, ?_, ?_⟩
            · simp [Iv.upd, hi, hd, sl_true, sl_false, so_true, so_false]
            · exact ⟨by simpa [Iv.upd] using hw.1, hw.2.upd 2 (fun e => absurd e (by decide)) (fun e => absurd e (by decide)) (fun e => absurd e (by decide))⟩
          · rintro f a0 y Q' ⟨A4, c4, A5, c5, r2, d2, rfl, hw⟩ hi hd hQ
            replace hQ := Lib.hid hQ
            simp [Iv.depsB, Region.binds] at hd
            try simp only [hi, hd, sl_true, sl_false, so_true, so_false]
            try simp only [hi, sl_true, sl_false, so_true, so_false]
            go_wp2_with fail
            refine hQ.out _ _ ⟨A4, c4, A5, c5, r2, d2, ?_, ?_⟩
            · simp [Iv.upd, hi, hd, sl_true, sl_false, so_true, so_false]
            · exact ⟨by simpa [Iv.upd] using hw.1, hw.2.upd 3 (fun e => absurd e (by decide)) (fun e => absurd e (by decide)) (fun e => absurd e (by decide))⟩
          · rintro f a0 y Q' ⟨A4, c4, A5, c5, r2, d2, rfl, hw⟩ hi hd hQ
            replace hQ := Lib.hid hQ
            simp [Iv.depsB, Region.binds] at hd
            try simp only [hi, hd, sl_true, sl_false, so_true, so_false]
            try simp only [hi, sl_true, sl_false, so_true, so_false]
            go_wp2_with fail
            refine hQ.out _ _ ⟨A4, c4, A5, c5, r2, d2, ?_, ?_⟩
            · simp [Iv.upd, hi, hd, sl_true, sl_false, so_true, so_false]
            · exact ⟨by simpa [Iv.upd] using hw.1, hw.2.upd 4 (fun e => absurd e (by decide)) (fun e => absurd e (by decide)) (fun e => absurd e (by decide))⟩
          · rintro f a0 y Q' ⟨A4, c4, A5, c5, r2, d2, rfl, hw⟩ hi hd hQ
            replace hQ := Lib.hid hQ
            simp [Iv.depsB, Region.binds] at hd
            try simp only [hi, hd, sl_true, sl_false, so_true, so_false]
            try simp only [hi, sl_true, sl_false, so_true, so_false]
            have h7 : f 7 = false := by
              cases e : f 7 with
              | false => rfl
              | true => have := hw.2.2.2.2.2.2.2 (hw.2.1 e).2; simp [hi] at this
            have d4 : f 4 = true := by simp [hd]
            try simp only [d4, so_true, so_false]
            obtain ⟨q0, q1, q2, q3, q4⟩ := HCC.out y (hw.1.a h7).st.below
            go_wp2_with fail
            refine hQ.out _ _ ⟨A4, c4, A5, c5, r2, d2, ?_, ?_⟩
            · simp [Iv.upd, hi, hd, h7, d4, sl_true, sl_false, so_true, so_false]
            · exact ⟨by simpa [Iv.upd] using hw.1, hw.2.upd 5 (fun e => absurd e (by decide)) (fun e => absurd e (by decide)) (fun e => absurd e (by decide))⟩
          · rintro f a0 y Q' ⟨A4, c4, A5, c5, r2, d2, rfl, hw⟩ hi hd hQ
            replace hQ := Lib.hid hQ
            simp [Iv.depsB, Region.binds] at hd
            try simp only [hi, hd, sl_true, sl_false, so_true, so_false]
            try simp only [hi, sl_true, sl_false, so_true, so_false]
            have h7 : f 7 = false := by
              cases e : f 7 with
              | false => rfl
              | true => have := hw.2.1 e; simp [hi] at this
            have d5 : f 5 = true := by simp [hd]
            try simp only [d5, so_true, so_false]
            go_wp2_with fail
            refine (HFEW.out y).mono ?_
            rintro e y1 ⟨rfl, hb⟩
            go_wp2_with fail
            refine hQ.out _ _ ⟨A4, c4, A5, c5, r2, d2, ?_, ?_⟩
            · simp [Iv.upd, hi, hd, h7, d5, sl_true, sl_false, so_true, so_false]
            · exact ⟨by simpa [Iv.upd] using hw.1.call hb, hw.2.upd 6 (fun e => absurd e (by decide)) (fun e => absurd e (by decide)) (fun _ => d5)⟩
          · rintro f a0 y Q' ⟨A4, c4, A5, c5, r2, d2, rfl, hw⟩ hi hd hQ
            replace hQ := Lib.hid hQ
            simp [Iv.depsB, Region.binds] at hd
            try simp only [hi, hd, sl_true, sl_false, so_true, so_false]
            try simp only [hi, sl_true, sl_false, so_true, so_false]
            have h8 : f 8 = false := by
              cases e : f 8 with
              | false => rfl
              | true => have := hw.2.2.1 e; simp [hi] at this
            have h9 : f 9 = false := by
              cases e : f 9 with
              | false => rfl
              | true => have := hw.2.2.2.1 e; simp [hi] at this
            have h10 : f 10 = false := by
              cases e : f 10 with
              | false => rfl
              | true => have := hw.2.2.2.2.1 e; simp [hi] at this
            have h11 : f 11 = false := by
              cases e : f 11 with
              | false => rfl
              | true => have := hw.2.2.2.2.2.1 e; simp [hi] at this
            have h12 : f 12 = false := by
              cases e : f 12 with
              | false => rfl
              | true => have := hw.2.2.2.2.2.2.1 e; simp [hi] at this
            have d0 : f 0 = true := by simp [hd]
            have d1 : f 1 = true := by simp [hd]
            have d6 : f 6 = true := by simp [hd]
            try simp only [d0, d1, d6, so_true, so_false]
            have hcc := Lib.hid (does_any g w y _ _ d A2 c2 A3 c3 r j (by omega) (hw.1.a hi) HP5.out u.kind u.log u.n u.s u.A u.cap u.keep HGA.out hfs hfk)
            unfold vM at hcc
            go_wp2_with fail
            refine hcc.out.mono ?_
            rintro e y1 ⟨A6, c6, A7, c7, r3, d3, rfl, hb2, hp2⟩
            have HB2 := Lib.hid hb2
            have HP2 := Lib.hid hp2
            clear hb2 hp2 hcc
            go_wp2_with fail
            refine hQ.out _ _ ⟨A6, c6, A7, c7, r3, d3, ?_, ?_⟩
            · simp [Iv.upd, hi, hd, h8, h9, h10, h11, h12, d0, d1, d6, sl_true, sl_false, so_true, so_false]
            · exact ⟨⟨fun e => by simp [Iv.upd] at e, fun _ _ => HB2.out, fun e => by simp [Iv.upd, h11] at e, fun _ => HP2.out⟩, hw.2.upd 7 (fun _ => ⟨d1, d6⟩) (fun e => absurd e (by decide)) (fun e => absurd e (by decide))⟩
          · rintro f a0 y Q' ⟨A4, c4, A5, c5, r2, d2, rfl, hw⟩ hi hd hQ
            replace hQ := Lib.hid hQ
            simp [Iv.depsB, Region.binds] at hd
            try simp only [hi, hd, sl_true, sl_false, so_true, so_false]
            try simp only [hi, sl_true, sl_false, so_true, so_false]
            have d7 : f 7 = true := by simp [hd]
            try simp only [d7, so_true, so_false]
            go_wp2_with fail
            refine hQ.out _ _ ⟨A4, c4, A5, c5, r2, d2, ?_, ?_⟩
            · simp [Iv.upd, hi, hd, d7, sl_true, sl_false, so_true, so_false]
            · exact ⟨by simpa [Iv.upd] using hw.1, hw.2.upd 8 (fun e => absurd e (by decide)) (fun _ => d7) (fun e => absurd e (by decide))⟩
          · rintro f a0 y Q' ⟨A4, c4, A5, c5, r2, d2, rfl, hw⟩ hi hd hQ
            replace hQ := Lib.hid hQ
            simp [Iv.depsB, Region.binds] at hd
            try simp only [hi, hd, sl_true, sl_false, so_true, so_false]
            try simp only [hi, sl_true, sl_false, so_true, so_false]
            have d8 : f 8 = true := by simp [hd]
            have d7 := hw.2.2.1 d8
            try simp only [d8, so_true, so_false]
            go_wp2_with fail
            refine hQ.out _ _ ⟨A4, c4, A5, c5, r2, d2, ?_, ?_⟩
            · simp [Iv.upd, hi, hd, d8, d7, sl_true, sl_false, so_true, so_false]
            · exact ⟨by simpa [Iv.upd] using hw.1, hw.2.upd 9 (fun e => absurd e (by decide)) (fun _ => d7) (fun e => absurd e (by decide))⟩
          · rintro f a0 y Q' ⟨A4, c4, A5, c5, r2, d2, rfl, hw⟩ hi hd hQ
            replace hQ := Lib.hid hQ
            simp [Iv.depsB, Region.binds] at hd
            try simp only [hi, hd, sl_true, sl_false, so_true, so_false]
            try simp only [hi, sl_true, sl_false, so_true, so_false]
            have d8 : f 8 = true := by simp [hd]
            have d7 := hw.2.2.1 d8
            try simp only [d8, so_true, so_false]
            go_wp2_with fail
            refine hQ.out _ _ ⟨A4, c4, A5, c5, r2, d2, ?_, ?_⟩
            · simp [Iv.upd, hi, hd, d8, d7, sl_true, sl_false, so_true, so_false]
            · exact ⟨by simpa [Iv.upd] using hw.1, hw.2.upd 10 (fun e => absurd e (by decide)) (fun _ => d7) (fun e => absurd e (by decide))⟩
          · rintro f a0 y Q' ⟨A4, c4, A5, c5, r2, d2, rfl, hw⟩ hi hd hQ
            replace hQ := Lib.hid hQ
            simp [Iv.depsB, Region.binds] at hd
            try simp only [hi, hd, sl_true, sl_false, so_true, so_false]
            try simp only [hi, sl_true, sl_false, so_true, so_false]
            have d9 : f 9 = true := by simp [hd]
            have d7 := hw.2.2.2.1 d9
            try simp only [d9, so_true, so_false]
            have hbx := hw.1.b d7 hi
            have HBX := Lib.hid (hbx.five HXS.out (fun r hr => by cases hr) (.slice A4 r2.logs.length c4) (.int .i64 r2.acts) (.bool r2.off) (.int .i64 r2.armed) (.slice A5 r2.keep.length c5))
            obtain ⟨⟨b0, b1, b2, b3, b4⟩, f0, f1, f2, f3, f4⟩ := (hbx.st.knows.at 0 rfl).five
            clear hbx
            go_wp2_with fail
            refine hQ.out _ _ ⟨A4, c4, A5, c5, r2, d2, ?_, ?_⟩
            · simp [Iv.upd, hi, hd, d9, d7, sl_true, sl_false, so_true, so_false]
            · exact ⟨⟨fun e => by simp [Iv.upd, d7] at e, fun _ e => by simp [Iv.upd] at e, fun _ => HBX.out, fun _ => hw.1.p d7⟩, hw.2.upd 11 (fun e => absurd e (by decide)) (fun _ => d7) (fun e => absurd e (by decide))⟩
          · rintro f a0 y Q' ⟨A4, c4, A5, c5, r2, d2, rfl, hw⟩ hi hd hQ
            replace hQ := Lib.hid hQ
            simp [Iv.depsB, Region.binds] at hd
            try simp only [hi, hd, sl_true, sl_false, so_true, so_false]
            try simp only [hi, sl_true, sl_false, so_true, so_false]
            have d10 : f 10 = true := by simp [hd]
            have d7 := hw.2.2.2.2.1 d10
            try simp only [d10, so_true, so_false]
            go_wp2_with fail
            refine hQ.out _ _ ⟨A4, c4, A5, c5, r2, d2, ?_, ?_⟩
            · simp [Iv.upd, hi, hd, d10, d7, sl_true, sl_false, so_true, so_false]
            · exact ⟨by simpa [Iv.upd] using hw.1, hw.2.upd 12 (fun e => absurd e (by decide)) (fun _ => d7) (fun e => absurd e (by decide))⟩
        · rintro f a0 y ⟨A4, c4, A5, c5, r2, d2, rfl, hw⟩ hall
          simp only [hall 0 (by decide), hall 1 (by decide), hall 2 (by decide), hall 3 (by decide), hall 4 (by decide), hall 5 (by decide), hall 6 (by decide), hall 7 (by decide), hall 8 (by decide), hall 9 (by decide), hall 10 (by decide), hall 11 (by decide), hall 12 (by decide), sl_true, ↓reduceIte, so_true, so_false] at hw ⊢
          clear hall
          have H6 := Lib.hid (hw.1.c rfl)
          have HP6 := Lib.hid (hw.1.p rfl)
          clear hw H5 HFEW HCC HGA
          obtain ⟨⟨b0, b1, b2, b3, b4⟩, f0, f1, f2, f3, f4⟩ := (H6.out.st.knows.at 0 rfl).five
          have hcc := Lib.hid (told_any g w y _ _ d2 A4 c4 A5 c5 r2 (j + 1) (by omega) H6.out HP6.out)
          unfold vM at hcc
          go_wp2_with fail
          refine hcc.out.mono ?_
          rintro e y1 ⟨rfl, hb7⟩
          have H7 := Lib.hid (H6.out.call hb7)
          clear hcc hb7 b0 b1 b2 b3 b4 f0 f1 f2 f3 f4
          go_wp2_with fail
          go_roundw
          case rel => exact ⟨j + 1, by omega, by omega, by go_num, A4, c4, A5, c5, r2, d2, H7.out, HP6.out⟩
          case measure => simp [intOf]; omega
      · have hend : j = l.length ∨ (j < l.length ∧ j = 40) := by omega
        rcases hend with rfl | ⟨h1, rfl⟩
        · go_wp2_with fail
          go_ret
          exact ⟨rfl, H5.out.st.below⟩
        · have g1 : ((40 : Nat) : Int) < (l.length : Int) := by omega
          go_wp2_with fail
          go_ret
          exact ⟨rfl, H5.out.st.below⟩

set_option maxRecDepth 100000 in
theorem lifted (os : Os) (started : os.Started) (H : Type) (enc : TypeId × Value → H) :
    ReturnsInHanded {} Try.checked os 3 .any (Rows.diskPlaysSpec.pre6 enc Try.prog Try.f3 Rows.diskPlaysRow.domain false) (Rows.diskPlaysSpec.post enc Try.prog Try.f3 false true false false) := by
  refine returnsInHanded_of_change (C := Try.checked) own started (by kernel_rfl) Try.func3
    (ChangeSpec.witness6 (enc := enc) (C := Try.checked) false ⟨#[], #[.int .i64 0, .slice none 0 0], []⟩ 8 (by kernel_rfl) (by kernel_rfl) (by kernel_rfl) (by kernel_rfl)) ?_
  intro W base args ds gs before hval0 hW hcnd _
  have hval : ∀ (j : Nat) t v, Try.f3.params[j]? = some t → args[j]? = some v → Value.okWide Try.prog W .any base t v := hval0
  have hW' := hW
  obtain ⟨p, q, hA0, hV, rfl, hfz, hnd⟩ := hW
  have hA : DataW.TrodAll enc Try.prog W 0 (fun _ => true) true Try.f3.params.toList args.toList ds p := hA0
  rw [Try.params3] at hA hval
  obtain ⟨v0, vs0, d0, ds0, p0, q0, hargs, rfl, rfl, h0, r0⟩ := trodAll_cons hA
  obtain ⟨v1, vs1, d1, ds1, p1, q1, rfl, rfl, rfl, h1, r1⟩ := trodAll_cons r0
  obtain ⟨rfl, rfl, rfl⟩ := trodAll_nil r1
  obtain rfl : args = #[v0, v1] := by cases args; simp_all
  obtain ⟨rfl, rfl⟩ := trodVars_none hV
  obtain ⟨a0, rfl⟩ := okWide_int Try.underlying3 (hval 0 3 v0 rfl rfl)
  have w0 : -9223372036854775808 ≤ a0 ∧ a0 ≤ 9223372036854775807 := by
    obtain ⟨m, hm⟩ := h0
    obtain ⟨s, hs, _, hl⟩ := DataW.trod_int Try.underlying3 hm
    simp [Value.cells] at hs
    rw [hs]; have := bounds_i64 hl; omega
  have lt0 : ∀ x ∈ p0, x.block < W.heap.size := by obtain ⟨m, hm⟩ := h0; exact DataW.trod_lt m _ _ _ hm
  obtain ⟨A1, len1, cap1, rfl⟩ := okWide_slice Try.underlying22 (hval 1 22 v1 rfl rfl)
  obtain ⟨l1, w1⟩ := open_acts h1
  have lt1 : ∀ x ∈ p1, x.block < W.heap.size := by obtain ⟨m, hm⟩ := h1; exact DataW.trod_lt m _ _ _ hm
  clear hA0 hval0
  simp only [List.append_nil] at hW'
  refine (walk a0 w0 A1 len1 cap1 l1 W w1).mono fun e W' ⟨he, bel⟩ => ?_
  subst he
  exact ⟨_, rfl, _, _, _, [], _, [], hW', trodAll_mk1 (shut_bool Try.underlying4 _), (trodAll_cons_mk (Below.trod laidOut (by kernel_rfl) (of_decide_eq_true (by kernel_rfl)) h0 bel lt0) (trodAll_cons_mk (Below.trod laidOut (by kernel_rfl) (of_decide_eq_true (by kernel_rfl)) h1 bel lt1) trodAll_mk0)), rfl, bel.frame _, fun h => by cases h⟩

theorem proved : Rows.DiskPlaysSaid :=
  OpenClaim.holds_of_wide 3 Try.f3 rfl rfl rfl rfl rfl rfl rfl ⟨rfl, rfl, rfl, rfl, rfl⟩ rfl rfl rfl rfl rfl (by kernel_rfl) Try.func3 (by kernel_rfl)
    (of_decide_eq_true (by kernel_rfl)) (by unfold Func.isWrapper; first | (rw [if_pos (by decide +kernel)]; kernel_rfl) | (rw [if_neg (by decide +kernel)]; exact ⟨rfl, rfl⟩))
    (fun os started H enc _ => lifted os started H enc)
#print axioms proved
end Go.Proofs.Ytllbfoohhonmeaa.diskPlays
