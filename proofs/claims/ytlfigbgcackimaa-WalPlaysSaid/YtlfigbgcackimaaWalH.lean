/- Both wals opened anew: contract of the law's both.open (written by gwalh.py). -/
import Derived.Test.YtlfigbgcackimaaWalK
namespace Go.Proofs.Ytlfigbgcackimaa
open Go.RowKit Go.Fm Go.Dk Go.Wl Go.Iv
set_option linter.unusedVariables false
set_option linter.unusedSimpArgs false
set_option maxRecDepth 100000

/-- The pair's block, as its three stores come: the program's wal (a), the document's disk (b), its wal (c). -/
structure Yz (w0 : World) (y : Nat) (L : List Row) (c0 c1 c2 c3 : Array Value) (a b c : Bool) (z : World) : Prop where
  row : Whole z y 39 (if c then c3 else if b then c2 else if a then c1 else c0)
  knows : Knows z L
  off : Off (fun b => b = y) w0 z
  ord : (b = true → a = true) ∧ (c = true → b = true)
section
variable {w0 z : World} {y : Nat} {L : List Row} {c0 c1 c2 c3 : Array Value} {a b c : Bool}
theorem Yz.start (h : Whole w0 y 39 c0) (hk : Knows w0 L) : Yz w0 y L c0 c1 c2 c3 false false false w0.drew :=
  ⟨h.drewN 1, hk.drewN 1, (Off.refl _ w0).drewN 1, ⟨(fun h => by cases h), fun h => by cases h⟩⟩
theorem knows_set (hk : Knows z L) (hL : ∀ r ∈ L, r.1 ≠ y) (k : Nat) (v : Value) : Knows (z.setCell ⟨y, k, none⟩ v) L := fun r hr => (hk r hr).away (p := ⟨y, k, none⟩) (hL r hr) v
theorem Yz.s1 (h : Yz w0 y L c0 c1 c2 c3 false false false z) (hL : ∀ r ∈ L, r.1 ≠ y) (v : Value) (hc : c1 = c0.setIfInBounds 1 v) : Yz w0 y L c0 c1 c2 c3 true false false (z.setCell ⟨y, 1, none⟩ v) :=
  ⟨by have := h.row.set 1 v; simpa [hc] using this, knows_set h.knows hL 1 v, h.off.set (p := ⟨y, 1, none⟩) (.inl rfl) v, ⟨fun _ => rfl, fun h => by cases h⟩⟩
theorem Yz.s2 (h : Yz w0 y L c0 c1 c2 c3 true false false z) (hL : ∀ r ∈ L, r.1 ≠ y) (v2 v3 v4 v5 v6 : Value) (hc : c2 = ((((c1.setIfInBounds 2 v2).setIfInBounds 3 v3).setIfInBounds 4 v4).setIfInBounds 5 v5).setIfInBounds 6 v6) :
    Yz w0 y L c0 c1 c2 c3 true true false (((((z.setCell ⟨y, 2, none⟩ v2).setCell ⟨y, 3, none⟩ v3).setCell ⟨y, 4, none⟩ v4).setCell ⟨y, 5, none⟩ v5).setCell ⟨y, 6, none⟩ v6) :=
  ⟨by have := ((((h.row.set 2 v2).set 3 v3).set 4 v4).set 5 v5).set 6 v6; simpa [hc] using this,
   knows_set (knows_set (knows_set (knows_set (knows_set h.knows hL 2 v2) hL 3 v3) hL 4 v4) hL 5 v5) hL 6 v6,
   ((((h.off.set (p := ⟨y, 2, none⟩) (.inl rfl) v2).set (p := ⟨y, 3, none⟩) (.inl rfl) v3).set (p := ⟨y, 4, none⟩) (.inl rfl) v4).set (p := ⟨y, 5, none⟩) (.inl rfl) v5).set (p := ⟨y, 6, none⟩) (.inl rfl) v6, ⟨fun _ => rfl, fun h => by cases h⟩⟩
theorem Yz.s3 (h : Yz w0 y L c0 c1 c2 c3 true true false z) (hL : ∀ r ∈ L, r.1 ≠ y) (v7 v8 v9 v10 : Value) (hc : c3 = (((c2.setIfInBounds 7 v7).setIfInBounds 8 v8).setIfInBounds 9 v9).setIfInBounds 10 v10) :
    Yz w0 y L c0 c1 c2 c3 true true true ((((z.setCell ⟨y, 7, none⟩ v7).setCell ⟨y, 8, none⟩ v8).setCell ⟨y, 9, none⟩ v9).setCell ⟨y, 10, none⟩ v10) :=
  ⟨by have := (((h.row.set 7 v7).set 8 v8).set 9 v9).set 10 v10; simpa [hc] using this,
   knows_set (knows_set (knows_set (knows_set h.knows hL 7 v7) hL 8 v8) hL 9 v9) hL 10 v10,
   (((h.off.set (p := ⟨y, 7, none⟩) (.inl rfl) v7).set (p := ⟨y, 8, none⟩) (.inl rfl) v8).set (p := ⟨y, 9, none⟩) (.inl rfl) v9).set (p := ⟨y, 10, none⟩) (.inl rfl) v10, ⟨fun _ => rfl, fun _ => rfl⟩⟩
theorem Yz.free (h : Yz w0 y L c0 c1 c2 c3 a b c z) (k : Nat) : z.frozen? ⟨y, k, none⟩ = false := h.row.free k
end
theorem IsM.off1 {G F : Nat → Prop} {w w' : World} {AL : Option Addr} {cL : Nat} {AK : Option Addr} {cK : Nat} {r : Rf} (h : IsM G w AL cL AK cK r) (ho : Off F w w') (hG : ∀ b, G b → ¬ F b) : IsM G w' AL cL AK cK r := h.off ho hG

set_option maxHeartbeats 8000000 in
theorem bopen_ok (W w : World) (y g : Nat) (q : Option Nat) (F : Nat → Prop) (d : D) (AL : Option Addr) (cL : Nat) (AK : Option Addr) (cK : Nat) (r : Rf) (AV : Option Addr) (cV : Nat) (u : Rw) (h : Yx W w y g q F d AL cL AK cK r AV cV u) (o : Rok r) (hrel : Rel r d) (hlen : 1 < r.logs.length) (hacts : d.acts + 1 ≤ 9223372036854775807) (h0 : (opens d 1).2 = 0) :
    Calls Try.prog 12 #[ptr y] w fun e w' => e = .returned (.bool true) ∧ ∃ p F' AL' cL' AK' cK' AV' cV', Yx W w' y g (some p) F' (opens d 1).1 AL' cL' AK' cK' (Wl.Rf.opn r 1).1 AV' cV' (Wl.Rf.opn r 1).2.1 := by
  have hin : (0 : Int) ≤ 1 ∧ (1 : Int) < r.logs.length := by omega
  obtain ⟨q1, q2, q3⟩ := rel_opens hrel hin
  have hall : (d.of 1).all = r.bytes 1 := by
    rw [hrel.of (by rw [hrel.len]; exact hin)]
    unfold Rf.bytes
    rw [if_pos hin]; rfl
  have hbl : (r.bytes 1).length ≤ 4194304 := by rw [← hall]; exact (okay_of (h.dsk.ok) 1).2
  have hOP := open_any g d F 1 (w64 1 (by omega)) hacts w h.dsk
  have HOP : Hid (Calls Try.prog 24 #[ptr g, .int .i64 1] w fun e w' => ∃ p h R, e = .returned (.tuple #[ptr p, .slice (some ⟨h, 0, none⟩) (scan (d.of 1).all).1.length (scan (d.of 1).all).1.length, .int .i64 0]) ∧ Opened F w w' g p h (opens d 1).1 1 R (scan (d.of 1).all).1) := Lib.hid (hOP.mono fun e w' ⟨_, hb⟩ => hb h0)
  have hq2 : (Wl.Rf.opn r 1).2.2 = 0 := q1 ▸ h0
  have hq3 := q3 hq2
  have HRO := Lib.hid (fun w' G0 hm => ropen8_any r o G0 AL cL AK cK 1 (w64 1 (by omega)) hin w' hm hbl)
  have HQ3 := Lib.hid hq3
  have HY := Lib.hid h
  have f0 := h.face.cell 0
  simp only [ycells] at f0
  have hls : (scan (d.of 1).all).1.length ≤ 4194304 := by
    have := frames_many (scan (d.of 1).all).1
    have h2 := scan_le (d.of 1).all
    rw [← scan_take, List.length_take, hall] at this
    rw [hall] at h2 ⊢
    omega
  clear hOP q1 q2 q3 hall hbl h o hrel
  generalize (opens d 1).1 = d' at *
  unfold RWOpens at HRO
  rw [hq2, hq3] at HRO
  rw [hq3]
  clear hq2 hq3 HQ3 h0
  generalize (Wl.Rf.opn r 1).1 = r' at *
  generalize (scan (d.of 1).all).1 = ls at *
  unfold vM vW Rw.fresh at HRO
  go_enter Try.func12, Try.ntmps12
  go_wp2_with fail
  refine HOP.out.mono ?_
  rintro e w1 ⟨p, hh, R, rfl, hop⟩
  have HO := Lib.hid hop
  have hyw : Whole w1 y 39 _ := hop.off.whole HY.out.face HY.out.new.2.1
  obtain ⟨⟨g0, g1, g2, g3, g4⟩, -⟩ : (w1.cell? ⟨y, 2, none⟩ = some (.slice AL r.logs.length cL) ∧ w1.cell? ⟨y, 3, none⟩ = some (.int .i64 r.acts) ∧ w1.cell? ⟨y, 4, none⟩ = some (.bool r.off) ∧ w1.cell? ⟨y, 5, none⟩ = some (.int .i64 r.armed) ∧ w1.cell? ⟨y, 6, none⟩ = some (.slice AK r.keep.length cK)) ∧ True := ⟨⟨hyw.cell 2, hyw.cell 3, hyw.cell 4, hyw.cell 5, hyw.cell 6⟩, trivial⟩
  have HYW := Lib.hid hyw
  have HM1 := Lib.hid ((HY.out.disk.mono (H := fun b => Out F y q b ∧ b < w.heap.size) fun b hb h => ⟨h, hb⟩).off hop.off fun b hb => hb.1.1)
  have HR1 := Lib.hid (HRO.out w1 _ HM1.out)
  clear hop hyw HOP HRO f0
  go_wp2_with fail
  refine HR1.out.mono ?_
  rintro e w2 ⟨A1, c1, A2, c2, A3, c3, rfl, hb2, hm2, hw2⟩
  have HB2 := Lib.hid hb2
  have HM2 := Lib.hid (hm2 _ HM1.out)
  have HW2 := Lib.hid hw2
  have HYW2 := Lib.hid (HYW.out.below hb2 HYW.out.lt)
  clear g0 g1 g2 g3 g4 hb2 hm2 hw2 HR1
  -- the boxes
  have st := ((((St.start w2).alloc w2.heap.size rfl 30 #[.slice none 0 0, .int .i64 0, .bool false, .int .i64 0, .slice none 0 0])).alloc (w2.heap.size + 1) (by simp) 37 #[.int .i64 0, .slice none 0 0, .int .i64 0, .bool false])
  have HST := Lib.hid st
  have HLY : Hid (∀ r ∈ ([(w2.heap.size, 30, #[.slice A1 r'.logs.length c1, .int .i64 r'.acts, .bool r'.off, .int .i64 r'.armed, .slice A2 r'.keep.length c2]), (w2.heap.size + 1, 37, #[.int .i64 1, .slice A3 ls.length c3, .int .i64 ls.length, .bool false])] : List Row), r.1 ≠ y) := Lib.hid fun r hr => by
    have := HYW2.out.lt
    simp only [List.mem_cons, List.not_mem_nil, or_false] at hr
    rcases hr with rfl | rfl <;> (show _ ≠ _; simp only; omega)
  have H3 : Hid (St w2 _ [(w2.heap.size, 30, #[.slice A1 r'.logs.length c1, .int .i64 r'.acts, .bool r'.off, .int .i64 r'.armed, .slice A2 r'.keep.length c2]), (w2.heap.size + 1, 37, #[.int .i64 1, .slice A3 ls.length c3, .int .i64 ls.length, .bool false])]) := Lib.hid ((((St.start w2).alloc w2.heap.size rfl 30 #[.slice A1 r'.logs.length c1, .int .i64 r'.acts, .bool r'.off, .int .i64 r'.armed, .slice A2 r'.keep.length c2]).alloc (w2.heap.size + 1) (by simp) 37 #[.int .i64 1, .slice A3 ls.length c3, .int .i64 ls.length, .bool false]).few (fun r hr => by
      simp only [List.mem_cons, List.not_mem_nil, or_false] at hr ⊢
      rcases hr with h | h <;> simp [h]))
  clear st HST
  go_upto_region 3 with fail
  generalize (w2.alloc (.cells #[.slice A1 r'.logs.length c1, .int .i64 r'.acts, .bool r'.off, .int .i64 r'.armed, .slice A2 r'.keep.length c2] 30)).alloc (.cells #[.int .i64 1, .slice A3 ls.length c3, .int .i64 ls.length, .bool false] 37) = w3 at *
  have HC0 : Hid (Whole w3 y 39 (#[ptr g, wptr q, .slice AL r.logs.length cL, .int .i64 r.acts, .bool r.off, .int .i64 r.armed, .slice AK r.keep.length cK, .int .i64 u.log, .slice AV u.ls.length cV, .int .i64 u.sure, .bool u.dead])) := Lib.hid (HYW2.out.below H3.out.below HYW2.out.lt)
  refine Iv.region (fun f aa z => aa = ⟨#[ptr y, undef, .bool false, ptr p, .slice (some ⟨hh, 0, none⟩) ls.length ls.length, .int .i64 0, .pointer (some ⟨w2.heap.size, 0, none⟩), .pointer (some ⟨w2.heap.size + 1, 0, none⟩), .int .i64 0, .tuple #[ptr p, .slice (some ⟨hh, 0, none⟩) ls.length ls.length, .int .i64 0], ptr y, .pointer (some ⟨y, 0, none⟩), .pointer (some ⟨y, 0, none⟩), ptr g, .tuple #[ptr p, .slice (some ⟨hh, 0, none⟩) ls.length ls.length, .int .i64 0], ptr p, .slice (some ⟨hh, 0, none⟩) ls.length ls.length, .int .i64 0, .tuple #[.agg #[.slice A1 r'.logs.length c1, .int .i64 r'.acts, .bool r'.off, .int .i64 r'.armed, .slice A2 r'.keep.length c2], .agg #[.int .i64 1, .slice A3 ls.length c3, .int .i64 ls.length, .bool false], .int .i64 0], ptr y, .pointer (some ⟨y, 0, none⟩), .pointer (some ⟨y, 2, none⟩), .agg #[.slice AL r.logs.length cL, .int .i64 r.acts, .bool r.off, .int .i64 r.armed, .slice AK r.keep.length cK], .tuple #[.agg #[.slice A1 r'.logs.length c1, .int .i64 r'.acts, .bool r'.off, .int .i64 r'.armed, .slice A2 r'.keep.length c2], .agg #[.int .i64 1, .slice A3 ls.length c3, .int .i64 ls.length, .bool false], .int .i64 0], .agg #[.slice A1 r'.logs.length c1, .int .i64 r'.acts, .bool r'.off, .int .i64 r'.armed, .slice A2 r'.keep.length c2], .agg #[.int .i64 1, .slice A3 ls.length c3, .int .i64 ls.length, .bool false], .int .i64 0, sl (f 0) (ptr y), sl (f 1) (ptr y), sl (f 2) (ptr y), sl (f 3) (ptr p), sl (f 4) (.agg #[.slice A1 r'.logs.length c1, .int .i64 r'.acts, .bool r'.off, .int .i64 r'.armed, .slice A2 r'.keep.length c2]), sl (f 5) (.agg #[.int .i64 1, .slice A3 ls.length c3, .int .i64 ls.length, .bool false]), sl (f 6) (.pointer (some ⟨y, 0, none⟩)), sl (f 7) (.pointer (some ⟨y, 1, none⟩)), sl (f 9) (.pointer (some ⟨y, 0, none⟩)), sl (f 10) (.pointer (some ⟨y, 2, none⟩)), sl (f 12) (.pointer (some ⟨y, 0, none⟩)), sl (f 13) (.pointer (some ⟨y, 7, none⟩)), undef, undef, undef, undef, undef, undef, undef, undef, undef, undef, undef, undef, undef, undef, undef, undef], []⟩ ∧ Yz w3 y [(w2.heap.size, 30, #[.slice A1 r'.logs.length c1, .int .i64 r'.acts, .bool r'.off, .int .i64 r'.armed, .slice A2 r'.keep.length c2]), (w2.heap.size + 1, 37, #[.int .i64 1, .slice A3 ls.length c3, .int .i64 ls.length, .bool false])] (#[ptr g, wptr q, .slice AL r.logs.length cL, .int .i64 r.acts, .bool r.off, .int .i64 r.armed, .slice AK r.keep.length cK, .int .i64 u.log, .slice AV u.ls.length cV, .int .i64 u.sure, .bool u.dead]) (#[ptr g, ptr p, .slice AL r.logs.length cL, .int .i64 r.acts, .bool r.off, .int .i64 r.armed, .slice AK r.keep.length cK, .int .i64 u.log, .slice AV u.ls.length cV, .int .i64 u.sure, .bool u.dead]) (#[ptr g, ptr p, .slice A1 r'.logs.length c1, .int .i64 r'.acts, .bool r'.off, .int .i64 r'.armed, .slice A2 r'.keep.length c2, .int .i64 u.log, .slice AV u.ls.length cV, .int .i64 u.sure, .bool u.dead]) (#[ptr g, ptr p, .slice A1 r'.logs.length c1, .int .i64 r'.acts, .bool r'.off, .int .i64 r'.armed, .slice A2 r'.keep.length c2, .int .i64 1, .slice A3 ls.length c3, .int .i64 ls.length, .bool false]) (f 8) (f 11) (f 14) z) (by kernel_rfl) (by kernel_rfl) ?_ ?_ ?_
  · exact ⟨rfl, Yz.start HC0.out H3.out.knows⟩
  · refine ⟨?_, ?_, ?_, ?_, ?_, ?_, ?_, ?_, ?_, ?_, ?_, ?_, ?_, ?_, ?_, trivial⟩
    · rintro f a0 z Q' ⟨rfl, hw⟩ hi hd hQ
      replace hQ := Lib.hid hQ
      simp [Iv.depsB, Region.binds] at hd
      try simp only [hi, hd, sl_true, sl_false]
      try simp only [hi, sl_true, sl_false]
      have HWW := Lib.hid hw
      clear hw
      go_wp2_with fail
      refine hQ.out _ _ ⟨?_, ?_⟩
      · simp [Iv.upd, hi, hd, sl_true, sl_false]
      · simpa [Iv.upd, hi, hd] using HWW.out
    · rintro f a0 z Q' ⟨rfl, hw⟩ hi hd hQ
      replace hQ := Lib.hid hQ
      simp [Iv.depsB, Region.binds] at hd
      try simp only [hi, hd, sl_true, sl_false]
      try simp only [hi, sl_true, sl_false]
      have HWW := Lib.hid hw
      clear hw
      go_wp2_with fail
      refine hQ.out _ _ ⟨?_, ?_⟩
      · simp [Iv.upd, hi, hd, sl_true, sl_false]
      · simpa [Iv.upd, hi, hd] using HWW.out
    · rintro f a0 z Q' ⟨rfl, hw⟩ hi hd hQ
      replace hQ := Lib.hid hQ
      simp [Iv.depsB, Region.binds] at hd
      try simp only [hi, hd, sl_true, sl_false]
      try simp only [hi, sl_true, sl_false]
      have HWW := Lib.hid hw
      clear hw
      go_wp2_with fail
      refine hQ.out _ _ ⟨?_, ?_⟩
      · simp [Iv.upd, hi, hd, sl_true, sl_false]
      · simpa [Iv.upd, hi, hd] using HWW.out
    · rintro f a0 z Q' ⟨rfl, hw⟩ hi hd hQ
      replace hQ := Lib.hid hQ
      simp [Iv.depsB, Region.binds] at hd
      try simp only [hi, hd, sl_true, sl_false]
      try simp only [hi, sl_true, sl_false]
      have HWW := Lib.hid hw
      clear hw
      go_wp2_with fail
      refine hQ.out _ _ ⟨?_, ?_⟩
      · simp [Iv.upd, hi, hd, sl_true, sl_false]
      · simpa [Iv.upd, hi, hd] using HWW.out
    · rintro f a0 z Q' ⟨rfl, hw⟩ hi hd hQ
      replace hQ := Lib.hid hQ
      simp [Iv.depsB, Region.binds] at hd
      try simp only [hi, hd, sl_true, sl_false]
      try simp only [hi, sl_true, sl_false]
      obtain ⟨⟨k0, k1, k2, k3, k4⟩, -⟩ := (hw.knows.at 0 rfl).five
      have HWW := Lib.hid hw
      clear hw
      go_wp2_with fail
      refine hQ.out _ _ ⟨?_, ?_⟩
      · simp [Iv.upd, hi, hd, sl_true, sl_false]
      · simpa [Iv.upd, hi, hd] using HWW.out
    · rintro f a0 z Q' ⟨rfl, hw⟩ hi hd hQ
      replace hQ := Lib.hid hQ
      simp [Iv.depsB, Region.binds] at hd
      try simp only [hi, hd, sl_true, sl_false]
      try simp only [hi, sl_true, sl_false]
      obtain ⟨⟨k0, k1, k2, k3⟩, -⟩ := (hw.knows.at 1 rfl).four
      have HWW := Lib.hid hw
      clear hw
      go_wp2_with fail
      refine hQ.out _ _ ⟨?_, ?_⟩
      · simp [Iv.upd, hi, hd, sl_true, sl_false]
      · simpa [Iv.upd, hi, hd] using HWW.out
    · rintro f a0 z Q' ⟨rfl, hw⟩ hi hd hQ
      replace hQ := Lib.hid hQ
      simp [Iv.depsB, Region.binds] at hd
      try simp only [hi, hd, sl_true, sl_false]
      try simp only [hi, sl_true, sl_false]
      have HWW := Lib.hid hw
      clear hw
      go_wp2_with fail
      refine hQ.out _ _ ⟨?_, ?_⟩
      · simp [Iv.upd, hi, hd, sl_true, sl_false]
      · simpa [Iv.upd, hi, hd] using HWW.out
    · rintro f a0 z Q' ⟨rfl, hw⟩ hi hd hQ
      replace hQ := Lib.hid hQ
      simp [Iv.depsB, Region.binds] at hd
      try simp only [hi, hd, sl_true, sl_false]
      try simp only [hi, sl_true, sl_false]
      have HWW := Lib.hid hw
      clear hw
      go_wp2_with fail
      refine hQ.out _ _ ⟨?_, ?_⟩
      · simp [Iv.upd, hi, hd, sl_true, sl_false]
      · simpa [Iv.upd, hi, hd] using HWW.out
    · rintro f a0 z Q' ⟨rfl, hw⟩ hi hd hQ
      replace hQ := Lib.hid hQ
      simp [Iv.depsB, Region.binds] at hd
      try simp only [hi, hd, sl_true, sl_false]
      try simp only [hi, sl_true, sl_false]
      have e11 : f 11 = false := by
        cases e : f 11 with
        | false => rfl
        | true => have := hw.ord.1 e; simp [hi] at this
      have e14 : f 14 = false := by
        cases e : f 14 with
        | false => rfl
        | true => have := hw.ord.2 e; simp [e11] at this
      have d7 : f 7 = true := by simp [hd]
      have d3 : f 3 = true := by simp [hd]
      rw [hi, e11, e14] at hw
      try simp only [d7, d3, sl_true]
      have hr : Whole z y 39 (#[ptr g, wptr q, .slice AL r.logs.length cL, .int .i64 r.acts, .bool r.off, .int .i64 r.armed, .slice AK r.keep.length cK, .int .i64 u.log, .slice AV u.ls.length cV, .int .i64 u.sure, .bool u.dead]) := by simpa [hi, e11, e14, d7, d3] using hw.row
      have x1 := hr.cell 1
      have f1 := hr.free 1
      have HZ := Lib.hid (hw.s1 HLY.out (ptr p) rfl)
      clear hr hw
      go_wp2_with fail
      refine hQ.out _ _ ⟨?_, ?_⟩
      · simp [Iv.upd, hi, hd, e11, e14, d7, d3, sl_true, sl_false]
      · simpa [Iv.upd, hi, hd, e11, e14, d7, d3] using HZ.out
    · rintro f a0 z Q' ⟨rfl, hw⟩ hi hd hQ
      replace hQ := Lib.hid hQ
      simp [Iv.depsB, Region.binds] at hd
      try simp only [hi, hd, sl_true, sl_false]
      try simp only [hi, sl_true, sl_false]
      have HWW := Lib.hid hw
      clear hw
      go_wp2_with fail
      refine hQ.out _ _ ⟨?_, ?_⟩
      · simp [Iv.upd, hi, hd, sl_true, sl_false]
      · simpa [Iv.upd, hi, hd] using HWW.out
    · rintro f a0 z Q' ⟨rfl, hw⟩ hi hd hQ
      replace hQ := Lib.hid hQ
      simp [Iv.depsB, Region.binds] at hd
      try simp only [hi, hd, sl_true, sl_false]
      try simp only [hi, sl_true, sl_false]
      have HWW := Lib.hid hw
      clear hw
      go_wp2_with fail
      refine hQ.out _ _ ⟨?_, ?_⟩
      · simp [Iv.upd, hi, hd, sl_true, sl_false]
      · simpa [Iv.upd, hi, hd] using HWW.out
    · rintro f a0 z Q' ⟨rfl, hw⟩ hi hd hQ
      replace hQ := Lib.hid hQ
      simp [Iv.depsB, Region.binds] at hd
      try simp only [hi, hd, sl_true, sl_false]
      try simp only [hi, sl_true, sl_false]
      have e14 : f 14 = false := by
        cases e : f 14 with
        | false => rfl
        | true => have := hw.ord.2 e; simp [hi] at this
      have d8 : f 8 = true := by simp [hd]
      have d10 : f 10 = true := by simp [hd]
      have d4 : f 4 = true := by simp [hd]
      rw [hi, e14, d8] at hw
      try simp only [d10, d4, sl_true]
      have hr : Whole z y 39 (#[ptr g, ptr p, .slice AL r.logs.length cL, .int .i64 r.acts, .bool r.off, .int .i64 r.armed, .slice AK r.keep.length cK, .int .i64 u.log, .slice AV u.ls.length cV, .int .i64 u.sure, .bool u.dead]) := by simpa [hi, e14, d8, d10, d4] using hw.row
      have x2 := hr.cell 2
      have x3 := hr.cell 3
      have x4 := hr.cell 4
      have x5 := hr.cell 5
      have x6 := hr.cell 6
      have f2 := hr.free 2
      have f3 := hr.free 3
      have f4 := hr.free 4
      have f5 := hr.free 5
      have f6 := hr.free 6
      have HZ := Lib.hid (hw.s2 HLY.out (.slice A1 r'.logs.length c1) (.int .i64 r'.acts) (.bool r'.off) (.int .i64 r'.armed) (.slice A2 r'.keep.length c2) rfl)
      clear hr hw
      go_wp2_with fail
      refine hQ.out _ _ ⟨?_, ?_⟩
      · simp [Iv.upd, hi, hd, e14, d8, d10, d4, sl_true, sl_false]
      · simpa [Iv.upd, hi, hd, e14, d8, d10, d4] using HZ.out
    · rintro f a0 z Q' ⟨rfl, hw⟩ hi hd hQ
      replace hQ := Lib.hid hQ
      simp [Iv.depsB, Region.binds] at hd
      try simp only [hi, hd, sl_true, sl_false]
      try simp only [hi, sl_true, sl_false]
      have HWW := Lib.hid hw
      clear hw
      go_wp2_with fail
      refine hQ.out _ _ ⟨?_, ?_⟩
      · simp [Iv.upd, hi, hd, sl_true, sl_false]
      · simpa [Iv.upd, hi, hd] using HWW.out
    · rintro f a0 z Q' ⟨rfl, hw⟩ hi hd hQ
      replace hQ := Lib.hid hQ
      simp [Iv.depsB, Region.binds] at hd
      try simp only [hi, hd, sl_true, sl_false]
      try simp only [hi, sl_true, sl_false]
      have HWW := Lib.hid hw
      clear hw
      go_wp2_with fail
      refine hQ.out _ _ ⟨?_, ?_⟩
      · simp [Iv.upd, hi, hd, sl_true, sl_false]
      · simpa [Iv.upd, hi, hd] using HWW.out
    · rintro f a0 z Q' ⟨rfl, hw⟩ hi hd hQ
      replace hQ := Lib.hid hQ
      simp [Iv.depsB, Region.binds] at hd
      try simp only [hi, hd, sl_true, sl_false]
      try simp only [hi, sl_true, sl_false]
      have d11 : f 11 = true := by simp [hd]
      have d8 : f 8 = true := hw.ord.1 d11
      have d13 : f 13 = true := by simp [hd]
      have d5 : f 5 = true := by simp [hd]
      rw [hi, d11, d8] at hw
      try simp only [d13, d5, sl_true]
      have hr : Whole z y 39 (#[ptr g, ptr p, .slice A1 r'.logs.length c1, .int .i64 r'.acts, .bool r'.off, .int .i64 r'.armed, .slice A2 r'.keep.length c2, .int .i64 u.log, .slice AV u.ls.length cV, .int .i64 u.sure, .bool u.dead]) := by simpa [hi, d11, d8, d13, d5] using hw.row
      have x7 := hr.cell 7
      have x8 := hr.cell 8
      have x9 := hr.cell 9
      have x10 := hr.cell 10
      have f7 := hr.free 7
      have f8 := hr.free 8
      have f9 := hr.free 9
      have f10 := hr.free 10
      have HZ := Lib.hid (hw.s3 HLY.out (.int .i64 1) (.slice A3 ls.length c3) (.int .i64 ls.length) (.bool false) rfl)
      clear hr hw
      go_wp2_with fail
      refine hQ.out _ _ ⟨?_, ?_⟩
      · simp [Iv.upd, hi, hd, d11, d8, d13, d5, sl_true, sl_false]
      · simpa [Iv.upd, hi, hd, d11, d8, d13, d5] using HZ.out
  · rintro f a0 z ⟨rfl, hw⟩ hall
    simp only [hall 0 (by decide), hall 1 (by decide), hall 2 (by decide), hall 3 (by decide), hall 4 (by decide), hall 5 (by decide), hall 6 (by decide), hall 7 (by decide), hall 8 (by decide), hall 9 (by decide), hall 10 (by decide), hall 11 (by decide), hall 12 (by decide), hall 13 (by decide), hall 14 (by decide), sl_true, ↓reduceIte] at hw ⊢
    clear hall
    have HR3 := Lib.hid (show Whole z y 39 _ by simpa using hw.row)
    have HOF := Lib.hid hw.off
    have HZK : Hid (∀ x t cs, Whole w1 x t cs → x ≠ y → Whole z x t cs) := Lib.hid fun x t cs hx hne => HOF.out.whole ((hx.below HB2.out hx.lt).below H3.out.below (by have := hx.lt; have := HB2.out.size; omega)) hne
    have hyw : y < w.heap.size := HY.out.face.lt
    have HKR : Hid (Knows z R) := Lib.hid fun r hr => HZK.out _ _ _ (HO.out.knows r hr) (by have := (HO.out.far r hr).1; omega)
    have HLZ : Hid (IsW (fun b => w1.heap.size ≤ b) z A3 c3 (Rw.fresh 1 ls)) := Lib.hid (seen_off (Seen.call HW2.out H3.out.below) HOF.out fun b hb e => by
      have hb : w1.heap.size ≤ b := hb
      have := HO.out.off.size
      omega)
    obtain ⟨⟨-, k1, -, -⟩, -⟩ := (hw.knows.at 1 rfl).four
    have HSAME := Lib.hid (same_any z.heap.size z.heap.size (some ⟨hh, 0, none⟩) A3 ls.length c3 ls ls z (by omega) (HO.out.told.shows z HKR.out) (HLZ.out.sees) (Nat.le_refl _) (Nat.le_refl _))
    rw [decide_eq_true rfl] at HSAME
    have HHW : Hid (Below w1.heap.size w1 w3 ∧ w3.heap.size ≤ z.heap.size) := Lib.hid ⟨HB2.out.trans (H3.out.below.mono HB2.out.size), hw.off.size⟩
    have HM3 := Lib.hid ((HM2.out.call H3.out.below).off HOF.out fun b hb e => by
      subst e
      rcases hb with hb | hb
      · exact hb.1.2.1 rfl
      · have := HO.out.off.size
        omega)
    clear hw
    go_wp2_with fail
    refine HSAME.out.mono ?_
    rintro e z2 ⟨rfl, hb⟩
    have HBZ := Lib.hid hb
    clear hb HSAME k1
    go_wp2_with fail
    go_ret
    have hy := HY.out
    have ho := HO.out
    obtain ⟨F', hF, hwx, -⟩ := ho.wal
    have hsz := ho.off.size
    have hF' : ∀ b, F' b → b ≠ y := fun b hb e => by
      subst e
      rcases hF b hb with h | h
      · exact hy.new.2.1 h
      · omega
    refine ⟨rfl, p, F', A1, c1, A2, c2, A3, c3, Yx.call ⟨?_, HR3.out, ?_, ?_, ⟨hy.new.1, fun h => hF' y h rfl, fun b hb => ?_⟩, ?_, ?_⟩ HBZ.out⟩
    · exact ((hy.below.trans (ho.off.below hy.below.size fun b hb => hy.new.2.2 b hb)).trans (HHW.out.1.mono (by have := hy.below.size; omega))).trans (HOF.out.below (by have := hy.below.size; have := HHW.out.1.size; omega) fun b e => by rw [e]; exact hy.new.1)
    · obtain ⟨a, b, c, x⟩ := hwx.dsk.call HHW.out.1
      exact ⟨a, b, c, x.off HOF.out fun b hb e => hF' b hb e⟩
    · intro p' hp'
      injection hp' with hp'
      subst hp'
      have hpn := ho.new
      have hpy : p ≠ y := by omega
      exact ⟨HZK.out _ _ _ hwx.face hpy, hwx.out, hpy, by have := hy.below.size; omega⟩
    · rcases hF b hb with h | h
      · exact hy.new.2.2 b h
      · have := hy.below.size; omega
    · refine HM3.out.mono fun b _ hb => ⟨fun hf => ?_, fun e => ?_, fun e => ?_⟩
      · rcases hb with hb | hb
        · rcases hF b hf with h | h
          · exact hb.1.1 h
          · have := hb.2; omega
        · have := hwx.dsk.low hf; omega
      · subst e
        rcases hb with hb | hb
        · exact hb.1.2.1 rfl
        · omega
      · injection e with e
        have hpn := ho.new
        have hpl := hwx.face.lt
        rcases hb with hb | hb
        · have := hb.2; omega
        · omega
    · refine Seen.mono HLZ.out fun b _ hb => ⟨fun hf => ?_, fun e => ?_, fun e => ?_⟩
      · have := hwx.dsk.low hf; omega
      · omega
      · injection e with e
        have hpl := hwx.face.lt
        omega

theorem opn_none (r : Rf) (log : Int) (h : (Wl.Rf.opn r log).2.2 ≠ 0) : (Wl.Rf.opn r log).2.1 = Rw.none := by
  unfold Wl.Rf.opn Wl.Rf.opn2 at h ⊢
  split at h
  · rename_i h1; rw [if_pos h1]
  · rename_i h1
    rw [if_neg h1]
    split at h
    · rename_i h2
      rw [if_pos h2]
      split at h
      · exact absurd rfl h
      · rename_i h3; rw [if_neg h3]
    · rename_i h2
      rw [if_neg h2]
      split at h
      · rename_i h3
        rw [if_pos h3]
        split at h
        · exact absurd rfl h
        · rename_i h4; rw [if_neg h4]
      · exact absurd rfl h
set_option maxHeartbeats 8000000 in
theorem bopen_err (W w : World) (y g : Nat) (q : Option Nat) (F : Nat → Prop) (d : D) (AL : Option Addr) (cL : Nat) (AK : Option Addr) (cK : Nat) (r : Rf) (AV : Option Addr) (cV : Nat) (u : Rw) (h : Yx W w y g q F d AL cL AK cK r AV cV u) (o : Rok r) (hrel : Rel r d) (hlen : 1 < r.logs.length) (hacts : d.acts + 1 ≤ 9223372036854775807) (h0 : (opens d 1).2 ≠ 0) :
    Calls Try.prog 12 #[ptr y] w fun e w' => e = .returned (.bool true) ∧ ∃ F' AL' cL' AK' cK' AV' cV', Yx W w' y g none F' (opens d 1).1 AL' cL' AK' cK' (Wl.Rf.opn r 1).1 AV' cV' (Wl.Rf.opn r 1).2.1 := by
  have hin : (0 : Int) ≤ 1 ∧ (1 : Int) < r.logs.length := by omega
  obtain ⟨q1, q2, q3⟩ := rel_opens hrel hin
  have hall : (d.of 1).all = r.bytes 1 := by
    rw [hrel.of (by rw [hrel.len]; exact hin)]
    unfold Rf.bytes
    rw [if_pos hin]; rfl
  have hbl : (r.bytes 1).length ≤ 4194304 := by rw [← hall]; exact (okay_of (h.dsk.ok) 1).2
  have hOP := open_any g d F 1 (w64 1 (by omega)) hacts w h.dsk
  have HOP : Hid (Calls Try.prog 24 #[ptr g, .int .i64 1] w fun e w' => e = .returned (.tuple #[.pointer none, .slice none 0 0, .int .i64 (opens d 1).2]) ∧ Moved F w w' g (opens d 1).1) := Lib.hid (hOP.mono fun e w' ⟨ha, _⟩ => ha h0)
  have hq2 : (Wl.Rf.opn r 1).2.2 = (opens d 1).2 := q1.symm
  have hq3 := opn_none r 1 (by rw [hq2]; exact h0)
  obtain ⟨E, hE⟩ : ∃ E, E = (opens d 1).2 := ⟨_, rfl⟩
  rw [← hE] at hq2 HOP h0
  have HRO := Lib.hid (fun w' G0 hm => ropen8_any r o G0 AL cL AK cK 1 (w64 1 (by omega)) hin w' hm hbl)
  have HQ3 := Lib.hid hq3
  have HY := Lib.hid h
  have f0 := h.face.cell 0
  simp only [ycells] at f0
  clear hOP q1 q2 q3 hall hbl h o hrel hE
  generalize (opens d 1).1 = d' at *
  unfold RWOpens at HRO
  rw [hq2, hq3] at HRO
  rw [hq3]
  clear hq2 hq3 HQ3
  have qE : (E == 0) = false := by simpa using h0
  clear h0
  generalize (Wl.Rf.opn r 1).1 = r' at *
  simp only [vM, vW, Rw.none, List.length_nil] at HRO
  go_enter Try.func12, Try.ntmps12
  go_wp2_with fail
  refine HOP.out.mono ?_
  rintro e w1 ⟨rfl, hop⟩
  have HO := Lib.hid hop
  have hyw : Whole w1 y 39 _ := hop.off.whole HY.out.face HY.out.new.2.1
  obtain ⟨⟨g0, g1, g2, g3, g4⟩, -⟩ : (w1.cell? ⟨y, 2, none⟩ = some (.slice AL r.logs.length cL) ∧ w1.cell? ⟨y, 3, none⟩ = some (.int .i64 r.acts) ∧ w1.cell? ⟨y, 4, none⟩ = some (.bool r.off) ∧ w1.cell? ⟨y, 5, none⟩ = some (.int .i64 r.armed) ∧ w1.cell? ⟨y, 6, none⟩ = some (.slice AK r.keep.length cK)) ∧ True := ⟨⟨hyw.cell 2, hyw.cell 3, hyw.cell 4, hyw.cell 5, hyw.cell 6⟩, trivial⟩
  have HYW := Lib.hid hyw
  have HM1 := Lib.hid ((HY.out.disk.mono (H := fun b => Out F y q b ∧ b < w.heap.size) fun b hb h => ⟨h, hb⟩).off hop.off fun b hb => hb.1.1)
  have HR1 := Lib.hid (HRO.out w1 _ HM1.out)
  clear hop hyw HOP HRO f0
  go_wp2_with fail
  refine HR1.out.mono ?_
  rintro e w2 ⟨A1, c1, A2, c2, A3, c3, rfl, hb2, hm2, hw2⟩
  have HB2 := Lib.hid hb2
  have HM2 := Lib.hid (hm2 _ HM1.out)
  have HW2 := Lib.hid hw2
  have HYW2 := Lib.hid (HYW.out.below hb2 HYW.out.lt)
  clear g0 g1 g2 g3 g4 hb2 hm2 hw2 HR1
  -- the boxes
  have st := ((((St.start w2).alloc w2.heap.size rfl 30 #[.slice none 0 0, .int .i64 0, .bool false, .int .i64 0, .slice none 0 0])).alloc (w2.heap.size + 1) (by simp) 37 #[.int .i64 0, .slice none 0 0, .int .i64 0, .bool false])
  have HST := Lib.hid st
  have HLY : Hid (∀ r ∈ ([(w2.heap.size, 30, #[.slice A1 r'.logs.length c1, .int .i64 r'.acts, .bool r'.off, .int .i64 r'.armed, .slice A2 r'.keep.length c2]), (w2.heap.size + 1, 37, #[.int .i64 0, .slice A3 0 c3, .int .i64 0, .bool false])] : List Row), r.1 ≠ y) := Lib.hid fun r hr => by
    have := HYW2.out.lt
    simp only [List.mem_cons, List.not_mem_nil, or_false] at hr
    rcases hr with rfl | rfl <;> (show _ ≠ _; simp only; omega)
  have H3 : Hid (St w2 _ [(w2.heap.size, 30, #[.slice A1 r'.logs.length c1, .int .i64 r'.acts, .bool r'.off, .int .i64 r'.armed, .slice A2 r'.keep.length c2]), (w2.heap.size + 1, 37, #[.int .i64 0, .slice A3 0 c3, .int .i64 0, .bool false])]) := Lib.hid ((((St.start w2).alloc w2.heap.size rfl 30 #[.slice A1 r'.logs.length c1, .int .i64 r'.acts, .bool r'.off, .int .i64 r'.armed, .slice A2 r'.keep.length c2]).alloc (w2.heap.size + 1) (by simp) 37 #[.int .i64 0, .slice A3 0 c3, .int .i64 0, .bool false]).few (fun r hr => by
      simp only [List.mem_cons, List.not_mem_nil, or_false] at hr ⊢
      rcases hr with h | h <;> simp [h]))
  clear st HST
  go_upto_region 3 with fail
  generalize (w2.alloc (.cells #[.slice A1 r'.logs.length c1, .int .i64 r'.acts, .bool r'.off, .int .i64 r'.armed, .slice A2 r'.keep.length c2] 30)).alloc (.cells #[.int .i64 0, .slice A3 0 c3, .int .i64 0, .bool false] 37) = w3 at *
  have HC0 : Hid (Whole w3 y 39 (#[ptr g, wptr q, .slice AL r.logs.length cL, .int .i64 r.acts, .bool r.off, .int .i64 r.armed, .slice AK r.keep.length cK, .int .i64 u.log, .slice AV u.ls.length cV, .int .i64 u.sure, .bool u.dead])) := Lib.hid (HYW2.out.below H3.out.below HYW2.out.lt)
  refine Iv.region (fun f aa z => aa = ⟨#[ptr y, undef, .bool false, .pointer none, .slice none 0 0, .int .i64 E, .pointer (some ⟨w2.heap.size, 0, none⟩), .pointer (some ⟨w2.heap.size + 1, 0, none⟩), .int .i64 E, .tuple #[.pointer none, .slice none 0 0, .int .i64 E], ptr y, .pointer (some ⟨y, 0, none⟩), .pointer (some ⟨y, 0, none⟩), ptr g, .tuple #[.pointer none, .slice none 0 0, .int .i64 E], .pointer none, .slice none 0 0, .int .i64 E, .tuple #[.agg #[.slice A1 r'.logs.length c1, .int .i64 r'.acts, .bool r'.off, .int .i64 r'.armed, .slice A2 r'.keep.length c2], .agg #[.int .i64 0, .slice A3 0 c3, .int .i64 0, .bool false], .int .i64 E], ptr y, .pointer (some ⟨y, 0, none⟩), .pointer (some ⟨y, 2, none⟩), .agg #[.slice AL r.logs.length cL, .int .i64 r.acts, .bool r.off, .int .i64 r.armed, .slice AK r.keep.length cK], .tuple #[.agg #[.slice A1 r'.logs.length c1, .int .i64 r'.acts, .bool r'.off, .int .i64 r'.armed, .slice A2 r'.keep.length c2], .agg #[.int .i64 0, .slice A3 0 c3, .int .i64 0, .bool false], .int .i64 E], .agg #[.slice A1 r'.logs.length c1, .int .i64 r'.acts, .bool r'.off, .int .i64 r'.armed, .slice A2 r'.keep.length c2], .agg #[.int .i64 0, .slice A3 0 c3, .int .i64 0, .bool false], .int .i64 E, sl (f 0) (ptr y), sl (f 1) (ptr y), sl (f 2) (ptr y), sl (f 3) (.pointer none), sl (f 4) (.agg #[.slice A1 r'.logs.length c1, .int .i64 r'.acts, .bool r'.off, .int .i64 r'.armed, .slice A2 r'.keep.length c2]), sl (f 5) (.agg #[.int .i64 0, .slice A3 0 c3, .int .i64 0, .bool false]), sl (f 6) (.pointer (some ⟨y, 0, none⟩)), sl (f 7) (.pointer (some ⟨y, 1, none⟩)), sl (f 9) (.pointer (some ⟨y, 0, none⟩)), sl (f 10) (.pointer (some ⟨y, 2, none⟩)), sl (f 12) (.pointer (some ⟨y, 0, none⟩)), sl (f 13) (.pointer (some ⟨y, 7, none⟩)), undef, undef, undef, undef, undef, undef, undef, undef, undef, undef, undef, undef, undef, undef, undef, undef], []⟩ ∧ Yz w3 y [(w2.heap.size, 30, #[.slice A1 r'.logs.length c1, .int .i64 r'.acts, .bool r'.off, .int .i64 r'.armed, .slice A2 r'.keep.length c2]), (w2.heap.size + 1, 37, #[.int .i64 0, .slice A3 0 c3, .int .i64 0, .bool false])] (#[ptr g, wptr q, .slice AL r.logs.length cL, .int .i64 r.acts, .bool r.off, .int .i64 r.armed, .slice AK r.keep.length cK, .int .i64 u.log, .slice AV u.ls.length cV, .int .i64 u.sure, .bool u.dead]) (#[ptr g, .pointer none, .slice AL r.logs.length cL, .int .i64 r.acts, .bool r.off, .int .i64 r.armed, .slice AK r.keep.length cK, .int .i64 u.log, .slice AV u.ls.length cV, .int .i64 u.sure, .bool u.dead]) (#[ptr g, .pointer none, .slice A1 r'.logs.length c1, .int .i64 r'.acts, .bool r'.off, .int .i64 r'.armed, .slice A2 r'.keep.length c2, .int .i64 u.log, .slice AV u.ls.length cV, .int .i64 u.sure, .bool u.dead]) (#[ptr g, .pointer none, .slice A1 r'.logs.length c1, .int .i64 r'.acts, .bool r'.off, .int .i64 r'.armed, .slice A2 r'.keep.length c2, .int .i64 0, .slice A3 0 c3, .int .i64 0, .bool false]) (f 8) (f 11) (f 14) z) (by kernel_rfl) (by kernel_rfl) ?_ ?_ ?_
  · exact ⟨rfl, Yz.start HC0.out H3.out.knows⟩
  · refine ⟨?_, ?_, ?_, ?_, ?_, ?_, ?_, ?_, ?_, ?_, ?_, ?_, ?_, ?_, ?_, trivial⟩
    · rintro f a0 z Q' ⟨rfl, hw⟩ hi hd hQ
      replace hQ := Lib.hid hQ
      simp [Iv.depsB, Region.binds] at hd
      try simp only [hi, hd, sl_true, sl_false]
      try simp only [hi, sl_true, sl_false]
      have HWW := Lib.hid hw
      clear hw
      go_wp2_with fail
      refine hQ.out _ _ ⟨?_, ?_⟩
      · simp [Iv.upd, hi, hd, sl_true, sl_false]
      · simpa [Iv.upd, hi, hd] using HWW.out
    · rintro f a0 z Q' ⟨rfl, hw⟩ hi hd hQ
      replace hQ := Lib.hid hQ
      simp [Iv.depsB, Region.binds] at hd
      try simp only [hi, hd, sl_true, sl_false]
      try simp only [hi, sl_true, sl_false]
      have HWW := Lib.hid hw
      clear hw
      go_wp2_with fail
      refine hQ.out _ _ ⟨?_, ?_⟩
      · simp [Iv.upd, hi, hd, sl_true, sl_false]
      · simpa [Iv.upd, hi, hd] using HWW.out
    · rintro f a0 z Q' ⟨rfl, hw⟩ hi hd hQ
      replace hQ := Lib.hid hQ
      simp [Iv.depsB, Region.binds] at hd
      try simp only [hi, hd, sl_true, sl_false]
      try simp only [hi, sl_true, sl_false]
      have HWW := Lib.hid hw
      clear hw
      go_wp2_with fail
      refine hQ.out _ _ ⟨?_, ?_⟩
      · simp [Iv.upd, hi, hd, sl_true, sl_false]
      · simpa [Iv.upd, hi, hd] using HWW.out
    · rintro f a0 z Q' ⟨rfl, hw⟩ hi hd hQ
      replace hQ := Lib.hid hQ
      simp [Iv.depsB, Region.binds] at hd
      try simp only [hi, hd, sl_true, sl_false]
      try simp only [hi, sl_true, sl_false]
      have HWW := Lib.hid hw
      clear hw
      go_wp2_with fail
      refine hQ.out _ _ ⟨?_, ?_⟩
      · simp [Iv.upd, hi, hd, sl_true, sl_false]
      · simpa [Iv.upd, hi, hd] using HWW.out
    · rintro f a0 z Q' ⟨rfl, hw⟩ hi hd hQ
      replace hQ := Lib.hid hQ
      simp [Iv.depsB, Region.binds] at hd
      try simp only [hi, hd, sl_true, sl_false]
      try simp only [hi, sl_true, sl_false]
      obtain ⟨⟨k0, k1, k2, k3, k4⟩, -⟩ := (hw.knows.at 0 rfl).five
      have HWW := Lib.hid hw
      clear hw
      go_wp2_with fail
      refine hQ.out _ _ ⟨?_, ?_⟩
      · simp [Iv.upd, hi, hd, sl_true, sl_false]
      · simpa [Iv.upd, hi, hd] using HWW.out
    · rintro f a0 z Q' ⟨rfl, hw⟩ hi hd hQ
      replace hQ := Lib.hid hQ
      simp [Iv.depsB, Region.binds] at hd
      try simp only [hi, hd, sl_true, sl_false]
      try simp only [hi, sl_true, sl_false]
      obtain ⟨⟨k0, k1, k2, k3⟩, -⟩ := (hw.knows.at 1 rfl).four
      have HWW := Lib.hid hw
      clear hw
      go_wp2_with fail
      refine hQ.out _ _ ⟨?_, ?_⟩
      · simp [Iv.upd, hi, hd, sl_true, sl_false]
      · simpa [Iv.upd, hi, hd] using HWW.out
    · rintro f a0 z Q' ⟨rfl, hw⟩ hi hd hQ
      replace hQ := Lib.hid hQ
      simp [Iv.depsB, Region.binds] at hd
      try simp only [hi, hd, sl_true, sl_false]
      try simp only [hi, sl_true, sl_false]
      have HWW := Lib.hid hw
      clear hw
      go_wp2_with fail
      refine hQ.out _ _ ⟨?_, ?_⟩
      · simp [Iv.upd, hi, hd, sl_true, sl_false]
      · simpa [Iv.upd, hi, hd] using HWW.out
    · rintro f a0 z Q' ⟨rfl, hw⟩ hi hd hQ
      replace hQ := Lib.hid hQ
      simp [Iv.depsB, Region.binds] at hd
      try simp only [hi, hd, sl_true, sl_false]
      try simp only [hi, sl_true, sl_false]
      have HWW := Lib.hid hw
      clear hw
      go_wp2_with fail
      refine hQ.out _ _ ⟨?_, ?_⟩
      · simp [Iv.upd, hi, hd, sl_true, sl_false]
      · simpa [Iv.upd, hi, hd] using HWW.out
    · rintro f a0 z Q' ⟨rfl, hw⟩ hi hd hQ
      replace hQ := Lib.hid hQ
      simp [Iv.depsB, Region.binds] at hd
      try simp only [hi, hd, sl_true, sl_false]
      try simp only [hi, sl_true, sl_false]
      have e11 : f 11 = false := by
        cases e : f 11 with
        | false => rfl
        | true => have := hw.ord.1 e; simp [hi] at this
      have e14 : f 14 = false := by
        cases e : f 14 with
        | false => rfl
        | true => have := hw.ord.2 e; simp [e11] at this
      have d7 : f 7 = true := by simp [hd]
      have d3 : f 3 = true := by simp [hd]
      rw [hi, e11, e14] at hw
      try simp only [d7, d3, sl_true]
      have hr : Whole z y 39 (#[ptr g, wptr q, .slice AL r.logs.length cL, .int .i64 r.acts, .bool r.off, .int .i64 r.armed, .slice AK r.keep.length cK, .int .i64 u.log, .slice AV u.ls.length cV, .int .i64 u.sure, .bool u.dead]) := by simpa [hi, e11, e14, d7, d3] using hw.row
      have x1 := hr.cell 1
      have f1 := hr.free 1
      have HZ := Lib.hid (hw.s1 HLY.out (.pointer none) rfl)
      clear hr hw
      go_wp2_with fail
      refine hQ.out _ _ ⟨?_, ?_⟩
      · simp [Iv.upd, hi, hd, e11, e14, d7, d3, sl_true, sl_false]
      · simpa [Iv.upd, hi, hd, e11, e14, d7, d3] using HZ.out
    · rintro f a0 z Q' ⟨rfl, hw⟩ hi hd hQ
      replace hQ := Lib.hid hQ
      simp [Iv.depsB, Region.binds] at hd
      try simp only [hi, hd, sl_true, sl_false]
      try simp only [hi, sl_true, sl_false]
      have HWW := Lib.hid hw
      clear hw
      go_wp2_with fail
      refine hQ.out _ _ ⟨?_, ?_⟩
      · simp [Iv.upd, hi, hd, sl_true, sl_false]
      · simpa [Iv.upd, hi, hd] using HWW.out
    · rintro f a0 z Q' ⟨rfl, hw⟩ hi hd hQ
      replace hQ := Lib.hid hQ
      simp [Iv.depsB, Region.binds] at hd
      try simp only [hi, hd, sl_true, sl_false]
      try simp only [hi, sl_true, sl_false]
      have HWW := Lib.hid hw
      clear hw
      go_wp2_with fail
      refine hQ.out _ _ ⟨?_, ?_⟩
      · simp [Iv.upd, hi, hd, sl_true, sl_false]
      · simpa [Iv.upd, hi, hd] using HWW.out
    · rintro f a0 z Q' ⟨rfl, hw⟩ hi hd hQ
      replace hQ := Lib.hid hQ
      simp [Iv.depsB, Region.binds] at hd
      try simp only [hi, hd, sl_true, sl_false]
      try simp only [hi, sl_true, sl_false]
      have e14 : f 14 = false := by
        cases e : f 14 with
        | false => rfl
        | true => have := hw.ord.2 e; simp [hi] at this
      have d8 : f 8 = true := by simp [hd]
      have d10 : f 10 = true := by simp [hd]
      have d4 : f 4 = true := by simp [hd]
      rw [hi, e14, d8] at hw
      try simp only [d10, d4, sl_true]
      have hr : Whole z y 39 (#[ptr g, .pointer none, .slice AL r.logs.length cL, .int .i64 r.acts, .bool r.off, .int .i64 r.armed, .slice AK r.keep.length cK, .int .i64 u.log, .slice AV u.ls.length cV, .int .i64 u.sure, .bool u.dead]) := by simpa [hi, e14, d8, d10, d4] using hw.row
      have x2 := hr.cell 2
      have x3 := hr.cell 3
      have x4 := hr.cell 4
      have x5 := hr.cell 5
      have x6 := hr.cell 6
      have f2 := hr.free 2
      have f3 := hr.free 3
      have f4 := hr.free 4
      have f5 := hr.free 5
      have f6 := hr.free 6
      have HZ := Lib.hid (hw.s2 HLY.out (.slice A1 r'.logs.length c1) (.int .i64 r'.acts) (.bool r'.off) (.int .i64 r'.armed) (.slice A2 r'.keep.length c2) rfl)
      clear hr hw
      go_wp2_with fail
      refine hQ.out _ _ ⟨?_, ?_⟩
      · simp [Iv.upd, hi, hd, e14, d8, d10, d4, sl_true, sl_false]
      · simpa [Iv.upd, hi, hd, e14, d8, d10, d4] using HZ.out
    · rintro f a0 z Q' ⟨rfl, hw⟩ hi hd hQ
      replace hQ := Lib.hid hQ
      simp [Iv.depsB, Region.binds] at hd
      try simp only [hi, hd, sl_true, sl_false]
      try simp only [hi, sl_true, sl_false]
      have HWW := Lib.hid hw
      clear hw
      go_wp2_with fail
      refine hQ.out _ _ ⟨?_, ?_⟩
      · simp [Iv.upd, hi, hd, sl_true, sl_false]
      · simpa [Iv.upd, hi, hd] using HWW.out
    · rintro f a0 z Q' ⟨rfl, hw⟩ hi hd hQ
      replace hQ := Lib.hid hQ
      simp [Iv.depsB, Region.binds] at hd
      try simp only [hi, hd, sl_true, sl_false]
      try simp only [hi, sl_true, sl_false]
      have HWW := Lib.hid hw
      clear hw
      go_wp2_with fail
      refine hQ.out _ _ ⟨?_, ?_⟩
      · simp [Iv.upd, hi, hd, sl_true, sl_false]
      · simpa [Iv.upd, hi, hd] using HWW.out
    · rintro f a0 z Q' ⟨rfl, hw⟩ hi hd hQ
      replace hQ := Lib.hid hQ
      simp [Iv.depsB, Region.binds] at hd
      try simp only [hi, hd, sl_true, sl_false]
      try simp only [hi, sl_true, sl_false]
      have d11 : f 11 = true := by simp [hd]
      have d8 : f 8 = true := hw.ord.1 d11
      have d13 : f 13 = true := by simp [hd]
      have d5 : f 5 = true := by simp [hd]
      rw [hi, d11, d8] at hw
      try simp only [d13, d5, sl_true]
      have hr : Whole z y 39 (#[ptr g, .pointer none, .slice A1 r'.logs.length c1, .int .i64 r'.acts, .bool r'.off, .int .i64 r'.armed, .slice A2 r'.keep.length c2, .int .i64 u.log, .slice AV u.ls.length cV, .int .i64 u.sure, .bool u.dead]) := by simpa [hi, d11, d8, d13, d5] using hw.row
      have x7 := hr.cell 7
      have x8 := hr.cell 8
      have x9 := hr.cell 9
      have x10 := hr.cell 10
      have f7 := hr.free 7
      have f8 := hr.free 8
      have f9 := hr.free 9
      have f10 := hr.free 10
      have HZ := Lib.hid (hw.s3 HLY.out (.int .i64 0) (.slice A3 0 c3) (.int .i64 0) (.bool false) rfl)
      clear hr hw
      go_wp2_with fail
      refine hQ.out _ _ ⟨?_, ?_⟩
      · simp [Iv.upd, hi, hd, d11, d8, d13, d5, sl_true, sl_false]
      · simpa [Iv.upd, hi, hd, d11, d8, d13, d5] using HZ.out
  · rintro f a0 z ⟨rfl, hw⟩ hall
    simp only [hall 0 (by decide), hall 1 (by decide), hall 2 (by decide), hall 3 (by decide), hall 4 (by decide), hall 5 (by decide), hall 6 (by decide), hall 7 (by decide), hall 8 (by decide), hall 9 (by decide), hall 10 (by decide), hall 11 (by decide), hall 12 (by decide), hall 13 (by decide), hall 14 (by decide), sl_true, ↓reduceIte] at hw ⊢
    clear hall
    have HR3 := Lib.hid (show Whole z y 39 _ by simpa using hw.row)
    have HOF := Lib.hid hw.off
    have HZK : Hid (∀ x t cs, Whole w1 x t cs → x ≠ y → Whole z x t cs) := Lib.hid fun x t cs hx hne => HOF.out.whole ((hx.below HB2.out hx.lt).below H3.out.below (by have := hx.lt; have := HB2.out.size; omega)) hne
    have hyw : y < w.heap.size := HY.out.face.lt
    have HLZ : Hid (IsW (fun b => w1.heap.size ≤ b) z A3 c3 Rw.none) := Lib.hid (seen_off (Seen.call HW2.out H3.out.below) HOF.out fun b hb e => by
      have hb : w1.heap.size ≤ b := hb
      have := HO.out.off.size
      omega)
    obtain ⟨⟨-, k1, -, -⟩, -⟩ := (hw.knows.at 1 rfl).four
    have HSAME := Lib.hid (same_any z.heap.size z.heap.size none A3 0 c3 [] [] z (by simp) (fun h => by simp at h) (HLZ.out.sees) (Nat.le_refl _) (Nat.le_refl _))
    rw [decide_eq_true rfl] at HSAME
    have HHW : Hid (Below w1.heap.size w1 w3 ∧ w3.heap.size ≤ z.heap.size) := Lib.hid ⟨HB2.out.trans (H3.out.below.mono HB2.out.size), hw.off.size⟩
    have HM3 := Lib.hid ((HM2.out.call H3.out.below).off HOF.out fun b hb e => by
      subst e
      rcases hb with hb | hb
      · exact hb.1.2.1 rfl
      · have := HO.out.off.size
        omega)
    clear hw
    go_wp2_with fail
    refine HSAME.out.mono ?_
    rintro e z2 ⟨rfl, hb⟩
    have HBZ := Lib.hid hb
    clear hb HSAME k1
    go_wp2_with fail
    go_ret
    have hy := HY.out
    have ho := HO.out
    obtain ⟨F', hF, hwx⟩ := ho.dsk
    have hsz := ho.off.size
    have hF' : ∀ b, F' b → b ≠ y := fun b hb e => by
      subst e
      rcases hF b hb with h | h
      · exact hy.new.2.1 h
      · omega
    refine ⟨rfl, F', A1, c1, A2, c2, A3, c3, Yx.call ⟨?_, HR3.out, ?_, ?_, ⟨hy.new.1, fun h => hF' y h rfl, fun b hb => ?_⟩, ?_, ?_⟩ HBZ.out⟩
    · exact ((hy.below.trans (ho.off.below hy.below.size fun b hb => hy.new.2.2 b hb)).trans (HHW.out.1.mono (by have := hy.below.size; omega))).trans (HOF.out.below (by have := hy.below.size; have := HHW.out.1.size; omega) fun b e => by rw [e]; exact hy.new.1)
    · obtain ⟨a, b, c, x⟩ := hwx.call HHW.out.1
      exact ⟨a, b, c, x.off HOF.out fun b hb e => hF' b hb e⟩
    · intro p' hp'; cases hp'
    · rcases hF b hb with h | h
      · exact hy.new.2.2 b h
      · have := hy.below.size; omega
    · refine HM3.out.mono fun b _ hb => ⟨fun hf => ?_, fun e => ?_, fun e => ?_⟩
      · rcases hb with hb | hb
        · rcases hF b hf with h | h
          · exact hb.1.1 h
          · have := hb.2; omega
        · have := hwx.low hf; omega
      · subst e
        rcases hb with hb | hb
        · exact hb.1.2.1 rfl
        · omega
      · cases e
    · refine Seen.mono HLZ.out fun b _ hb => ⟨fun hf => ?_, fun e => ?_, fun e => ?_⟩
      · have := hwx.low hf; omega
      · omega
      · cases e
end Go.Proofs.Ytlfigbgcackimaa
