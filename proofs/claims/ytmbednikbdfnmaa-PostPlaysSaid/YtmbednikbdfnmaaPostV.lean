/- Contracts of the program's calls at layer 9, of a net that says a text: Take, Cut. -/
import Derived.Test.YtmbednikbdfnmaaPosterS
namespace Go.Proofs.Ytmbednikbdfnmaa
open Go.RowKit Go.Po Go.Maps
set_option linter.unusedVariables false
set_option linter.unusedSimpArgs false
set_option maxRecDepth 100000

/-- A letter, or none, as it is told. -/
def encO (r : Option (Lt (List UInt8))) : List Value := match r with | some l => encL sP l | none => [.int .i64 0, .int .i64 0, .int .i64 0, .string ⟨#[]⟩]
theorem Nx.setOffs {t e : TypeId} {α : Type} {p : α → Value} {w w' : World} {g mb : Nat} {v : Value} {n : Nt α} {F : Nat → Prop} (x : Nx t e p w g mb v n F) {f : Int → Bool} {k : Nat} (hs : Offs w' mb k f) (hg : w.grownBy w' (some mb)) :
    Went t e p F w w' g { n with off := f, puts := k } := by
  refine ⟨(Off.refl F w).grown hg fun b hb => .inl (by injection hb with hb; exact hb ▸ x.mine.2.1), F, fun b h => .inl h, mb, v, ⟨x.fine.nodes, x.fine.few, x.fine.good⟩, ?_, hs, own_at x.own fun b hb => hg.block b (x.low b (x.mine.2.2 b hb)) fun e => x.mv hb (by injection e with e; exact e.symm), x.mine, fun b hb => Nat.lt_of_lt_of_le (x.low b hb) hg.size⟩
  exact x.face.grown hg fun e => x.mg (by injection e with e; exact e.symm)
/-- What is stored into a block of the call's own, behind it. -/
theorem Went.stored {t e : TypeId} {α : Type} {p : α → Value} {w w4 w5 w6 : World} {g bz : Nat} {n : Nt α} {F : Nat → Prop} (hm : Went t e p F w4 w5 g n) (hb : Below w.heap.size w w4) (h1 : w.heap.size ≤ bz) (h2 : bz < w4.heap.size) (hF : ∀ b, F b → b < w.heap.size) (h6 : Off (fun b => b = bz) w5 w6) : Went t e p F w w6 g n := by
  obtain ⟨ho, F', hF', mb, v, x⟩ := hm
  refine ⟨((Off.of hb F).trans ho).then (fun k hk => .inr (by omega)) h6, F', fun b hb' => ?_, mb, v, x.off h6 fun b hb' => ?_⟩
  · rcases hF' b hb' with h | h
    · exact .inl h
    · exact .inr (Nat.le_trans hb.size h)
  · intro e
    subst e
    rcases hF' _ hb' with h | h
    · have := hF _ h; omega
    · omega
theorem Offs.put {w : World} {mb k : Nat} {f : Int → Bool} (h : Offs w mb k f) (hk : k < maxLen) {a : Int} (ha : W64 a) :
    ∃ w', (Instr.mapUpdate 80 (.map (some mb)) (.int .i64 a) (.agg #[])).run Try.prog w = .ok () w' ∧ Offs w' mb (k + 1) (fun y => if y = a then true else f y) ∧ w.grownBy w' (some mb) := by
  obtain ⟨D, hD, hat⟩ := h
  obtain ⟨w', h1, h2, h3⟩ := hD.store key_law Try.underlying80 hk (key_of ha) unitElem_mk
  refine ⟨w', h1, ⟨_, h2, fun x => ?_⟩, h3.grown⟩
  show has _ _ = if x = a then true else f x
  by_cases e : x = a
  · subst e
    rw [if_pos rfl]
    exact has_put_same (k := .int .i64 x) hD.isMap trivial _
  · rw [if_neg e, has_put_other (by intro h; injection h; contradiction), hat]
theorem Offs.del {w : World} {mb k : Nat} {f : Int → Bool} (h : Offs w mb k f) {a : Int} (ha : W64 a) (ty : TypeId) :
    ∃ w', (Builtin.delete_ #[80, 3] ty #[.map (some mb), .int .i64 a]).run Try.prog w = .ok (.tuple #[]) w' ∧ Offs w' mb (k + 1) (fun y => if y = a then false else f y) ∧ w.grownBy w' (some mb) := by
  obtain ⟨D, hD, hat⟩ := h
  obtain ⟨w', h1, h2, h3⟩ := hD.drop key_law Try.underlying80 (key_of ha) ty
  refine ⟨w', h1, ⟨_, h2.mono (Nat.le_succ _), fun x => ?_⟩, h3.grown⟩
  show has _ _ = if x = a then false else f x
  by_cases e : x = a
  · subst e
    rw [if_pos rfl]
    exact has_del_same
  · rw [if_neg e, has_del_other (by intro h; injection h; contradiction), hat]
theorem cut_any (g : Nat) (n : Nt (List UInt8)) (F : Nat → Prop) (a : Int) (ha : W64 a) (off : Bool) (hp : n.puts < maxLen) (w : World) (x0 : sNet w g n F) :
    Calls Try.prog 28 #[ptr g, .int .i64 a, .bool off] w fun e w' => e = .returned (.int .i64 (n.cut a off).2) ∧ sWent F w w' g (n.cut a off).1 := by
  obtain ⟨mb, v, x⟩ := x0
  have HX := Lib.hid x
  have HH := Lib.hid (shas_any g mb v n F a ha w x)
  obtain ⟨c0, c1, c2, c3⟩ := x.cells
  by_cases hn : n.has a
  · have HE : Hid (n.cut a off = ({ n with off := fun y => if y = a then off else n.off y, puts := n.puts + 1 }, 0)) := Lib.hid (by unfold Nt.cut; rw [if_pos hn])
    rw [HE.out]
    rw [decide_eq_true hn] at HH
    cases off with
    | true =>
      obtain ⟨w2, hrun, hO, hG⟩ := x.set.put hp ha
      have HM := Lib.hid (HX.out.setOffs hO hG)
      clear x hn hO hG
      go_enter Try.func28, Try.ntmps28
      go_wp2_with fail
      refine HH.out.mono ?_
      rintro e w1 ⟨rfl, e1⟩
      subst w1
      go_wp2_with fail
      go_ret
      exact ⟨rfl, HM.out⟩
    | false =>
      obtain ⟨w2, hrun, hO, hG⟩ := x.set.del ha 0
      have HM := Lib.hid (HX.out.setOffs hO hG)
      clear x hn hO hG
      go_enter Try.func28, Try.ntmps28
      go_wp2_with fail
      refine HH.out.mono ?_
      rintro e w1 ⟨rfl, e1⟩
      subst w1
      go_wp2_with fail
      go_ret
      exact ⟨rfl, HM.out⟩
  · have HE : Hid (n.cut a off = (n, 90)) := Lib.hid (by unfold Nt.cut; rw [if_neg hn])
    rw [HE.out]
    rw [decide_eq_false hn] at HH
    clear x hn
    go_enter Try.func28, Try.ntmps28
    go_wp2_with fail
    refine HH.out.mono ?_
    rintro e w1 ⟨rfl, e1⟩
    subst w1
    go_wp2_with fail
    go_ret
    exact ⟨rfl, Went.same HX.out (Below.refl _ _)⟩
set_option maxHeartbeats 1000000 in
theorem take_any (g : Nat) (n : Nt (List UInt8)) (F : Nat → Prop) (i : Int) (hi : W64 i) (w : World) (x0 : sNet w g n F) :
    Calls Try.prog 25 #[ptr g, .int .i64 i] w fun e w' => e = .returned (.tuple #[.agg (encO (n.take i).2.1).toArray, .int .i64 (n.take i).2.2]) ∧ sWent F w w' g (n.take i).1 := by
  obtain ⟨mb, v, x⟩ := x0
  have HX := Lib.hid x
  have HB := Lib.hid ((Below.refl w.heap.size w).alloc (Nat.le_refl _) (.cells #[.int .i64 0, .int .i64 0, .int .i64 0, .string ⟨#[]⟩] 54))
  have HH := Lib.hid (sholds_any g mb v n F i hi _ (x.call HB.out))
  rcases n.number i with ⟨hn, hor⟩ | ⟨k, l, rfl, hk, hl, hn⟩
  · have HE : Hid (n.take i = (n, none, 92)) := Lib.hid (by
      unfold Nt.take
      rcases hor with h | h
      · split
        · rw [if_pos h]
        · rfl
      · rw [h])
    rw [HE.out]
    show Calls Try.prog _ _ w fun e w' => e = .returned (.tuple #[.agg #[.int .i64 0, .int .i64 0, .int .i64 0, .string ⟨#[]⟩], .int .i64 92]) ∧ _
    rw [decide_eq_false hn] at HH
    clear x hn hor
    go_enter Try.func25, Try.ntmps25
    go_wp2_with fail
    refine HH.out.mono ?_
    rintro e w1 ⟨rfl, e1⟩
    subst w1
    go_wp2_with fail
    refine bodyPost_ret (by simp [results, Try.results25, go_sem]; try rfl) rfl ?_
    refine ⟨rfl, Went.same HX.out ?_⟩
    have hb := Below.refl w.heap.size w
    go_grown
  · obtain ⟨A, cap, hv, h1, h2, h3⟩ := x.slice
    obtain ⟨b, rfl, -⟩ := x.letter hl hv
    have HV := Lib.hid hv
    have hx1 := x.call HB.out
    obtain ⟨b', hb', d0, d1, d2, d3⟩ := hx1.letter hl hv
    obtain rfl : b' = b := by injection hb' with hb'; injection hb' with hb'; exact hb'.symm
    obtain ⟨c0, c1, c2, c3⟩ := hx1.cells
    rw [hv] at c2
    have hfew := x.fine.few
    have hg := x.fine.good l (List.mem_of_getElem? hl)
    have hnd := x.fine.nodes
    have HFR : Hid (W64 l.frm) := Lib.hid (by have := hg.frm; exact ⟨by omega, by omega⟩)
    have HTO : Hid (W64 l.to) := Lib.hid (by have := hg.to; exact ⟨by omega, by omega⟩)
    have HOF := Lib.hid (fun (w1 : World) (x1 : sNx w1 g mb v n F) => sisOff_any g mb v n F l.frm HFR.out w1 x1)
    have HOT := Lib.hid (fun (w1 : World) (x1 : sNx w1 g mb v n F) => sisOff_any g mb v n F l.to HTO.out w1 x1)
    have HRM := Lib.hid (fun (w1 : World) (x1 : sNx w1 g mb v n F) => sremove_any g n F k hk w1 ⟨mb, v, x1⟩)
    have HE0 : Hid (n.off l.frm = true → n.take k = (n, none, 93)) := Lib.hid (fun h => by unfold Nt.take; rw [show ((k : Int)).toNat = k by omega, hl]; simp only []; rw [if_neg (by omega), if_pos (by rw [h]; rfl)])
    have HE1 : Hid (n.off l.frm = false → n.off l.to = true → n.take k = (n, none, 93)) := Lib.hid (fun h h2 => by unfold Nt.take; rw [show ((k : Int)).toNat = k by omega, hl]; simp only []; rw [if_neg (by omega), if_pos (by rw [h, h2]; rfl)])
    have HE2 : Hid (n.off l.frm = false → n.off l.to = false → n.take k = (n.drop k, some l, 0)) := Lib.hid (fun h h2 => by unfold Nt.take; rw [show ((k : Int)).toNat = k by omega, hl]; simp only []; rw [if_neg (by omega), if_neg (by rw [h, h2]; simp)])
    rw [decide_eq_true hn] at HH
    generalize hof : n.off l.frm = of at *
    generalize hot : n.off l.to = ot at *
    clear hof hot hn hl hv hg hb' x hx1
    have HX2 : Hid (sNx ((w.alloc (.cells #[.int .i64 0, .int .i64 0, .int .i64 0, .string ⟨#[]⟩] 54)).alloc (.cells #[.int .i64 l.id, .int .i64 l.frm, .int .i64 l.to, .string (txt l.m)] 54)) g mb v n F) := Lib.hid ((HX.out.call HB.out).alloc _)
    have HB2 : Hid (Below w.heap.size w ((w.alloc (.cells #[.int .i64 0, .int .i64 0, .int .i64 0, .string ⟨#[]⟩] 54)).alloc (.cells #[.int .i64 l.id, .int .i64 l.frm, .int .i64 l.to, .string (txt l.m)] 54))) := Lib.hid (HB.out.alloc (by simp) _)
    have HZ2 : Hid (Whole ((w.alloc (.cells #[.int .i64 0, .int .i64 0, .int .i64 0, .string ⟨#[]⟩] 54)).alloc (.cells #[.int .i64 l.id, .int .i64 l.frm, .int .i64 l.to, .string (txt l.m)] 54)) w.heap.size 54 #[.int .i64 0, .int .i64 0, .int .i64 0, .string ⟨#[]⟩]) := Lib.hid ((Whole.fresh w _ _).alloc _)
    have HL2 : Hid (Whole ((w.alloc (.cells #[.int .i64 0, .int .i64 0, .int .i64 0, .string ⟨#[]⟩] 54)).alloc (.cells #[.int .i64 l.id, .int .i64 l.frm, .int .i64 l.to, .string (txt l.m)] 54)) (w.heap.size + 1) 54 #[.int .i64 l.id, .int .i64 l.frm, .int .i64 l.to, .string (txt l.m)]) := Lib.hid (by
      have := Whole.fresh (w.alloc (.cells #[.int .i64 0, .int .i64 0, .int .i64 0, .string ⟨#[]⟩] 54)) 54 #[.int .i64 l.id, .int .i64 l.frm, .int .i64 l.to, .string (txt l.m)]
      simpa using this)
    cases of with
    | true =>
      rw [HE0.out rfl]
      show Calls Try.prog _ _ w fun e w' => e = .returned (.tuple #[.agg #[.int .i64 0, .int .i64 0, .int .i64 0, .string ⟨#[]⟩], .int .i64 93]) ∧ _
      go_enter Try.func25, Try.ntmps25
      go_wp2_with fail
      refine HH.out.mono ?_
      rintro e w1 ⟨rfl, e1⟩
      subst w1
      go_wp2_with fail
      refine (HOF.out _ HX2.out).mono ?_
      rintro e w3 ⟨rfl, hb⟩
      have hz := HZ2.out.below hb HZ2.out.lt
      obtain ⟨z0, z1, z2, z3⟩ := (show _ ∧ _ ∧ _ ∧ _ from ⟨hz.cell 0, hz.cell 1, hz.cell 2, hz.cell 3⟩)
      obtain ⟨y0, y1, y2, y3⟩ := (show _ ∧ _ ∧ _ ∧ _ from ⟨hz.free 0, hz.free 1, hz.free 2, hz.free 3⟩)
      have HB3 := Lib.hid (HB2.out.trans (hb.mono (by simp; omega)))
      clear hb hz
      go_wp2_with fail
      refine bodyPost_ret (by simp [results, Try.results25, go_sem, z0, z1, z2, z3]; try rfl) rfl ?_
      refine ⟨rfl, Went.same HX.out ?_⟩
      have hb := HB3.out
      go_grown
    | false =>
      cases ot with
      | true =>
        rw [HE1.out rfl rfl]
        show Calls Try.prog _ _ w fun e w' => e = .returned (.tuple #[.agg #[.int .i64 0, .int .i64 0, .int .i64 0, .string ⟨#[]⟩], .int .i64 93]) ∧ _
        go_enter Try.func25, Try.ntmps25
        go_wp2_with fail
        refine HH.out.mono ?_
        rintro e w1 ⟨rfl, e1⟩
        subst w1
        go_wp2_with fail
        refine (HOF.out _ HX2.out).mono ?_
        rintro e w3 ⟨rfl, hb⟩
        have hz := HZ2.out.below hb HZ2.out.lt
        have hl2 := HL2.out.below hb HL2.out.lt
        have s2 := hl2.cell 2
        have HX3 := Lib.hid (HX2.out.call hb)
        have HZ3 := Lib.hid hz
        have HB3 := Lib.hid (HB2.out.trans (hb.mono (by simp; omega)))
        clear hb hz hl2
        go_wp2_with fail
        refine (HOT.out _ HX3.out).mono ?_
        rintro e w4 ⟨rfl, hb⟩
        have hz := HZ3.out.below hb HZ3.out.lt
        obtain ⟨z0, z1, z2, z3⟩ := (show _ ∧ _ ∧ _ ∧ _ from ⟨hz.cell 0, hz.cell 1, hz.cell 2, hz.cell 3⟩)
        obtain ⟨y0, y1, y2, y3⟩ := (show _ ∧ _ ∧ _ ∧ _ from ⟨hz.free 0, hz.free 1, hz.free 2, hz.free 3⟩)
        have HB4 := Lib.hid (HB3.out.trans (hb.mono HB3.out.size))
        clear hb hz
        go_wp2_with fail
        refine bodyPost_ret (by simp [results, Try.results25, go_sem, z0, z1, z2, z3]; try rfl) rfl ?_
        refine ⟨rfl, Went.same HX.out ?_⟩
        have hb := HB4.out
        go_grown
      | false =>
        rw [HE2.out rfl rfl]
        show Calls Try.prog _ _ w fun e w' => e = .returned (.tuple #[.agg #[.int .i64 l.id, .int .i64 l.frm, .int .i64 l.to, .string (txt l.m)], .int .i64 0]) ∧ _
        go_enter Try.func25, Try.ntmps25
        go_wp2_with fail
        refine HH.out.mono ?_
        rintro e w1 ⟨rfl, e1⟩
        subst w1
        go_wp2_with fail
        refine (HOF.out _ HX2.out).mono ?_
        rintro e w3 ⟨rfl, hb⟩
        have hz := HZ2.out.below hb HZ2.out.lt
        have hl2 := HL2.out.below hb HL2.out.lt
        have s2 := hl2.cell 2
        have HX3 := Lib.hid (HX2.out.call hb)
        have HZ3 := Lib.hid hz
        have HL3 := Lib.hid hl2
        have HB3 := Lib.hid (HB2.out.trans (hb.mono (by simp; omega)))
        clear hb hz hl2
        go_wp2_with fail
        refine (HOT.out _ HX3.out).mono ?_
        rintro e w4 ⟨rfl, hb⟩
        have HX4 := Lib.hid (HX3.out.call hb)
        have HZ4 := Lib.hid (HZ3.out.below hb HZ3.out.lt)
        have HL4 := Lib.hid (HL3.out.below hb HL3.out.lt)
        have HB4 := Lib.hid (HB3.out.trans (hb.mono HB3.out.size))
        clear hb
        go_wp2_with fail
        refine (HRM.out _ HX4.out).mono ?_
        rintro e w5 ⟨rfl, hm⟩
        have hz := hm.off.whole HZ4.out (fun h => by have := HX.out.low _ h; omega)
        have hl2 := hm.off.whole HL4.out (fun h => by have := HX.out.low _ h; omega)
        obtain ⟨z0, z1, z2, z3⟩ := (show _ ∧ _ ∧ _ ∧ _ from ⟨hz.cell 0, hz.cell 1, hz.cell 2, hz.cell 3⟩)
        obtain ⟨y0, y1, y2, y3⟩ := (show _ ∧ _ ∧ _ ∧ _ from ⟨hz.free 0, hz.free 1, hz.free 2, hz.free 3⟩)
        obtain ⟨s0, s1, s2, s3⟩ := (show _ ∧ _ ∧ _ ∧ _ from ⟨hl2.cell 0, hl2.cell 1, hl2.cell 2, hl2.cell 3⟩)
        have HM := Lib.hid hm
        clear hm hz hl2
        go_wp2_with fail
        refine bodyPost_ret (by simp [results, Try.results25, go_sem, z0, z1, z2, z3]; try rfl) rfl ?_
        refine ⟨rfl, HM.out.stored HB4.out (bz := w.heap.size) (Nat.le_refl _) HZ4.out.lt HX.out.low ?_⟩
        exact ((((Off.refl (fun b => b = w.heap.size) w5).set (p := ⟨w.heap.size, 0, none⟩) (.inl rfl) _).set (p := ⟨w.heap.size, 1, none⟩) (.inl rfl) _).set (p := ⟨w.heap.size, 2, none⟩) (.inl rfl) _).set (p := ⟨w.heap.size, 3, none⟩) (.inl rfl) _
end Go.Proofs.Ytmbednikbdfnmaa
