/- Contracts at layer 12, of the document's Snap. (Written by gstos.py.) -/
import Derived.Test.YtcpcepbjdohdmaaStoDk
namespace Go.Proofs.Ytcpcepbjdohdmaa
open Go.ChangeShapes Go.WideShapes Go.ChangeAt Go.RowKit Go.Cn Go.So
set_option linter.unusedVariables false
set_option linter.unusedSimpArgs false
set_option maxRecDepth 100000
/-- A row's own grown block keeps what is of other types. -/
theorem St.grownT {W y y2 : World} {L : List Row} {B n : Nat} {e : TypeId} {sz : Nat} {v : Value} {xs : List Value} (h : St W y L) (ho : y.ownsRow B e sz v n xs) (hB : W.heap.size ≤ B) (hf : ∀ r ∈ L, r.2.1 ≠ e) (hg : y.grownBy y2 v.ownBlock) : St W y2 L := by
  refine ⟨h.below.grown hg h.below.size fun k hk => Nat.le_trans hB (ho.lt k hk).1, fun r hr => ?_⟩
  refine (h.knows r hr).grown hg fun e2 => ?_
  obtain ⟨cs, hw⟩ := ow_whole ho e2.symm
  exact whole_unlike (h.knows r hr) hw (hf r hr) rfl
/-- What lies in a row of whole numbers. -/
theorem keys_row {w : World} {B cap : Nat} {A : Option Addr} {l : List Int} (h : w.ownsRow B 3 1 (.slice A l.length cap) l.length (ints l)) {b0 : Nat} {t0 : TypeId} {cs0 : Array Value} (hw : Whole w b0 t0 cs0) (ht : t0 ≠ 58) :
    ∃ b t cs, t ≠ 58 ∧ Whole w b t cs ∧ ∀ (k : Nat) (y : Int), l[k]? = some y → A = some ⟨b, 0, none⟩ ∧ cs[k]? = some (.int .i64 y) := by
  rcases h.2 with ⟨-, h0⟩ | ⟨g, c, cur, hv, hb, hg, -⟩
  · refine ⟨b0, t0, cs0, ht, hw, fun k y hy => ?_⟩
    rw [List.eq_nil_of_length_eq_zero h0] at hy
    cases hy
  · refine ⟨g, 3, cur, by decide, hg, fun k y hy => ?_⟩
    have hs := Sees.own h
    rw [ints_flat] at hs
    obtain ⟨b, off, hA, -, hc⟩ := hs.item (fun _ => rfl) (by omega) k y hy
    injection hv with e1 e2 e3
    subst e1
    injection hA with hA
    injection hA with e1 e2
    subst e1 e2
    have q0 := hc 0 _ rfl
    rw [Nat.add_zero, Nat.mul_one, Nat.zero_add, Whole.cell (show Whole w g 3 cur from hg)] at q0
    exact ⟨rfl, q0⟩
/-- Worlds round an entry that is made (a) and put behind a row (b). -/
structure Lt1 (W y : World) (L : List Row) (B : Nat) (v1 v2 : Value) (xs : List En) (e : En) (p8 : Nat) (a b : Bool) : Prop where
  st : St W y L
  low : W.heap.size ≤ B ∧ B ≤ y.heap.size
  far : ∀ r ∈ L, r.2.1 ≠ 58
  own0 : b = false → y.ownsRow B 58 2 v1 xs.length (flat encE xs)
  lit : a = true → b = false → Whole y p8 58 #[.int .i64 e.1, .int .i64 e.2]
  own1 : b = true → y.ownsRow B 58 2 v2 (xs.length + 1) (flat encE (xs ++ [e]))
  ord : b = true → a = true
section
variable {W y : World} {L : List Row} {B : Nat} {v1 v2 : Value} {xs : List En} {e : En} {p8 : Nat} {a b : Bool}
theorem Lt1.start (h : St W y L) (hB : W.heap.size ≤ B ∧ B ≤ y.heap.size) (hf : ∀ r ∈ L, r.2.1 ≠ 58) (ho : y.ownsRow B 58 2 v1 xs.length (flat encE xs)) : Lt1 W y L B v1 v2 xs e p8 false false :=
  ⟨h, hB, hf, fun _ => ho, (fun h => by cases h), (fun h => by cases h), fun h => by cases h⟩
theorem Lt1.noB (h : Lt1 W y L B v1 v2 xs e p8 a b) (ha : a = false) : b = false := by
  cases b with
  | false => rfl
  | true => have := h.ord rfl; rw [ha] at this; cases this
theorem Lt1.made (h : Lt1 W y L B v1 v2 xs e p8 false b) : Lt1 W (y.alloc (.cells #[.int .i64 e.1, .int .i64 e.2] 58)) L B v1 v2 xs e y.heap.size true b := by
  have hb := h.noB rfl
  subst hb
  exact ⟨h.st.other _, ⟨h.low.1, by have := h.low.2; simp; omega⟩, h.far, fun _ => (h.own0 rfl).alloc _, fun _ _ => Whole.fresh y _ _, (fun h => by cases h), fun h => by cases h⟩
theorem Lt1.app (h : Lt1 W y L B v1 v2 xs e p8 true false) {v : Value} {y2 : World} (ho : y2.ownsRow B 58 2 v (xs.length + 1) (flat encE (xs ++ [e]))) (hg : y.grownBy y2 v1.ownBlock) : Lt1 W y2 L B v1 v xs e p8 true true := by
  have ho1 := h.own0 rfl
  have hst := h.st.grownT ho1 h.low.1 h.far hg
  have hb : Below B y y2 := (Below.refl _ _).grown hg h.low.2 (fun q hq => (ho1.lt q hq).1)
  exact ⟨hst, ⟨h.low.1, Nat.le_trans h.low.2 hb.size⟩, h.far, (fun h => by cases h), (fun _ h => by cases h), fun _ => ho, fun _ => rfl⟩
theorem Lt1.sees (h : Lt1 W y L B v1 v2 xs e p8 true false) : Sees y (p8 + 1) 2 (some ⟨p8, 0, none⟩) 1 (flat encE [e]) := by
  have hw := h.lit rfl rfl
  refine ⟨rfl, fun _ => ⟨p8, 0, rfl, by omega, fun j u hu => ?_⟩⟩
  rw [Nat.zero_add, hw.cell j, ← Array.getElem?_toList]
  exact hu
end
set_option maxHeartbeats 16000000 in
theorem rsnap_any (A : Option Addr) (cap : Nat) (d : Ds) (s : Sto) (hr : Rel d s) (hf : Fine s) (u : Int) (w : World) (h : Dv w A cap d.l) (hl : d.l.length ≤ 1000000000) :
    Calls Try.prog 19 #[aggM A d.l.length cap s.closed s.mark, .int .i64 u] w fun e w' => ∃ A' cap', e = .returned (.tuple #[.slice A' (snapS s u).length cap', .int .i64 (tellsE s u)]) ∧ Below w.heap.size w w' ∧ w'.ownsRow w.heap.size 58 2 (.slice A' (snapS s u).length cap') (snapS s u).length (flat encE (snapS s u)) := by
  have H := Lib.hid ((St.start w).alloc w.heap.size rfl 27 #[.slice A d.l.length cap, .int .i64 s.closed, .int .i64 s.mark])
  have HD := Lib.hid h
  have HT := Lib.hid (fun w0 => rtime_any A d.l.length cap s u w0)
  have HC := Lib.hid (fun w0 (h0 : Dv w0 A cap d.l) k => rcounts_any A cap d.l s.closed s.mark k u w0 h0 hl)
  have HREL := Lib.hid (fun h0 k => hr.counts hf k u h0)
  have HK := Lib.hid (fun w0 (h0 : Dv w0 A cap d.l) => rkeys_any A cap d.l s.closed s.mark w0 h0 hl fun x hx => hr.key hf hx)
  have hkl := keysL_len s
  have hroom := h.room
  have htop := h.top
  have hk1 := H.out.knows.at 0 rfl
  have c0 := hk1.cell 0
  have c1 := hk1.cell 1
  have c2 := hk1.cell 2
  have cz := hk1.lt
  rw [hr.keys hf] at HK
  clear h hr hk1
  by_cases h0 : tellsE s u = 0
  · have e1 : snapS s u = (keysL s).filterMap (entOf s u) := by unfold snapS; rw [if_pos h0, snap_keys]
    rw [e1, h0]
    rw [h0] at HT
    have HREL2 := Lib.hid (HREL.out h0)
    clear e1 h0 HREL
    go_enter Try.func19, Try.ntmps19
    go_wp2_with fail
    refine (HT.out _).mono ?_
    rintro e w0 ⟨rfl, hb⟩
    replace H := Lib.hid ((H.out.call hb).other (.cells #[] 58))
    have HO := Lib.hid (ow_new w0 58 2 w0.heap.size rfl)
    have hk1 := H.out.knows.at 0 rfl
    have hw0 : w.heap.size < w0.heap.size := by have := hb.size; simp at this; omega
    clear hb c0 c1 c2 cz HT
    have c0 := hk1.cell 0
    have c1 := hk1.cell 1
    have c2 := hk1.cell 2
    have cz := hk1.lt
    have HWS := Lib.hid hk1
    clear hk1
    go_wp2_with fail
    refine (HK.out _ (HD.out.call H.out.below)).mono ?_
    rintro e w1 ⟨AK, capK, rfl, hb, hok⟩
    obtain ⟨bK, tK, csK, htK, hwK, hKK⟩ := keys_row hok (HWS.out.below hb cz) (by decide)
    have HKK := Lib.hid hKK
    have HTK := Lib.hid htK
    obtain ⟨AK', capK', he, hkc, hkt, -⟩ := own_slice0 hok
    injection he with e1 e2 e3
    subst e1 e3
    have hst1 := H.out.call hb
    have HS1 := Lib.hid (show St w w1 [(bK, tK, csK), (w.heap.size, 27, #[.slice A d.l.length cap, .int .i64 s.closed, .int .i64 s.mark])] from ⟨hst1.below, fun r hr => by
      rcases List.mem_cons.1 hr with rfl | hr
      · exact hwK
      · exact hst1.knows r hr⟩)
    replace HO := Lib.hid (own_keep HO.out hb (Nat.le_refl _))
    have hz1 : w0.heap.size ≤ w1.heap.size := by have := hb.size; simp at this; omega
    clear hb hok c0 c1 c2 cz HK HWS hwK hKK htK hst1 H
    go_wp2_with fail
    go_loopw [7, 9] (fun v i wr => ∃ k : Nat, k ≤ (keysL s).length ∧ i = .int .i64 (k : Int) ∧ wr.ownsRow w0.heap.size 58 2 v (((keysL s).take k).filterMap (entOf s u)).length (flat encE (((keysL s).take k).filterMap (entOf s u))) ∧ St w wr [(bK, tK, csK), (w.heap.size, 27, #[.slice A d.l.length cap, .int .i64 s.closed, .int .i64 s.mark])] ∧ w0.heap.size ≤ wr.heap.size) (fun _ i _ => (keysL s).length - (intOf i).toNat)
    case atStart => exact ⟨0, by omega, rfl, HO.out, HS1.out, hz1⟩
    case round =>
      obtain ⟨k, hk, rfl, ho, hst, hzr⟩ := hrel
      have HO2 := Lib.hid ho
      have HS := Lib.hid hst
      clear ho hst HO HS1
      by_cases hlt : k < (keysL s).length
      · obtain ⟨y, hy⟩ : ∃ y, (keysL s)[k]? = some y := ⟨_, List.getElem?_eq_getElem hlt⟩
        obtain ⟨rfl, hcs⟩ := HKK.out k y hy
        have HCS := Lib.hid hcs
        have hstep : ((keysL s).take (k + 1)).filterMap (entOf s u) = ((keysL s).take k).filterMap (entOf s u) ++ (entOf s u y).toList := by
          rw [List.take_add_one, hy]
          simp only [Option.toList, List.filterMap_append, List.filterMap_cons, List.filterMap_nil]
          cases entOf s u y <;> rfl
        have hml : (((keysL s).take k).filterMap (entOf s u)).length ≤ 8192 := by
          have := List.length_filterMap_le (entOf s u) ((keysL s).take k)
          rw [List.length_take] at this
          omega
        have HST := Lib.hid hstep
        have i1 : (k : Int) < ((keysL s).length : Int) := by omega
        have i2 : (k : Int) < (capK : Int) := by omega
        have HCY := Lib.hid (fun w0 (h0 : Dv w0 A cap d.l) => HC.out w0 h0 y)
        obtain ⟨r1, r2⟩ := HREL2.out y
        rw [r1, r2] at HCY
        have HMV := Lib.hid (show entOf s u y = (cnt s y u).map fun v => (y, v.2) from rfl)
        clear hy hcs hstep r1 r2 HKK
        generalize ((keysL s).take k).filterMap (entOf s u) = xs at *
        generalize entOf s u y = en at *
        generalize cnt s y u = cv at *
        generalize hvv : cv.getD (0, 0) = vv at *
        generalize hbb : cv.isSome = bb at *
        go_wp2_with fail
        refine Iv.region (fun f aa y1 => ∃ p, aa = ⟨#[aggM A d.l.length cap s.closed s.mark, Value.int IntKind.i64 u, Value.pointer (some ⟨w.heap.size, 0, none⟩), undef, Value.slice none 0 0, Value.int IntKind.i64 0, Value.int IntKind.i64 0, u7, Value.slice (some ⟨bK, 0, none⟩) (keysL s).length capK, Value.int IntKind.i64 ↑k, so (f 10) (.pointer (some ⟨p, 0, none⟩)) (u10), so (f 12) (.bool bb) (u11), Value.agg #[Value.slice A d.l.length cap, Value.int IntKind.i64 s.closed, Value.int IntKind.i64 s.mark], Value.int IntKind.i64 u, Value.int IntKind.i64 0, Value.int IntKind.i64 0, Value.bool false, undef, Value.slice (some ⟨w0.heap.size, 0, none⟩) 0 0, Value.agg #[Value.slice A d.l.length cap, Value.int IntKind.i64 s.closed, Value.int IntKind.i64 s.mark], Value.slice (some ⟨bK, 0, none⟩) (keysL s).length capK, Value.int IntKind.i64 ↑k, Value.slice (some ⟨bK, 0, none⟩) (keysL s).length capK, Value.int IntKind.i64 ↑(keysL s).length, Value.bool true, u25, u26, so (f 7) (.tuple #[aggV vv, .bool bb]) (u27), so (f 0) (aggM A d.l.length cap s.closed s.mark) (u28), so (f 1) (Value.slice (some ⟨bK, 0, none⟩) (keysL s).length capK) (u29), so (f 2) (.int .i64 (k : Int)) (u30), so (f 3) (.pointer (some ⟨bK, k, none⟩)) (u31), so (f 4) (.int .i64 y) (u32), so (f 5) (.int .i64 u) (u33), so (f 6) (.tuple #[aggV vv, .bool bb]) (u34), so (f 8) (aggV vv) (u35), so (f 9) (.bool bb) (u36), u37, u38, u39, u40, u41, u42, u43, u44, u45, u46, u47, undef], []⟩ ∧ Wn wr y1 [(bK, tK, csK), (w.heap.size, 27, #[.slice A d.l.length cap, .int .i64 s.closed, .int .i64 s.mark])] p 36 #[.int .i64 0, .int .i64 0] #[.int .i64 vv.1, .int .i64 vv.2] (f 10) (f 11)) (by kernel_rfl) (by kernel_rfl) ?_ ?_ ?_
        · exact ⟨0, rfl, .start (show St wr (wr.drewN 1) _ from ⟨drew_below wr 1, HS.out.knows.drewN 1⟩) _ _ _ _⟩
        · refine ⟨?_, ?_, ?_, ?_, ?_, ?_, ?_, ?_, ?_, ?_, ?_, ?_, ?_, trivial⟩
          · rintro f a0 y1 Q' ⟨p, rfl, hw⟩ hi hd hQ
            replace hQ := Lib.hid hQ
            simp [Iv.depsB, Region.binds] at hd
            try simp only [hi, hd, sl_true, sl_false, so_true, so_false]
            try simp only [hi, sl_true, sl_false, so_true, so_false]
            have hk1 := hw.old.knows.at 1 rfl
            have c0 := hk1.cell 0
            have c1 := hk1.cell 1
            have c2 := hk1.cell 2
            have cz := hk1.lt
            clear hk1
            go_wp2_with fail
            refine hQ.out _ _ ⟨p, ?_, ?_⟩
            · simp [Iv.upd, hi, hd, sl_true, sl_false, so_true, so_false]
            · simpa [Iv.upd, hi, hd] using hw
          · rintro f a0 y1 Q' ⟨p, rfl, hw⟩ hi hd hQ
            replace hQ := Lib.hid hQ
            simp [Iv.depsB, Region.binds] at hd
            try simp only [hi, hd, sl_true, sl_false, so_true, so_false]
            try simp only [hi, sl_true, sl_false, so_true, so_false]
            go_wp2_with fail
            refine hQ.out _ _ ⟨p, ?_, ?_⟩
            · simp [Iv.upd, hi, hd, sl_true, sl_false, so_true, so_false]
            · simpa [Iv.upd, hi, hd] using hw
          · rintro f a0 y1 Q' ⟨p, rfl, hw⟩ hi hd hQ
            replace hQ := Lib.hid hQ
            simp [Iv.depsB, Region.binds] at hd
            try simp only [hi, hd, sl_true, sl_false, so_true, so_false]
            try simp only [hi, sl_true, sl_false, so_true, so_false]
            go_wp2_with fail
            refine hQ.out _ _ ⟨p, ?_, ?_⟩
            · simp [Iv.upd, hi, hd, sl_true, sl_false, so_true, so_false]
            · simpa [Iv.upd, hi, hd] using hw
          · rintro f a0 y1 Q' ⟨p, rfl, hw⟩ hi hd hQ
            replace hQ := Lib.hid hQ
            simp [Iv.depsB, Region.binds] at hd
            try simp only [hi, hd, sl_true, sl_false, so_true, so_false]
            try simp only [hi, sl_true, sl_false, so_true, so_false]
            go_wp2_with fail
            refine hQ.out _ _ ⟨p, ?_, ?_⟩
            · simp [Iv.upd, hi, hd, sl_true, sl_false, so_true, so_false]
            · simpa [Iv.upd, hi, hd] using hw
          · rintro f a0 y1 Q' ⟨p, rfl, hw⟩ hi hd hQ
            replace hQ := Lib.hid hQ
            simp [Iv.depsB, Region.binds] at hd
            try simp only [hi, hd, sl_true, sl_false, so_true, so_false]
            try simp only [hi, sl_true, sl_false, so_true, so_false]
            have hk1 := hw.old.knows.at 0 rfl
            have c0 := hk1.cell k
            rw [HCS.out] at c0
            have cz := hk1.lt
            clear hk1
            go_wp2_with fail
            refine hQ.out _ _ ⟨p, ?_, ?_⟩
            · simp [Iv.upd, hi, hd, sl_true, sl_false, so_true, so_false]
            · simpa [Iv.upd, hi, hd] using hw
          · rintro f a0 y1 Q' ⟨p, rfl, hw⟩ hi hd hQ
            replace hQ := Lib.hid hQ
            simp [Iv.depsB, Region.binds] at hd
            try simp only [hi, hd, sl_true, sl_false, so_true, so_false]
            try simp only [hi, sl_true, sl_false, so_true, so_false]
            go_wp2_with fail
            refine hQ.out _ _ ⟨p, ?_, ?_⟩
            · simp [Iv.upd, hi, hd, sl_true, sl_false, so_true, so_false]
            · simpa [Iv.upd, hi, hd] using hw
          · rintro f a0 y1 Q' ⟨p, rfl, hw⟩ hi hd hQ
            replace hQ := Lib.hid hQ
            simp [Iv.depsB, Region.binds] at hd
            try simp only [hi, hd, sl_true, sl_false, so_true, so_false]
            try simp only [hi, sl_true, sl_false, so_true, so_false]
            go_wp2_with fail
            refine (HCY.out _ ((HD.out.call HS.out.below).call hw.old.below)).mono ?_
            rintro e y1 ⟨rfl, hb⟩
            go_wp2_with fail
            refine hQ.out _ _ ⟨p, ?_, ?_⟩
            · simp [Iv.upd, hi, hd, sl_true, sl_false, so_true, so_false]
            · simpa [Iv.upd, hi, hd] using hw.call hb
          · rintro f a0 y1 Q' ⟨p, rfl, hw⟩ hi hd hQ
            replace hQ := Lib.hid hQ
            simp [Iv.depsB, Region.binds] at hd
            try simp only [hi, hd, sl_true, sl_false, so_true, so_false]
            try simp only [hi, sl_true, sl_false, so_true, so_false]
            go_wp2_with fail
            refine hQ.out _ _ ⟨p, ?_, ?_⟩
            · simp [Iv.upd, hi, hd, sl_true, sl_false, so_true, so_false]
            · simpa [Iv.upd, hi, hd] using hw
          · rintro f a0 y1 Q' ⟨p, rfl, hw⟩ hi hd hQ
            replace hQ := Lib.hid hQ
            simp [Iv.depsB, Region.binds] at hd
            try simp only [hi, hd, sl_true, sl_false, so_true, so_false]
            try simp only [hi, sl_true, sl_false, so_true, so_false]
            go_wp2_with fail
            refine hQ.out _ _ ⟨p, ?_, ?_⟩
            · simp [Iv.upd, hi, hd, sl_true, sl_false, so_true, so_false]
            · simpa [Iv.upd, hi, hd] using hw
          · rintro f a0 y1 Q' ⟨p, rfl, hw⟩ hi hd hQ
            replace hQ := Lib.hid hQ
            simp [Iv.depsB, Region.binds] at hd
            try simp only [hi, hd, sl_true, sl_false, so_true, so_false]
            try simp only [hi, sl_true, sl_false, so_true, so_false]
            go_wp2_with fail
            refine hQ.out _ _ ⟨p, ?_, ?_⟩
            · simp [Iv.upd, hi, hd, sl_true, sl_false, so_true, so_false]
            · simpa [Iv.upd, hi, hd] using hw
          · rintro f a0 y1 Q' ⟨p, rfl, hw⟩ hi hd hQ
            replace hQ := Lib.hid hQ
            simp [Iv.depsB, Region.binds] at hd
            try simp only [hi, hd, sl_true, sl_false, so_true, so_false]
            try simp only [hi, sl_true, sl_false, so_true, so_false]
            have ej := hw.first hi
            have hw2 := hw
            rw [hi, ej] at hw2
            go_wp2_with fail
            refine hQ.out _ _ ⟨y1.heap.size, ?_, ?_⟩
            · simp [Iv.upd, hi, hd, sl_true, sl_false, so_true, so_false]
            · simpa [Iv.upd, ej, hi, hd] using hw2.made _ rfl
          · rintro f a0 y1 Q' ⟨p, rfl, hw⟩ hi hd hQ
            replace hQ := Lib.hid hQ
            simp [Iv.depsB, Region.binds] at hd
            try simp only [hi, hd, sl_true, sl_false, so_true, so_false]
            try simp only [hi, sl_true, sl_false, so_true, so_false]
            have ea : f 10 = true := by simp [hd]
            have eb : f 8 = true := by simp [hd]
            have hw2 := hw
            rw [hi, ea] at hw2
            have hwk := hw2.is
            obtain ⟨c0, c1, d0, d1, z0⟩ := (show Knows _ [_] from fun r hr => by rw [List.mem_singleton.1 hr]; exact hwk).two 0 p rfl
            clear hwk
            try simp only [ea, eb, sl_true, sl_false, so_true, so_false]
            go_wp2_with fail
            refine hQ.out _ _ ⟨p, ?_, ?_⟩
            · simp [Iv.upd, hi, hd, sl_true, sl_false, so_true, so_false, ea, eb]
            · simpa [Iv.upd, ea, eb, hi, hd] using hw2.stored2
          · rintro f a0 y1 Q' ⟨p, rfl, hw⟩ hi hd hQ
            replace hQ := Lib.hid hQ
            simp [Iv.depsB, Region.binds] at hd
            try simp only [hi, hd, sl_true, sl_false, so_true, so_false]
            try simp only [hi, sl_true, sl_false, so_true, so_false]
            go_wp2_with fail
            refine hQ.out _ _ ⟨p, ?_, ?_⟩
            · simp [Iv.upd, hi, hd, sl_true, sl_false, so_true, so_false]
            · simpa [Iv.upd, hi, hd] using hw
        · rintro f a0 w5 ⟨p, rfl, hw⟩ hall
          simp only [hall 0 (by decide), hall 1 (by decide), hall 2 (by decide), hall 3 (by decide), hall 4 (by decide), hall 5 (by decide), hall 6 (by decide), hall 7 (by decide), hall 8 (by decide), hall 9 (by decide), hall 10 (by decide), hall 11 (by decide), hall 12 (by decide), sl_true, ↓reduceIte, so_true, so_false] at hw ⊢
          clear hall
          have HP : Hid (St w w5 ((p, 36, #[.int .i64 vv.1, .int .i64 vv.2]) :: [(bK, tK, csK), (w.heap.size, 27, #[.slice A d.l.length cap, .int .i64 s.closed, .int .i64 s.mark])])) := Lib.hid ⟨HS.out.below.trans (hw.st.below.mono HS.out.below.size), hw.st.knows⟩
          have HB5 := Lib.hid (show Below wr.heap.size wr w5 from hw.st.below)
          have HO3 : Hid (w5.ownsRow w0.heap.size 58 2 u7 xs.length (flat encE xs)) := Lib.hid (own_keep HO2.out HB5.out (Nat.le_refl _))
          clear hw
          cases cv with
          | none =>
            obtain rfl : vv = (0, 0) := hvv.symm
            obtain rfl : bb = false := hbb.symm
            have hen : en = none := HMV.out
            subst hen
            go_wp2_with fail
            go_roundw
            case rel => exact ⟨k + 1, by omega, by go_num, by rw [HST.out]; simpa using HO3.out, HP.out.few fun r hr => List.mem_cons_of_mem _ hr, Nat.le_trans hzr HB5.out.size⟩
            case measure => simp [intOf]; omega
          | some v0 =>
            obtain rfl : vv = v0 := hvv.symm
            obtain rfl : bb = true := hbb.symm
            have hen : en = some (y, vv.2) := HMV.out
            subst hen
            obtain ⟨A0, cap0, rfl, -, -, -⟩ := own_slice0 HO3.out
            go_wp2_with fail
            have HFAR : Hid (∀ r ∈ ((p, 36, #[.int .i64 vv.1, .int .i64 vv.2]) :: [(bK, tK, csK), (w.heap.size, 27, #[.slice A d.l.length cap, .int .i64 s.closed, .int .i64 s.mark])]), r.2.1 ≠ 58) := Lib.hid fun r hr => by
              rcases List.mem_cons.1 hr with rfl | hr
              · exact (by decide : (36 : TypeId) ≠ 58)
              · rcases List.mem_cons.1 hr with rfl | hr
                · exact HTK.out
                · rw [List.mem_singleton.1 hr]; exact (by decide : (27 : TypeId) ≠ 58)
            have HO4 : Hid ((w5.drewN 1).ownsRow w0.heap.size 58 2 (.slice A0 xs.length cap0) xs.length (flat encE xs)) := Lib.hid (own_keep HO3.out (drew_below w5 1) (Nat.le_refl _))
            have HLOW : Hid (w.heap.size ≤ w0.heap.size ∧ w0.heap.size ≤ (w5.drewN 1).heap.size) := Lib.hid ⟨by omega, Nat.le_trans hzr HB5.out.size⟩
            refine Iv.region (fun f aa y1 => ∃ p8 v2, aa = ⟨#[aggM A d.l.length cap s.closed s.mark, Value.int IntKind.i64 u, Value.pointer (some ⟨w.heap.size, 0, none⟩), undef, Value.slice none 0 0, Value.int IntKind.i64 0, Value.int IntKind.i64 0, so (f 10) (v2) (Value.slice A0 xs.length cap0), Value.slice (some ⟨bK, 0, none⟩) (keysL s).length capK, Value.int IntKind.i64 ↑k, Value.pointer (some ⟨p, 0, none⟩), Value.bool true, Value.agg #[Value.slice A d.l.length cap, Value.int IntKind.i64 s.closed, Value.int IntKind.i64 s.mark], Value.int IntKind.i64 u, Value.int IntKind.i64 0, Value.int IntKind.i64 0, Value.bool false, undef, Value.slice (some ⟨w0.heap.size, 0, none⟩) 0 0, Value.agg #[Value.slice A d.l.length cap, Value.int IntKind.i64 s.closed, Value.int IntKind.i64 s.mark], Value.slice (some ⟨bK, 0, none⟩) (keysL s).length capK, Value.int IntKind.i64 ↑k, Value.slice (some ⟨bK, 0, none⟩) (keysL s).length capK, Value.int IntKind.i64 ↑(keysL s).length, Value.bool true, u25, u26, Value.tuple #[aggV vv, Value.bool true], aggM A d.l.length cap s.closed s.mark, Value.slice (some ⟨bK, 0, none⟩) (keysL s).length capK, Value.int IntKind.i64 ↑k, Value.pointer (some ⟨bK, k, none⟩), Value.int IntKind.i64 y, Value.int IntKind.i64 u, Value.tuple #[aggV vv, Value.bool true], aggV vv, Value.bool true, Value.bool true, so (f 0) (.slice A0 xs.length cap0) (u38), so (f 1) (Value.slice (some ⟨bK, 0, none⟩) (keysL s).length capK) (u39), so (f 2) (.int .i64 (k : Int)) (u40), so (f 3) (.pointer (some ⟨bK, k, none⟩)) (u41), so (f 4) (.int .i64 y) (u42), so (f 5) (.pointer (some ⟨p, 1, none⟩)) (u43), so (f 6) (.int .i64 vv.2) (u44), so (f 7) (.agg #[.int .i64 y, .int .i64 vv.2]) (u45), so (f 8) (.slice (some ⟨p8, 0, none⟩) 1 1) (u46), so (f 9) (v2) (u47), undef], []⟩ ∧ Lt1 w y1 ((p, 36, #[.int .i64 vv.1, .int .i64 vv.2]) :: [(bK, tK, csK), (w.heap.size, 27, #[.slice A d.l.length cap, .int .i64 s.closed, .int .i64 s.mark])]) w0.heap.size (.slice A0 xs.length cap0) v2 xs (y, vv.2) p8 (f 8) (f 9) ∧ (f 10 = true → f 9 = true) ∧ (f 9 = true → f 0 = true)) (by kernel_rfl) (by kernel_rfl) ?_ ?_ ?_
            · exact ⟨0, undef, rfl, ⟨Lt1.start (HP.out.drewN 1) HLOW.out HFAR.out HO4.out, fun h => (by cases h), fun h => (by cases h)⟩⟩
            · refine ⟨?_, ?_, ?_, ?_, ?_, ?_, ?_, ?_, ?_, ?_, ?_, trivial⟩
              · rintro f a0 y1 Q' ⟨p8, v2, rfl, hw⟩ hi hd hQ
                replace hQ := Lib.hid hQ
                simp [Iv.depsB, Region.binds] at hd
                try simp only [hi, hd, sl_true, sl_false, so_true, so_false]
                try simp only [hi, sl_true, sl_false, so_true, so_false]
                have e10 : f 10 = false := by
                  cases e : f 10 with
                  | false => rfl
                  | true => have h1 := hw.2.2 (hw.2.1 e); rw [hi] at h1; cases h1
                try simp only [e10, so_true, so_false]
                go_wp2_with fail
                refine hQ.out _ _ ⟨p8, v2, ?_, ?_⟩
                · simp [Iv.upd, hi, hd, sl_true, sl_false, so_true, so_false, e10]
                · simpa [Iv.upd, hi, hd, e10] using hw.1
              · rintro f a0 y1 Q' ⟨p8, v2, rfl, hw⟩ hi hd hQ
                replace hQ := Lib.hid hQ
                simp [Iv.depsB, Region.binds] at hd
                try simp only [hi, hd, sl_true, sl_false, so_true, so_false]
                try simp only [hi, sl_true, sl_false, so_true, so_false]
                go_wp2_with fail
                refine hQ.out _ _ ⟨p8, v2, ?_, ?_⟩
                · simp [Iv.upd, hi, hd, sl_true, sl_false, so_true, so_false]
                · simpa [Iv.upd, hi, hd] using hw
              · rintro f a0 y1 Q' ⟨p8, v2, rfl, hw⟩ hi hd hQ
                replace hQ := Lib.hid hQ
                simp [Iv.depsB, Region.binds] at hd
                try simp only [hi, hd, sl_true, sl_false, so_true, so_false]
                try simp only [hi, sl_true, sl_false, so_true, so_false]
                go_wp2_with fail
                refine hQ.out _ _ ⟨p8, v2, ?_, ?_⟩
                · simp [Iv.upd, hi, hd, sl_true, sl_false, so_true, so_false]
                · simpa [Iv.upd, hi, hd] using hw
              · rintro f a0 y1 Q' ⟨p8, v2, rfl, hw⟩ hi hd hQ
                replace hQ := Lib.hid hQ
                simp [Iv.depsB, Region.binds] at hd
                try simp only [hi, hd, sl_true, sl_false, so_true, so_false]
                try simp only [hi, sl_true, sl_false, so_true, so_false]
                go_wp2_with fail
                refine hQ.out _ _ ⟨p8, v2, ?_, ?_⟩
                · simp [Iv.upd, hi, hd, sl_true, sl_false, so_true, so_false]
                · simpa [Iv.upd, hi, hd] using hw
              · rintro f a0 y1 Q' ⟨p8, v2, rfl, hw⟩ hi hd hQ
                replace hQ := Lib.hid hQ
                simp [Iv.depsB, Region.binds] at hd
                try simp only [hi, hd, sl_true, sl_false, so_true, so_false]
                try simp only [hi, sl_true, sl_false, so_true, so_false]
                have hk1 := hw.1.st.knows.at 1 rfl
                have c0 := hk1.cell k
                rw [HCS.out] at c0
                have cz := hk1.lt
                clear hk1
                go_wp2_with fail
                refine hQ.out _ _ ⟨p8, v2, ?_, ?_⟩
                · simp [Iv.upd, hi, hd, sl_true, sl_false, so_true, so_false]
                · simpa [Iv.upd, hi, hd] using hw
              · rintro f a0 y1 Q' ⟨p8, v2, rfl, hw⟩ hi hd hQ
                replace hQ := Lib.hid hQ
                simp [Iv.depsB, Region.binds] at hd
                try simp only [hi, hd, sl_true, sl_false, so_true, so_false]
                try simp only [hi, sl_true, sl_false, so_true, so_false]
                go_wp2_with fail
                refine hQ.out _ _ ⟨p8, v2, ?_, ?_⟩
                · simp [Iv.upd, hi, hd, sl_true, sl_false, so_true, so_false]
                · simpa [Iv.upd, hi, hd] using hw
              · rintro f a0 y1 Q' ⟨p8, v2, rfl, hw⟩ hi hd hQ
                replace hQ := Lib.hid hQ
                simp [Iv.depsB, Region.binds] at hd
                try simp only [hi, hd, sl_true, sl_false, so_true, so_false]
                try simp only [hi, sl_true, sl_false, so_true, so_false]
                have hk1 := hw.1.st.knows.at 0 rfl
                have c0 := hk1.cell 1
                have cz := hk1.lt
                clear hk1
                go_wp2_with fail
                refine hQ.out _ _ ⟨p8, v2, ?_, ?_⟩
                · simp [Iv.upd, hi, hd, sl_true, sl_false, so_true, so_false]
                · simpa [Iv.upd, hi, hd] using hw
              · rintro f a0 y1 Q' ⟨p8, v2, rfl, hw⟩ hi hd hQ
                replace hQ := Lib.hid hQ
                simp [Iv.depsB, Region.binds] at hd
                try simp only [hi, hd, sl_true, sl_false, so_true, so_false]
                try simp only [hi, sl_true, sl_false, so_true, so_false]
                go_wp2_with fail
                refine hQ.out _ _ ⟨p8, v2, ?_, ?_⟩
                · simp [Iv.upd, hi, hd, sl_true, sl_false, so_true, so_false]
                · simpa [Iv.upd, hi, hd] using hw
              · rintro f a0 y1 Q' ⟨p8, v2, rfl, hw⟩ hi hd hQ
                replace hQ := Lib.hid hQ
                simp [Iv.depsB, Region.binds] at hd
                try simp only [hi, hd, sl_true, sl_false, so_true, so_false]
                try simp only [hi, sl_true, sl_false, so_true, so_false]
                have hw2 := hw
                rw [hi] at hw2
                go_wp2_with fail
                refine hQ.out _ _ ⟨y1.heap.size, v2, ?_, ?_⟩
                · simp [Iv.upd, hi, hd, sl_true, sl_false, so_true, so_false]
                · simpa [Iv.upd, hi, hd] using (show _ ∧ _ from ⟨hw2.1.made, hw2.2⟩)
              · rintro f a0 y1 Q' ⟨p8, v2, rfl, hw⟩ hi hd hQ
                replace hQ := Lib.hid hQ
                simp [Iv.depsB, Region.binds] at hd
                try simp only [hi, hd, sl_true, sl_false, so_true, so_false]
                try simp only [hi, sl_true, sl_false, so_true, so_false]
                have e10 : f 10 = false := by
                  cases e : f 10 with
                  | false => rfl
                  | true => have h1 := hw.2.1 e; rw [hi] at h1; cases h1
                have ea : f 0 = true := by simp [hd]
                have eb : f 8 = true := by simp [hd]
                have hw2 := hw.1
                rw [hi, eb] at hw2
                have HW2 := Lib.hid hw2
                clear hw2
                try simp only [ea, eb, e10, so_true, so_false]
                refine wpList_appG rfl (.tmp 38) (.tmp 46) _ 58 _ 2 16 rfl info_ent Try.underlying31 rfl (by decide) w0.heap.size _ xs.length (flat encE xs) rfl (HW2.out.own0 rfl) (p8 + 1) (some ⟨p8, 0, none⟩) 1 1 (flat encE [(y, vv.2)]) rfl HW2.out.sees (fun h => by cases h) (encE_one _) (by omega) (by omega) HW2.out.low.2 ?_
                intro vn yn ho hg
                rw [← flat_append] at ho
                go_wp2_with fail
                refine hQ.out _ _ ⟨p8, vn, ?_, ?_⟩
                · simp [Iv.upd, hi, hd, sl_true, sl_false, so_true, so_false, ea, eb, e10]
                · simpa [Iv.upd, hi, hd, ea, eb, e10] using HW2.out.app ho hg
              · rintro f a0 y1 Q' ⟨p8, v2, rfl, hw⟩ hi hd hQ
                replace hQ := Lib.hid hQ
                simp [Iv.depsB, Region.binds] at hd
                try simp only [hi, hd, sl_true, sl_false, so_true, so_false]
                try simp only [hi, sl_true, sl_false, so_true, so_false]
                have ea : f 9 = true := by simp [hd]
                have eb := hw.2.2 ea
                go_wp2_with fail
                refine hQ.out _ _ ⟨p8, v2, ?_, ?_⟩
                · simp [Iv.upd, hi, hd, sl_true, sl_false, so_true, so_false, ea, eb]
                · simpa [Iv.upd, hi, hd, ea, eb] using hw.1
            · rintro f a0 w6 ⟨p8, v2, rfl, hw⟩ hall
              simp only [hall 0 (by decide), hall 1 (by decide), hall 2 (by decide), hall 3 (by decide), hall 4 (by decide), hall 5 (by decide), hall 6 (by decide), hall 7 (by decide), hall 8 (by decide), hall 9 (by decide), hall 10 (by decide), sl_true, ↓reduceIte, so_true, so_false] at hw ⊢
              clear hall
              have HO6 := Lib.hid (hw.1.own1 rfl)
              have hz6 := hw.1.low.2
              have HS6 : Hid (St w w6 [(bK, tK, csK), (w.heap.size, 27, #[.slice A d.l.length cap, .int .i64 s.closed, .int .i64 s.mark])]) := Lib.hid (hw.1.st.few fun r hr => List.mem_cons_of_mem _ hr)
              clear hw
              go_wp2_with fail
              go_roundw
              case rel => exact ⟨k + 1, by omega, by go_num, by rw [HST.out]; simp only [Option.toList]; rw [List.length_append]; exact HO6.out, HS6.out, hz6⟩
              case measure => simp [intOf]; omega
      · obtain rfl : k = (keysL s).length := by omega
        rw [List.take_length] at HO2
        obtain ⟨A2, cap2, rfl, -, -, -⟩ := own_slice0 HO2.out
        go_wp2_with fail
        refine bodyPost_ret (by simp [results, Try.results19, go_sem]; try rfl) rfl ?_
        exact ⟨A2, cap2, rfl, HS.out.below, ow_less HO2.out (by omega)⟩
  · have e1 : snapS s u = [] := by unfold snapS; rw [if_neg h0]
    rw [e1]
    have h1 : (tellsE s u == 0) = false := by simpa using h0
    clear h0 e1 HREL HC HK
    generalize tellsE s u = z at *
    go_enter Try.func19, Try.ntmps19
    go_wp2_with fail
    refine (HT.out _).mono ?_
    rintro e w0 ⟨rfl, hb⟩
    have hb2 := H.out.below.trans (hb.mono H.out.below.size)
    go_wp2_with fail
    refine bodyPost_ret (by simp [results, Try.results19, go_sem]; try rfl) rfl ?_
    exact ⟨none, 0, rfl, hb2, World.ownsRow_nil w0 _ _ _⟩
end Go.Proofs.Ytcpcepbjdohdmaa
