/- What comes out is its owner's, and doesn't grow into its neighbour: FrameOwn answers true at every list of texts. No condition. -/
import Derived.Test.YthpmpbipdgianaaFrameZ
namespace Go.Proofs.Ythpmpbipdgianaa.frameOwn
open Go.ChangeShapes Go.WideShapes Go.ChangeAt Go.RowKit Go.Fm
set_option linter.unusedVariables false
set_option linter.unusedSimpArgs false

theorem own_place {w : World} {B : Nat} {A : Option Addr} {n c : Nat} {bs : List UInt8} (h : OwnB w B (.slice A n c) bs) : (A = none ∧ c = 0) ∨ ∃ b0 off, A = some ⟨b0, off, none⟩ ∧ b0 < w.heap.size := by
  rcases h.2 with ⟨hv, h0⟩ | ⟨g, cap, cur, hv, hb, hg, _⟩
  · injection hv with h1 h2 h3
    exact .inl ⟨h1, h3⟩
  · injection hv with h1 h2 h3
    exact .inr ⟨g, 0, h1, (Array.getElem?_eq_some_iff.1 hg).1⟩
/-- The law behind its opening: the loads are few and short, and are sealed. -/
theorem shorts_few (ls : List (List UInt8)) : (shorts (ls.take 12)).length ≤ 12 ∧ ∀ l ∈ shorts (ls.take 12), l.length ≤ 300 := by
  refine ⟨by rw [shorts_length, List.length_take]; omega, fun l hl => ?_⟩
  obtain ⟨x, _, rfl⟩ := List.mem_map.1 hl
  rw [List.length_take]; omega
theorem frames_small (ms : List (List UInt8)) (h : ∀ l ∈ ms, l.length ≤ 300) : (frames ms).length ≤ ms.length * 308 := by
  induction ms with
  | nil => simp [frames]
  | cons l m ih =>
    have := ih fun x hx => h x (List.mem_cons_of_mem _ hx)
    have := h l (by simp)
    rw [frames_cons, List.length_append, frame_length, List.length_cons]; omega

theorem own_grown {w w' : World} {base size n : Nat} {e : TypeId} {v : Value} {xs : List Value} {row : Option Nat} (h : w.ownsRow base e size v n xs) (hg : w.grownBy w' row) (hr : ∀ k, row = some k → k < base) : w'.ownsRow base e size v n xs := by
  refine h.kept hg ?_
  cases hv : v.ownBlock with
  | none => exact .inl rfl
  | some k =>
    refine .inr fun e => ?_
    have := (h.lt k hv).1
    have := hr k e.symm
    omega

/-- What Scan gave shows its loads, as long as its row and the block of all loads are there. -/
theorem shows_of {w : World} {B h g : Nat} {cs : Array Value} {v : Value} {ls : List (List UInt8)} (row : Whole w h 22 cs)
    (at_ : ∀ k l, ls[k]? = some l → cs[k]? = some (Value.slice (tailA g (frames (ls.take k)).length (8 + l.length)) l.length l.length)) (own : OwnB w B v (frames ls)) (form : 0 < ls.length → ∃ c, v = .slice (some ⟨g, 0, none⟩) (frames ls).length c)
    (hl : (frames ls).length ≤ 9223372036854775807) : ShowsL w w.heap.size (some ⟨h, 0, none⟩) ls := by
  intro h0
  obtain ⟨c, rfl⟩ := form h0
  refine ⟨h, 0, rfl, row.lt, fun k l hk => ⟨_, _, ?_, Nat.le_refl _, ?_, load_sees own rfl k l hk⟩⟩
  · rw [Nat.zero_add, row.cell k]; exact at_ k l hk
  · have h1 := frames_upto ls (k + 1)
    rw [frames_take ls k l hk, List.length_append, frame_length] at h1
    omega

/-- append(x, c) where x has no room: it goes elsewhere. -/
theorem wpList_appFull {ops : Array Oper} {rest : List Oper} {o : Oper} {a : Act} {Q : Exit → Act → World → Prop} {w : World} (hgd : o.guard = none) (s x : Operand)
    (ho : o.op = .call { callee := .builtin .append, args := #[s, x], argTypes := #[22, 22] })
    (b : Addr) (n : Nat) (olds : List UInt8) (hn : olds.length = n) (hs : a.eval s = .slice (some b) n n) (holds : ∀ j u, (Lib.byteCells olds)[j]? = some u → w.cell? (b.add j) = some u)
    (c : UInt8) (k : Int) (hk : k = c.toNat) (g : Nat) (hx : a.eval x = .slice (some ⟨g, 0, none⟩) 1 1) (hgs : g = w.heap.size) (hlen : n ≤ 1000000)
    (h : ∀ cap w', w'.ownsRow (w.heap.size + 1) 5 1 (.slice (some ⟨w.heap.size + 1, 0, none⟩) (n + 1) cap) (n + 1) (Lib.byteCells (olds ++ [c])) → n + 1 ≤ cap → cap ≤ 9223372036854775807 → Below w.heap.size w w' → w'.heap.size = w.heap.size + 2 → wpList Try.prog ops Q rest (a.put o.dst (.slice (some ⟨w.heap.size + 1, 0, none⟩) (n + 1) cap)) w') :
    wpList Try.prog ops Q (o :: rest) a (w.alloc (.cells #[.int .u8 k] 5)) := by
  subst hgs
  obtain ⟨i0, hi, hz0, hz1, hz2⟩ := info_parts info_byte
  have hW := Whole.fresh w 5 #[.int .u8 k]
  have hr := run_append_grow (P := Try.prog) (w.alloc (.cells #[.int .u8 k] 5)) 22 o.type 5 i0 (.int .u8 0) Try.underlying22 hi hz0 b n n (Lib.byteCells olds) (by rw [hz1]; simp [Lib.byteCells, hn])
    (fun j u hu => (World.cell?_alloc_lt w _ _ (World.block_lt_of_cell? w _ (holds j u hu))).trans (holds j u hu)) ⟨w.heap.size, 0, none⟩ 1 1 (Lib.byteCells [c]) (by rw [hz1]; rfl)
    (fun j u hu => by
      rw [add_at, Nat.zero_add, hW.cell j]
      subst hk
      simpa [Lib.byteCells] using hu) (by omega) (by omega) (by
      have := nextslicecap_le (show n < n + 1 by omega)
      rw [hz2]; omega)
  refine wpList_plain hgd fun K hK => ?_
  unfold Oper.wp execOp
  simp only [ho, resolve, invoke, builtin, Sem.run_bind, Sem.run_pure, Result.andThen_ok, List.map_toArray, List.map_cons, List.map_nil, hs, hx, hr]
  have hge := grownCap_ge (w.alloc (.cells #[.int .u8 k] 5)) (n + 1) n 5
  have hle := grownCap_le_maxLen (w.alloc (.cells #[.int .u8 k] 5)) (n + 1) n 5 (by unfold maxLen; omega)
  generalize grownCap (w.alloc (.cells #[.int .u8 k] 5)) (n + 1) n 5 = cap at *
  rw [show (w.alloc (.cells #[.int .u8 k] 5)).heap.size = w.heap.size + 1 by simp]
  refine hK _ _ (h cap _ ?_ hge (by unfold maxLen at hle; exact hle) ?_ ?_)
  · refine ⟨by simp [Lib.byteCells, hn], .inr ⟨w.heap.size + 1, cap, (Lib.byteCells olds).toArray ++ (Lib.byteCells [c]).toArray ++ Builtin.zeroCells (Value.int .u8 0).cells (cap - (n + 1)), rfl, Nat.le_refl _, ?_, hge, hle, ?_, ?_⟩⟩
    · have h2 := heap_alloc_new (w.alloc (.cells #[.int .u8 k] 5)).drew (.cells ((Lib.byteCells olds).toArray ++ (Lib.byteCells [c]).toArray ++ Builtin.zeroCells (Value.int .u8 0).cells (cap - (n + 1))) 5)
      rw [show (w.alloc (.cells #[.int .u8 k] 5)).drew.heap.size = w.heap.size + 1 by show (w.alloc (.cells #[.int .u8 k] 5)).heap.size = _; simp] at h2
      exact h2
    · rw [Array.size_append, Array.size_append, size_zeroCells]
      simp [Lib.byteCells, hn, Value.cells]
      omega
    · rw [Array.toList_append, Array.toList_append, Lib.byteCells_append]
      have : ((Lib.byteCells olds).toArray.toList ++ (Lib.byteCells [c]).toArray.toList).length = (n + 1) * 1 := by simp [Lib.byteCells, hn]
      rw [List.take_append_of_le_length (by omega), List.take_of_length_le (by omega)]
  · exact (((Below.refl w.heap.size w).alloc (Nat.le_refl _) _).drew).alloc (by show _ ≤ (w.alloc (.cells #[.int .u8 k] 5)).heap.size; simp) _
  · show ((w.alloc (.cells #[.int .u8 k] 5)).drew.alloc _).heap.size = _
    simp

theorem grow_refl (w : World) (row : Option Nat) : w.grownBy w row := ⟨rfl, rfl, rfl, Nat.le_refl _, fun _ _ _ => rfl⟩
theorem grow_set_row {w w' : World} {r : Nat} (h : w.grownBy w' (some r)) (j : Nat) (u : Value) : w.grownBy (w'.setCell ⟨r, j, none⟩ u) (some r) :=
  ⟨h.os, h.tape, h.output, by simp; exact h.size, fun k hk hr => (heap_setCell_other w' ⟨r, j, none⟩ k u (fun e => hr (by rw [e]))).trans (h.block k hk hr)⟩
theorem grow_set_new {w w' : World} {row : Option Nat} (h : w.grownBy w' row) {p : Addr} (hp : w.heap.size ≤ p.block) (u : Value) : w.grownBy (w'.setCell p u) row :=
  ⟨h.os, h.tape, h.output, by simp; exact h.size, fun k hk hr => (heap_setCell_other w' p k u (fun e => by omega)).trans (h.block k hk hr)⟩
theorem grow_below {w w' w'' : World} {row : Option Nat} (h : w.grownBy w' row) (hb : Below w'.heap.size w' w'') : w.grownBy w'' row :=
  ⟨hb.os.trans h.os, hb.tape.trans h.tape, hb.output.trans h.output, Nat.le_trans h.size hb.size, fun k hk hr => (hb.block k (Nat.lt_of_lt_of_le hk h.size)).trans (h.block k hk hr)⟩
theorem own_far {w : World} {base size n c g : Nat} {e : TypeId} {xs : List Value} (h : w.ownsRow base e size (.slice (some ⟨g, 0, none⟩) n c) n xs) (b j : Nat) (u : Value) (hb : b ≠ g) : (w.setCell ⟨b, j, none⟩ u).ownsRow base e size (.slice (some ⟨g, 0, none⟩) n c) n xs := by
  refine ⟨h.1, ?_⟩
  rcases h.2 with hn | ⟨g', cap, cur, hv, hb', hg, r⟩
  · exact .inl hn
  · injection hv with h1 h2 h3
    injection h1 with h1
    injection h1 with h1
    subst h1 h3
    exact .inr ⟨g, c, cur, rfl, hb', (heap_setCell_other w ⟨b, j, none⟩ g u (fun e => hb e.symm)).trans hg, r⟩
theorem tail_some (g b n : Nat) : ∃ ad, tailA g b n = some ad := by unfold tailA; split <;> exact ⟨_, rfl⟩

set_option maxHeartbeats 4000000 in
theorem walk (A : Option Addr) (len cap : Nat) (ls : List (List UInt8)) (w : World) (hL : IsS w A len cap ls) :
    Calls Try.prog 10 #[.slice A len cap] w fun e w' => e = .returned (.bool true) ∧ Below w.heap.size w w' := by
  obtain ⟨rfl, hs, hc1, hc2, hlens⟩ := hL
  have HLD := Lib.hid (loads_any _ A cap ls w hs (Nat.le_refl _) (by omega) hlens)
  have hsf := shorts_few ls
  generalize shorts (ls.take 12) = ms at *
  obtain ⟨hm12, hm300⟩ := hsf
  have hF := frames_small ms hm300
  have HM3 := Lib.hid hm300
  have hlow : ∀ l ∈ ms, l.length ≤ 65536 := fun l hl => by have := hm300 l hl; omega
  have hsn : scan (frames ms) = (ms, (frames ms).length) := by
    have := scan_frames ms [] hlow
    rw [scan_nil, List.append_nil, List.append_nil] at this
    exact this
  have HSN := Lib.hid hsn
  clear hs hlens hm300 hlow hsn
  go_enter Try.func10, Try.ntmps10
  go_wp2_with fail
  refine HLD.out.mono ?_
  rintro e w1 ⟨v1, rfl, ho1, hb1⟩
  obtain ⟨A1, c1, rfl, hc11, hc12, -⟩ := own_slice0 ho1
  have HB1 := Lib.hid hb1
  have HZ1 := hb1.size
  have HX1 := Lib.hid (Sees.own ho1)
  have HSL := Lib.hid (sealed_any _ A1 c1 ms w1 (Sees.own ho1) (Nat.le_refl _) (by omega) HM3.out)
  clear ho1 hb1
  go_wp2_with fail
  refine HSL.out.mono ?_
  rintro e w2 ⟨v2, rfl, ho2, hb2⟩
  obtain ⟨A2, c2, rfl, hc21, hc22, hn2⟩ := own_slice0 ho2
  have HB2 := Lib.hid (HB1.out.trans (hb2.mono HZ1))
  have HZ2 := HB2.out.size
  have hz2 := hb2.size
  have HX2 := Lib.hid (HX1.out.below hb2)
  have HY2 := Lib.hid (ho2.sees rfl)
  have HN2 := Lib.hid hn2
  clear ho2 hb2 hn2
  go_wp2_with fail
  refine (awake_any _).mono ?_
  rintro e w3 ⟨rfl, hb3⟩
  have HB3 := Lib.hid (HB2.out.trans (hb3.mono HZ2))
  have HZ3 := HB3.out.size
  have hz3 := hb3.size
  have HX3 := Lib.hid (HX2.out.below (hb3.mono hz2))
  have HY3 := Lib.hid (HY2.out.below hb3)
  clear hb3
  generalize hfr : frames ms = fr at *
  have HFR := Lib.hid hfr
  clear hfr
  go_wp2_with (at_builtin; refine wpList_appG rfl (.tmp 26) (.tmp 27) _ 5 _ 1 1 rfl info_byte Try.underlying22 rfl (by decide) w3.heap.size _ 0 [] rfl (own_empty w3 5 1) _ A2 fr.length c2 (Lib.byteCells fr) rfl (HY3.out.alloc hz3 _) HN2.out (byte_one _) (by omega) (by omega) (by simp) ?_)
  intro v4 w4 ho4 hg4
  have hb4 : Below w3.heap.size w3 w4 := ((Below.refl w3.heap.size w3).alloc (Nat.le_refl _) _).grown hg4 (by simp) fun k hk => by
    have : some w3.heap.size = some k := hk
    injection this with this; omega
  have ho4' : OwnB w4 w3.heap.size v4 fr := by unfold OwnB; simpa using ho4
  obtain ⟨A4, c4, rfl, hc41, hc42, -⟩ := own_slice0 ho4'
  have hpl := own_place ho4'
  have HB4 := Lib.hid (HB3.out.trans (hb4.mono HZ3))
  have HZ4 := HB4.out.size
  have hz4 := hb4.size
  have HX4 := Lib.hid (HX3.out.below (hb4.mono (by omega)))
  have HY4 := Lib.hid (HY3.out.below (hb4.mono hz3))
  have HI4 := Lib.hid (ho4'.sees rfl)
  have HSC := Lib.hid (fun w0 (h : Below w4.heap.size w4 w0) => scan_all w4.heap.size A4 c4 fr w0 ((ho4'.sees rfl).below h) hpl h.size hc41 hc42 (by omega))
  unfold Scans at HSC
  rw [HSN.out] at HSC
  have HSC1 := Lib.hid (HSC.out w4 (Below.refl _ _))
  clear ho4 hg4 ho4' hpl hb4
  go_wp2_with fail
  refine HSC1.out.mono ?_
  rintro e w5 ⟨h5, g5, cs5, v5, rfl, hs5⟩
  have HS5 := Lib.hid hs5
  have HB5 := Lib.hid (HB4.out.trans (hs5.below.mono HZ4))
  have HZ5 := HB5.out.size
  have hz5 := hs5.below.size
  have HSC2 := Lib.hid (HSC.out w5 hs5.below)
  clear hs5
  go_wp2_with fail
  refine HSC2.out.mono ?_
  rintro e w6 ⟨h6, g6, cs6, v6, rfl, hs6⟩
  have HS6 := Lib.hid hs6
  have HB6 := Lib.hid (HB5.out.trans (hs6.below.mono HZ5))
  have HZ6 := HB6.out.size
  have hz6 := hs6.below.size
  have HROW5 := Lib.hid (HS5.out.row.below hs6.below HS5.out.row.lt)
  have HOWN5 := Lib.hid (HS5.out.own.keep hs6.below (Nat.le_refl _))
  have hlt5 := HS5.out.row.lt
  have hnew5 := HS5.out.new
  clear hs6
  go_wp2_with fail
  go_loopw [11] (fun i wr => ∃ (k : Nat) (cs : Array Value), k ≤ ms.length ∧ i = .int .i64 (k : Int) ∧ Whole wr h5 22 cs ∧ cs.size = ms.length ∧
    (∀ j l, ms[j]? = some l → k ≤ j → cs[j]? = some (Value.slice (tailA g5 (frames (ms.take j)).length (8 + l.length)) l.length l.length)) ∧ w6.grownBy wr (some h5)) (fun i _ => ms.length - (intOf i).toNat)
  case atStart => exact ⟨0, cs5, by omega, rfl, HROW5.out, HS5.out.size, (fun j l hj _ => HS5.out.at_ j l hj), grow_refl _ _⟩
  case round =>
    obtain ⟨k, cs, hk, rfl, hwh, hcs, hat, hg⟩ := hrel
    have HG := Lib.hid hg
    have HAT := Lib.hid hat
    have HWH := Lib.hid hwh
    have hgz := hg.size
    by_cases hlt : k < ms.length
    · obtain ⟨l, hl⟩ : ∃ l, ms[k]? = some l := ⟨_, List.getElem?_eq_getElem hlt⟩
      have g0 := hwh.cell k
      rw [hat k l hl (Nat.le_refl _)] at g0
      obtain ⟨c5', hv5⟩ := HS5.out.form (by omega)
      have hown : OwnB wr w4.heap.size v5 (frames ms) := World.ownsRow.kept HOWN5.out hg (.inr (by
        rw [hv5]
        intro h
        have h : some g5 = some h5 := h
        injection h with h
        exact HS5.out.apart h))
      rw [hv5] at hown
      have hse := load_sees hown rfl k l hl
      have hl3 := HM3.out l (List.mem_of_getElem? hl)
      obtain ⟨ad, had⟩ := tail_some g5 (frames (ms.take k)).length (8 + l.length)
      rw [had] at g0 hse
      have hholds : ∀ j u, (Lib.byteCells l)[j]? = some u → wr.cell? (ad.add j) = some u := by
        intro j u hu
        have hj : 0 < l.length := by
          have := (List.getElem?_eq_some_iff.1 hu).1
          simp [Lib.byteCells] at this
          omega
        obtain ⟨b0, o0, hA, _, hc⟩ := hse.2 hj
        injection hA with hA
        subst hA
        rw [add_at]; exact hc j u hu
      have HHO := Lib.hid hholds
      have hkl : (k : Int) < (ms.length : Int) := by omega
      have HLK := Lib.hid hl
      clear hwh hat hg hown hse hholds hl had hv5
      go_wp2_with (at_builtin; refine wpList_appFull rfl (.tmp 50) (.tmp 51) rfl ad l.length l rfl rfl HHO.out 77 77 rfl _ rfl rfl (by omega) ?_)
      intro cap7 w7 hrow7 hcap1 hcap2 hb7 hz7
      have hwh7 : Whole w7 h5 22 cs := HWH.out.below hb7 HWH.out.lt
      have hkc : k < cs.size := by omega
      have g1 := hwh7.cell k
      rw [Array.getElem?_eq_getElem hkc] at g1
      have g2 := hwh7.free k
      have HW8 := Lib.hid (hwh7.set k (.slice (some ⟨wr.heap.size + 1, 0, none⟩) (l.length + 1) cap7))
      have HR8 := Lib.hid (own_far hrow7 h5 k (.slice (some ⟨wr.heap.size + 1, 0, none⟩) (l.length + 1) cap7) (by have := HWH.out.lt; omega))
      have HG8 := Lib.hid (grow_set_row (grow_below HG.out hb7) k (.slice (some ⟨wr.heap.size + 1, 0, none⟩) (l.length + 1) cap7))
      clear hrow7 hb7 hwh7
      go_wp2_with fail
      obtain ⟨w8, hw8⟩ : ∃ w8, w8 = w7.setCell ⟨h5, k, none⟩ (.slice (some ⟨wr.heap.size + 1, 0, none⟩) (l.length + 1) cap7) := ⟨_, rfl⟩
      rw [← hw8] at HW8 HR8 HG8 ⊢
      have hz8 : w8.heap.size = wr.heap.size + 2 := by rw [hw8]; simp; exact hz7
      have HCS : Hid ((cs.setIfInBounds k (.slice (some ⟨wr.heap.size + 1, 0, none⟩) (l.length + 1) cap7))[k]? = some (.slice (some ⟨wr.heap.size + 1, 0, none⟩) (l.length + 1) cap7)) := Lib.hid (by rw [Array.getElem?_setIfInBounds, if_pos rfl, if_pos hkc])
      have HNEW : Hid (∀ j l', ms[j]? = some l' → k + 1 ≤ j → (cs.setIfInBounds k (Value.slice (some ⟨wr.heap.size + 1, 0, none⟩) (l.length + 1) cap7))[j]? = some (Value.slice (tailA g5 (frames (ms.take j)).length (8 + l'.length)) l'.length l'.length)) := Lib.hid (by
        intro j l' hj hjk
        rw [Array.getElem?_setIfInBounds, if_neg (by omega)]
        exact HAT.out j l' hj (by omega))
      have HSZ : Hid ((cs.setIfInBounds k (Value.slice (some ⟨wr.heap.size + 1, 0, none⟩) (l.length + 1) cap7)).size = ms.length) := Lib.hid (by rw [Array.size_setIfInBounds]; exact hcs)
      generalize cs.setIfInBounds k (Value.slice (some ⟨wr.heap.size + 1, 0, none⟩) (l.length + 1) cap7) = cs8 at *
      generalize hg7 : wr.heap.size + 1 = g7 at *
      have hg76 : w6.heap.size ≤ g7 := by omega
      have hg7h : h5 ≠ g7 := by omega
      clear hw8 g0 g1 g2
      go_loopw [12] (fun i w9 => ∃ (j : Nat) (xs : List Value), j ≤ l.length + 1 ∧ i = .int .i64 (j : Int) ∧ Whole w9 h5 22 cs8 ∧ w9.ownsRow g7 5 1 (.slice (some ⟨g7, 0, none⟩) (l.length + 1) cap7) (l.length + 1) xs ∧ w6.grownBy w9 (some h5)) (fun i _ => l.length + 1 - (intOf i).toNat)
      case atStart => exact ⟨0, _, by omega, rfl, HW8.out, HR8.out, HG8.out⟩
      case round =>
        clear HW8 HR8 HG8
        obtain ⟨j, xs, hj, rfl, hwh9, hrow9, hg9⟩ := hrel
        have g0 := hwh9.cell k
        rw [HCS.out] at g0
        have HG9 := Lib.hid hg9
        have HW9 := Lib.hid hwh9
        by_cases hjl : j < l.length + 1
        · have hxl : j < xs.length := by have := hrow9.1; omega
          have g1 := hrow9.cellAt j (by omega)
          rw [List.getElem?_eq_getElem hxl] at g1
          have g2 := hrow9.frozenAt j
          have HST := Lib.hid (hrow9.stored j (.int .u8 255))
          have HW10 := Lib.hid (hwh9.away (p := ⟨g7, j, none⟩) hg7h (.int .u8 255))
          have HG10 := Lib.hid (grow_set_new hg9 (p := ⟨g7, j, none⟩) hg76 (.int .u8 255))
          generalize xs[j] = u at *
          have hjl2 : (j : Int) < (l.length : Int) + 1 := by omega
          clear hwh9 hrow9 hg9
          go_wp2_with fail
          go_roundw
          case rel => exact ⟨j + 1, _, by omega, by go_num, HW10.out, HST.out.1, HG10.out⟩
          case measure => simp [intOf]; omega
        · obtain rfl : j = l.length + 1 := by omega
          clear hwh9 hrow9 hg9
          go_wp2_with fail
          go_roundw
          case rel => exact ⟨k + 1, cs8, by omega, by go_num, HW9.out, HSZ.out, HNEW.out, HG9.out⟩
          case measure => simp [intOf]; omega
    · obtain rfl : k = ms.length := by omega
      have hz46 : w4.heap.size ≤ w6.heap.size := by omega
      have hb46 : Below w4.heap.size w4 wr := (HS5.out.below.trans (HS6.out.below.mono hz5)).grown hg hz46 fun k hk => by
        injection hk with hk
        omega
      have hcv1 := conv_bytes fr A4 c4 w4.heap.size wr (HI4.out.below hb46)
      have hcv2 := conv_bytes fr A2 c2 w2.heap.size wr (HY4.out.below (hb46.mono (by omega)))
      have hn6 := HS6.out.new
      have hsh := shows_of (HS6.out.row.grown hg (by
        intro h
        injection h with h
        omega)) HS6.out.at_ (own_grown HS6.out.own hg (fun k hk => by
        injection hk with hk
        omega)) HS6.out.form (by rw [HFR.out]; omega)
      have HSH := Lib.hid hsh
      have HXX := Lib.hid (HX4.out.below (hb46.mono (by omega)))
      have HBW := Lib.hid (HB6.out.grown hg HZ6 fun k hk => by
        injection hk with hk
        omega)
      have hzw : w1.heap.size ≤ wr.heap.size := by omega
      clear hwh hat hg hb46 hsh
      go_wp2_with fail
      refine (same_any wr.heap.size w1.heap.size (some ⟨h6, 0, none⟩) A1 ms.length c1 ms ms wr (by omega) HSH.out HXX.out (Nat.le_refl _) hzw).mono ?_
      rintro e w10 ⟨rfl, hb10⟩
      rw [decide_eq_true (rfl : ms = ms)]
      have HB10 := Lib.hid (HBW.out.trans (hb10.mono HBW.out.size))
      clear hb10
      go_wp2_with fail
      go_ret
      exact ⟨rfl, HB10.out⟩

set_option maxRecDepth 100000 in
theorem lifted (os : Os) (started : os.Started) (H : Type) (enc : TypeId × Value → H) :
    ReturnsInHanded {} Try.checked os 10 .any (Rows.frameOwnSpec.pre6 enc Try.prog Try.f10 Rows.frameOwnRow.domain false) (Rows.frameOwnSpec.post enc Try.prog Try.f10 false true false false) := by
  refine returnsInHanded_of_change (C := Try.checked) own started (by kernel_rfl) Try.func10
    (ChangeSpec.witness6 (enc := enc) (C := Try.checked) false ⟨#[], #[.slice none 0 0], []⟩ 8 (by kernel_rfl) (by kernel_rfl) (by kernel_rfl) (by kernel_rfl)) ?_
  intro W base args ds gs before hval0 hW hcnd _
  have hval : ∀ (j : Nat) t v, Try.f10.params[j]? = some t → args[j]? = some v → Value.okWide Try.prog W .any base t v := hval0
  have hW' := hW
  obtain ⟨p, q, hA0, hV, rfl, hfz, hnd⟩ := hW
  have hA : DataW.TrodAll enc Try.prog W 0 (fun _ => true) true Try.f10.params.toList args.toList ds p := hA0
  rw [Try.params10] at hA hval
  obtain ⟨v0, vs0, d0, ds0, p0, q0, hargs, rfl, rfl, h0, r0⟩ := trodAll_cons hA
  obtain ⟨rfl, rfl, rfl⟩ := trodAll_nil r0
  obtain rfl : args = #[v0] := by cases args; simp_all
  obtain ⟨rfl, rfl⟩ := trodVars_none hV
  obtain ⟨A0, len0, cap0, rfl⟩ := okWide_slice Try.underlying42 (hval 0 42 v0 rfl rfl)
  obtain ⟨l0, w0⟩ := open_strs h0
  have lt0 : ∀ x ∈ p0, x.block < W.heap.size := by obtain ⟨m, hm⟩ := h0; exact DataW.trod_lt m _ _ _ hm
  clear hA0 hval0
  simp only [List.append_nil] at hW'
  refine (walk A0 len0 cap0 l0 W w0).mono fun e W' ⟨he, bel⟩ => ?_
  subst he
  exact ⟨_, rfl, _, _, _, [], _, [], hW', trodAll_mk1 (shut_bool Try.underlying4 _), (trodAll_cons_mk (Below.trod laidOut (by kernel_rfl) (of_decide_eq_true (by kernel_rfl)) h0 bel lt0) trodAll_mk0), rfl, bel.frame _, fun h => by cases h⟩

theorem proved : Rows.FrameOwnSaid :=
  OpenClaim.holds_of_wide 10 Try.f10 rfl rfl rfl rfl rfl rfl rfl ⟨rfl, rfl, rfl, rfl, rfl⟩ rfl rfl rfl rfl rfl (by kernel_rfl) Try.func10 (by kernel_rfl)
    (of_decide_eq_true (by kernel_rfl)) (by unfold Func.isWrapper; first | (rw [if_pos (by decide +kernel)]; kernel_rfl) | (rw [if_neg (by decide +kernel)]; exact ⟨rfl, rfl⟩))
    (fun os started H enc _ => lifted os started H enc)
#print axioms proved
end Go.Proofs.Ythpmpbipdgianaa.frameOwn
