/- Contract of the program's Scan. -/
import Derived.Test.YtlfigbgcackimaaFrT
namespace Go.Proofs.Ytlfigbgcackimaa
open Go.RowKit Go.Fm
set_option linter.unusedVariables false
set_option linter.unusedSimpArgs false
set_option maxRecDepth 100000

theorem info_sl : (Try.prog.info? 52).map (fun i => (i.zero, i.size, i.bytes)) = some (some (.slice none 0 0), 1, 24) := by kernel_rfl

/-- Numbers as cells. -/
def nats (E : List Nat) : List Value := E.map fun (n : Nat) => Value.int .i64 ((n : Nat) : Int)
theorem nats_one (E : List Nat) : ∀ u ∈ nats E, u.oneCell' = true := by
  intro u hu
  obtain ⟨c, _, rfl⟩ := List.mem_map.1 hu
  rfl
theorem ints_append (l m : List Nat) : nats (l ++ m) = nats l ++ nats m := by simp [nats]
theorem nats_at (E : List Nat) (k n : Nat) (h : E[k]? = some n) : (nats E)[k]? = some (.int .i64 (n : Int)) := by
  unfold nats; rw [List.getElem?_map, h]; rfl
def OwnI (w : World) (B : Nat) (v : Value) (E : List Nat) : Prop := w.ownsRow B 3 1 v E.length (nats E)
theorem OwnI.keep {w w' : World} {B B' : Nat} {v : Value} {E : List Nat} (h : OwnI w B v E) (k : Below B' w w') (hB : w.heap.size ≤ B') : OwnI w' B v E := own_keep h k hB

/-- append(v, n): one number more. -/
theorem wpList_appI {ops : Array Oper} {rest : List Oper} {o : Oper} {a : Act} {Q : Exit → Act → World → Prop} {w : World} (hgd : o.guard = none) (s x : Operand)
    (ho : o.op = .call { callee := .builtin .append, args := #[s, x], argTypes := #[28, 28] })
    (B : Nat) (v : Value) (E : List Nat) (hs : a.eval s = v) (hown : OwnI w B v E) (n : Nat) (N : Int) (hN : N = (n : Int)) (g : Nat) (hx : a.eval x = .slice (some ⟨g, 0, none⟩) 1 1) (hgs : g = w.heap.size)
    (hB : B ≤ w.heap.size) (hlen : E.length + 1 ≤ 1000000000)
    (h : ∀ v' w', OwnI w' B v' (E ++ [n]) → Below B w w' → wpList Try.prog ops Q rest (a.put o.dst v') w') :
    wpList Try.prog ops Q (o :: rest) a (w.alloc (.cells #[.int .i64 N] 3)) := by
  subst hgs hN
  have hse : Sees (w.alloc (.cells #[.int .i64 (n : Int)] 3)) (w.heap.size + 1) 1 (some ⟨w.heap.size, 0, none⟩) 1 (nats [n]) := by
    refine ⟨rfl, fun _ => ⟨w.heap.size, 0, rfl, by omega, fun j u hu => ?_⟩⟩
    rw [Nat.zero_add, (Whole.fresh w 3 _).cell j]; simpa [nats] using hu
  refine wpList_appG hgd s x 28 3 _ 1 8 ho info_int Try.underlying28 rfl (by decide) B v E.length (nats E) hs (World.ownsRow.alloc hown _) _ _ 1 1 (nats [n]) hx hse (fun h => by cases h) (nats_one _) (by omega) (by omega) (by simp; omega) ?_
  intro v' w' ho' hg
  refine h v' w' ?_ (((Below.refl B w).alloc hB _).grown hg (by simp; omega) fun k hk => (hown.lt k hk).1)
  unfold OwnI
  rw [ints_append, List.length_append]; exact ho'

/-- Where each frame ends. -/
def ends (ls : List (List UInt8)) : List Nat := (List.range ls.length).map fun k => (frames (ls.take (k + 1))).length
theorem ends_length (ls : List (List UInt8)) : (ends ls).length = ls.length := by simp [ends]
theorem ends_at (ls : List (List UInt8)) (k : Nat) (h : k < ls.length) : (ends ls)[k]? = some (frames (ls.take (k + 1))).length := by
  unfold ends; rw [List.getElem?_map, List.getElem?_range h]; rfl
theorem ends_snoc (ls : List (List UInt8)) (l : List UInt8) : ends (ls ++ [l]) = ends ls ++ [(frames (ls ++ [l])).length] := by
  unfold ends
  rw [List.length_append, List.length_singleton, List.range_succ, List.map_append]
  congr 1
  · apply List.map_congr_left
    intro k hk
    have := List.mem_range.1 hk
    rw [List.take_append_of_le_length (by omega)]
  · rw [List.map_singleton, List.take_of_length_le (by simp)]
theorem frames_take (ls : List (List UInt8)) (k : Nat) (l : List UInt8) (h : ls[k]? = some l) : frames (ls.take (k + 1)) = frames (ls.take k) ++ frame l := by
  have hl := List.getElem?_eq_some_iff.1 h
  rw [List.take_succ_eq_append_getElem hl.1, hl.2, frames_append]; simp [frames]
theorem frames_upto (ls : List (List UInt8)) (k : Nat) : (frames (ls.take k)).length ≤ (frames ls).length := by
  have e : frames ls = frames (ls.take k) ++ frames (ls.drop k) := by rw [← frames_append, List.take_append_drop]
  have := congrArg List.length e
  rw [List.length_append] at this
  omega
theorem frames_part (ls : List (List UInt8)) (k : Nat) (l : List UInt8) (h : ls[k]? = some l) : ((frames ls).drop (frames (ls.take k)).length).take (8 + l.length) = frame l := by
  have e : frames ls = frames (ls.take (k + 1)) ++ frames (ls.drop (k + 1)) := by rw [← frames_append, List.take_append_drop]
  rw [e, frames_take ls k l h, List.append_assoc, List.drop_append_of_le_length (Nat.le_refl _), List.drop_of_length_le (Nat.le_refl _), List.nil_append,
    List.take_append_of_le_length (by rw [frame_length]; omega), List.take_of_length_le (by rw [frame_length]; omega)]

/-- A load in the block of all frames. -/
theorem load_sees {w : World} {B g n c : Nat} {ls : List (List UInt8)} (h : OwnB w B (.slice (some ⟨g, 0, none⟩) n c) (frames ls)) (hn : n = (frames ls).length) (k : Nat) (l : List UInt8) (hl : ls[k]? = some l) :
    Sees w w.heap.size 1 (tailA g (frames (ls.take k)).length (8 + l.length)) l.length (Lib.byteCells l) := by
  have h1 := frames_upto ls (k + 1)
  rw [frames_take ls k l hl, List.length_append, frame_length] at h1
  have s1 := (h.sees hn).sub (frames (ls.take k)).length ((frames (ls.take k)).length + (8 + l.length)) (by omega) h1
  rw [Nat.add_sub_cancel_left, frames_part ls k l hl, Nat.zero_add] at s1
  have s2 := s1.subq 8 (8 + l.length) (8 + l.length) (by omega) (Nat.le_refl _) (Nat.le_refl _)
  rw [Nat.add_sub_cancel_left, show (frame l).drop 8 = l by unfold frame; rfl, List.take_of_length_le (Nat.le_refl _)] at s2
  exact s2

/-- What Scan tells. -/
structure ScanAt (w w' : World) (ls : List (List UInt8)) (h g : Nat) (cs : Array Value) (v : Value) : Prop where
  new : w.heap.size ≤ h
  row : Whole w' h 52 cs
  size : cs.size = ls.length
  at_ : ∀ k l, ls[k]? = some l → cs[k]? = some (Value.slice (tailA g (frames (ls.take k)).length (8 + l.length)) l.length l.length)
  own : OwnB w' w.heap.size v (frames ls)
  form : 0 < ls.length → ∃ c, v = .slice (some ⟨g, 0, none⟩) (frames ls).length c
  apart : g ≠ h
  below : Below w.heap.size w w'
def Scans (w : World) (bs : List UInt8) (e : Ending) (w' : World) : Prop :=
  ∃ h g cs v, e = .returned (.tuple #[.slice (some ⟨h, 0, none⟩) (scan bs).1.length (scan bs).1.length, .int .i64 ((scan bs).2 : Nat)]) ∧ ScanAt w w' (scan bs).1 h g cs v

theorem ScanAt.sees {w w' : World} {ls : List (List UInt8)} {h g : Nat} {cs : Array Value} {v : Value} (s : ScanAt w w' ls h g cs v) (k : Nat) (l : List UInt8) (hl : ls[k]? = some l) :
    Sees w' w'.heap.size 1 (tailA g (frames (ls.take k)).length (8 + l.length)) l.length (Lib.byteCells l) := by
  obtain ⟨c, hv⟩ := s.form (by have := (List.getElem?_eq_some_iff.1 hl).1; omega)
  have := s.own
  rw [hv] at this
  exact load_sees this rfl k l hl
theorem ScanAt.shows {w w' : World} {ls : List (List UInt8)} {h g : Nat} {cs : Array Value} {v : Value} (s : ScanAt w w' ls h g cs v) (hl : (frames ls).length ≤ 9223372036854775807) : ShowsL w' w'.heap.size (some ⟨h, 0, none⟩) ls := by
  intro _
  refine ⟨h, 0, rfl, s.row.lt, fun k l hk => ⟨_, _, ?_, Nat.le_refl _, ?_, s.sees k l hk⟩⟩
  · rw [Nat.zero_add, s.row.cell k]; exact s.at_ k l hk
  · have h1 := frames_upto ls (k + 1)
    rw [frames_take ls k l hk, List.length_append, frame_length] at h1
    omega

set_option maxHeartbeats 1000000 in
theorem scan_any (B b0 off : Nat) (cap : Nat) (bs : List UInt8) (w : World) (hs : Sees w B 1 (some ⟨b0, off, none⟩) bs.length (Lib.byteCells bs)) (hb0 : b0 < B) (hB : B ≤ w.heap.size) (h1 : bs.length ≤ cap) (h2 : cap ≤ 9223372036854775807) (hl : bs.length ≤ 4194304) :
    Calls Try.prog 44 #[.slice (some ⟨b0, off, none⟩) bs.length cap] w (Scans w bs) := by
  have HS := Lib.hid hs
  clear hs
  obtain ⟨i0, hi, hz0, hz1, hz2⟩ := info_parts info_sl
  go_enter Try.func44, Try.ntmps44
  go_wp2_with fail
  go_loopw [4, 5] (fun v i wr => ∃ ls pos, i = .int .i64 ((pos : Nat) : Int) ∧ OwnI wr w.heap.size v (ends ls) ∧ Below w.heap.size w wr ∧ Parsed bs ls pos) (fun _ i _ => bs.length - (intOf i).toNat)
  case atStart => exact ⟨[], 0, rfl, World.ownsRow_nil _ _ _ _, Below.refl _ _, Parsed.none_ bs⟩
  case round =>
    obtain ⟨ls, pos, rfl, hown, hbel, hp⟩ := hrel
    have hle := hp.le
    have hmany := frames_many ls
    rw [← hp.len] at hmany
    have HO := Lib.hid hown
    have HB := Lib.hid hbel
    have HP := Lib.hid hp
    have HZ := hbel.size
    have hse := (HS.out.keep (w' := wr) fun p hp => hbel.cell (by omega)).subq pos bs.length cap hle (Nat.le_refl _) h1
    rw [List.take_of_length_le (by rw [List.length_drop]; omega)] at hse
    have HF := fsize_any B _ (cap - pos) (bs.drop pos) wr (by rw [List.length_drop]; exact hse) (by rw [List.length_drop]; omega) (by omega)
    rw [List.length_drop] at HF
    have hle2 : (pos : Int) ≤ (bs.length : Int) := by omega
    have hle3 : (pos : Int) ≤ (cap : Int) := by omega
    clear hown hbel hp hse
    by_cases h0 : (opened (bs.drop pos)).2.2 = 0
    · have hpos := opened_pos h0
      have HM := Lib.hid (HP.out.more h0)
      have HE := Lib.hid (ends_snoc ls (opened (bs.drop pos)).1)
      unfold Sized at HF
      rw [h0] at HF
      have hll : (opened (bs.drop pos)).2.1 ≤ bs.length - pos := by rw [List.length_drop] at hpos; exact hpos.2
      have hl8 := hpos.1
      rw [if_neg (show ¬ cap = pos by omega)] at HF
      replace HF := Lib.hid HF
      clear h0 hpos
      generalize (opened (bs.drop pos)).2.1 = N at *
      generalize (opened (bs.drop pos)).1 = L at *
      go_wp2_with fail
      refine HF.out.mono ?_
      rintro e w1 ⟨rfl, hb1⟩
      have HB1 := Lib.hid (HB.out.trans (hb1.mono HZ))
      have HZ1 := HB1.out.size
      have HO1 := Lib.hid (HO.out.keep hb1 (Nat.le_refl _))
      have hel := ends_length ls
      clear hb1
      go_wp2_with (at_builtin; refine wpList_appI rfl (.tmp 25) (.tmp 27) rfl w.heap.size _ (ends ls) rfl HO1.out (pos + N) _ (by omega) _ rfl rfl HZ1 (by omega) ?_)
      intro v' w' ho' hb'
      have HO2 : Hid (OwnI w' w.heap.size v' (ends (ls ++ [L]))) := Lib.hid (by
        have h := HM.out.len
        rw [HE.out, ← h]; exact ho')
      have HB2 := Lib.hid (HB1.out.trans hb')
      clear ho' hb'
      go_wp2_with fail
      go_roundw
      case rel => exact ⟨ls ++ [L], pos + N, by go_num, HO2.out, HB2.out, HM.out⟩
      case measure => simp [intOf]; omega
    · have HD := Lib.hid (HP.out.done h0)
      have hne : ((opened (bs.drop pos)).2.2 != 0) = true := by simpa using h0
      have hlen := HP.out.len
      have htk : bs.take pos = frames ls := by
        have h := HP.out.all
        have h' : bs.take pos = (frames ls ++ bs.drop pos).take pos := by rw [← h]
        rw [h', List.take_append_of_le_length (by omega), List.take_of_length_le (by omega)]
      have HLOW := Lib.hid HP.out.low
      have HMK := Lib.hid (fun w0 => run_make (P := Try.prog) w0 53 52 i0 (.slice none 0 0) Try.underlying53 hi hz0 .i64 .i64 (ls.length : Int) (ls.length : Int) (by omega) (by omega) (by rw [hz2]; omega) (by omega))
      clear h0
      unfold Sized at HF
      generalize (opened (bs.drop pos)).2.2 = E at *
      generalize (opened (bs.drop pos)).2.1 = N at *
      have HLEN := Lib.hid hlen
      clear hlen
      generalize hA : (if cap = pos then some (⟨b0, off, none⟩ : Addr) else some ⟨b0, off + pos, none⟩) = A1 at HF
      replace HF := Lib.hid HF
      have hel := ends_length ls
      go_wp2_with fail
      refine HF.out.mono ?_
      rintro e w1 ⟨rfl, hb1⟩
      have HB1 := Lib.hid (HB.out.trans (hb1.mono HZ))
      have HZ1 := HB1.out.size
      have HO1 := Lib.hid (HO.out.keep hb1 (Nat.le_refl _))
      clear hb1
      have hft : (bs.take pos).length = pos := by rw [List.length_take]; omega
      have HC := clone_any B (some ⟨b0, off, none⟩) cap (bs.take pos) w1 ((Sees.firstB HS.out hle).keep fun p hp => HB1.out.cell (by omega)) (by omega) (by omega) h2 (fun h => by cases h) (by omega)
      rw [hft] at HC
      replace HC := Lib.hid HC
      clear hft
      go_wp2_with fail
      refine HC.out.mono ?_
      rintro e w2 ⟨v2, rfl, ho2, hb2⟩
      rw [htk] at ho2
      have HO2 := Lib.hid ((ho2.less HZ1))
      have HOI := Lib.hid (HO1.out.keep hb2 (Nat.le_refl _))
      have HB2 := Lib.hid (HB1.out.trans (hb2.mono HZ1))
      have HZ2 := HB2.out.size
      obtain ⟨a2, c2, rfl, hc21, hc22, -⟩ := own_slice0 ho2
      obtain ⟨a3, c3, rfl, hc31, hc32, -⟩ := own_slice0 HOI.out
      rw [← HLEN.out] at hc21 HO2 ⊢
      have hmk := HMK.out w2
      simp only [Int.toNat_natCast, hz1, Nat.mul_one] at hmk
      have hsz0 := size_madeCells (Value.slice none 0 0).cells ls.length
      generalize madeCells (Value.slice none 0 0).cells ls.length = cs0 at *
      clear ho2 hb2 htk HC HF HMK
      go_wp2_with fail
      go_loopw [10, 38] (fun b i w4 => ∃ (k : Nat) (cs : Array Value), k ≤ ls.length ∧ i = .int .i64 (k : Int) ∧ b = .int .i64 (((frames (ls.take k)).length : Nat) : Int) ∧ Whole w4 w2.heap.size 52 cs ∧ cs.size = ls.length ∧
        (∀ j l, ls[j]? = some l → j < k → cs[j]? = some (Value.slice (tailA (match a2 with | some a => a.block | none => 0) (frames (ls.take j)).length (8 + l.length)) l.length l.length)) ∧ Below w2.heap.size w2 w4) (fun _ i _ => ls.length - (intOf i).toNat)
      case atStart => exact ⟨0, cs0, by omega, rfl, rfl, Whole.fresh w2 52 _, hsz0, (fun j l _ h => by omega), (Below.refl w2.heap.size w2).alloc (Nat.le_refl _) _⟩
      case round =>
        obtain ⟨k, cs, hk, rfl, rfl, hwh, hcs, hat, hb4⟩ := hrel
        have HWH := Lib.hid hwh
        have HAT := Lib.hid hat
        have HB4 := Lib.hid hb4
        by_cases hlt : k < ls.length
        · obtain ⟨l, hlk⟩ : ∃ l, ls[k]? = some l := ⟨_, List.getElem?_eq_getElem hlt⟩
          have hfu := frames_upto ls (k + 1)
          have hft := congrArg List.length (frames_take ls k l hlk)
          rw [List.length_append, frame_length] at hft
          have ho4 : OwnB wr w.heap.size (.slice a2 pos c2) (frames ls) := HO2.out.keep hb4 (Nat.le_refl _)
          obtain ⟨g, c2', hv, hg1, hg2, -, -⟩ := ho4.form (by omega)
          injection hv with hv1 hv2 hv3
          subst hv1
          subst hv3
          have hpc : pos ≤ c2 := hc21
          clear hv2
          have hse := Sees.own (OwnI.keep HOI.out hb4 (Nat.le_refl _))
          obtain ⟨b3, o3, rfl, hb3, hc3⟩ := hse.2 (by omega)
          have g0 := hc3 k _ (nats_at (ends ls) k _ (ends_at ls k hlt))
          have g1 := hwh.cell k
          have g2 := hwh.free k
          have hkc : k < cs.size := by omega
          rw [Array.getElem?_eq_getElem hkc] at g1
          have hkl : (k : Int) < (ls.length : Int) := by omega
          have hlow := HLOW.out l (List.mem_of_getElem? hlk)
          rw [hft] at g0
          have HLK := Lib.hid hlk
          have HFT := Lib.hid hft
          have hpl := HLEN.out
          clear hwh hat hb4 ho4 hc3 hse hlk
          generalize hp : (frames (ls.take k)).length = p at *
          generalize hn : 8 + l.length = n at *
          have hpn : p + n ≤ pos := by omega
          clear hfu hft hpl
          have HP' := Lib.hid hp
          have HN' := Lib.hid hn
          have hn8 : 8 ≤ n := by omega
          clear hp hn
          go_wp2_with fail
          refine (loadOf_any g p n (c2 - p) _ hn8 (by omega) (by omega)).mono ?_
          rintro e w5 ⟨rfl, rfl⟩
          go_wp2_with fail
          go_roundw
          case rel =>
            refine ⟨k + 1, _, by omega, by go_num, ?_, HWH.out.set k _, by rw [Array.size_setIfInBounds]; exact hcs, ?_, HB4.out.setCell (Nat.le_refl _) _⟩
            · rw [HFT.out, Int.natCast_add]
            · intro j l' hj hjk
              by_cases h : j = k
              · subst h
                have := HLK.out.symm.trans hj
                injection this with this
                subst this
                rw [Array.getElem?_setIfInBounds, if_pos rfl, if_pos hkc, HP'.out, HN'.out]
                have := HN'.out
                rw [show n - 8 = l.length by omega]
              · rw [Array.getElem?_setIfInBounds, if_neg (by omega)]
                exact HAT.out j l' hj (by omega)
          case measure => simp [intOf]; omega
        · obtain rfl : k = ls.length := by omega
          have hae : ∀ k l, ls[k]? = some l → cs[k]? = some (Value.slice (tailA (match a2 with | some a => a.block | none => 0) (frames (ls.take k)).length (8 + l.length)) l.length l.length) := fun j l hj => hat j l hj (List.getElem?_eq_some_iff.1 hj).1
          have ho4 : OwnB wr w.heap.size (.slice a2 pos c2) (frames ls) := HO2.out.keep hb4 (Nat.le_refl _)
          have HS4 : Hid (∃ h g cs v, h = w2.heap.size ∧ ScanAt w wr ls h g cs v) := by
            refine Lib.hid ?_
            by_cases h0 : 0 < ls.length
            · obtain ⟨g, c2', hv, hg1, hg2, -, -⟩ := ho4.form (by rw [← HLEN.out]; omega)
              injection hv with hv1 hv2 hv3
              subst hv1
              have hg3 : g < w2.heap.size := by
                obtain ⟨g', c3', hv', _, hg3, _, _⟩ := HO2.out.form (by rw [← HLEN.out]; omega)
                injection hv' with hv1 hv2 hv3
                injection hv1 with hv1
                injection hv1 with hv1
                omega
              exact ⟨_, g, cs, _, rfl, HZ2, hwh, hcs, hae, ho4, (fun _ => ⟨c2, by rw [HLEN.out]⟩), by omega, HB2.out.trans (hb4.mono HZ2)⟩
            · exact ⟨_, w2.heap.size + 1, cs, _, rfl, HZ2, hwh, hcs, (fun k l hk => by have := (List.getElem?_eq_some_iff.1 hk).1; omega), ho4, (fun h => absurd h h0), by omega, HB2.out.trans (hb4.mono HZ2)⟩
          clear hwh hat hb4 hae ho4
          go_wp2_with fail
          go_ret2
          unfold Scans
          rw [HD.out]
          obtain ⟨h, g, cs, v, rfl, hsc⟩ := HS4.out
          exact ⟨_, g, cs, v, rfl, hsc⟩
end Go.Proofs.Ytlfigbgcackimaa
