/- Contracts of Scan of nothing, loads, sealed. -/
import Derived.Test.YthpmpbipdgianaaFrameC
namespace Go.Proofs.Ythpmpbipdgianaa
open Go.RowKit Go.Fm
set_option linter.unusedVariables false
set_option linter.unusedSimpArgs false

theorem scan_nil_any (w : World) :
    Calls Try.prog 19 #[.slice none 0 0] w (Scans w []) := by
  obtain ⟨i0, hi, hz0, hz1, hz2⟩ := info_parts info_sl
  have HF := Lib.hid (fsize_any 0 none 0 [] w (Sees.nothing _ _ _ _) (by simp) (by omega))
  unfold Sized at HF
  rw [opened_short (show ([] : List UInt8).length < 8 by simp)] at HF
  have HMK := Lib.hid (fun w0 => run_make (P := Try.prog) w0 39 22 i0 (.slice none 0 0) Try.underlying39 hi hz0 .i64 .i64 0 0 (by omega) (by omega) (by rw [hz2]; omega) (by omega))
  go_enter Try.func19, Try.ntmps19
  go_wp2_with fail
  go_loopw [4, 5] (fun v i wr => i = .int .i64 0 ∧ v = .slice none 0 0 ∧ wr = w) (fun _ i _ => 0)
  case atStart => exact ⟨rfl, rfl, rfl⟩
  case round =>
    obtain ⟨rfl, rfl, rfl⟩ := hrel
    go_wp2_with fail
    refine HF.out.mono ?_
    rintro e w1 ⟨rfl, hb1⟩
    have HB1 := Lib.hid hb1
    clear hb1
    go_wp2_with fail
    refine (clone_any 0 none 0 [] w1 (Sees.nothing _ _ _ _) (by omega) (by simp) (by omega) (fun _ => rfl) (by simp)).mono ?_
    rintro e w2 ⟨v2, rfl, ho2, hb2⟩
    have HB2 := Lib.hid (HB1.out.trans (hb2.mono HB1.out.size))
    have HO2 := Lib.hid (ho2.less HB1.out.size)
    have hmk := HMK.out w2
    simp only [Int.toNat_zero, Nat.zero_mul] at hmk
    have hsz0 := size_madeCells (Value.slice none 0 0).cells 0
    generalize madeCells (Value.slice none 0 0).cells 0 = cs0 at *
    clear ho2 hb2 HF HMK
    go_wp2_with fail
    go_loopw [10, 38] (fun b i w4 => i = .int .i64 0 ∧ w4 = w2.alloc (.cells cs0 22)) (fun _ i _ => 0)
    case atStart => exact ⟨rfl, rfl⟩
    case round =>
      obtain ⟨rfl, rfl⟩ := hrel
      go_wp2_with fail
      go_ret2
      refine ⟨w2.heap.size, w2.heap.size + 1, cs0, v2, ?_, ?_⟩
      · rw [scan_nil]; rfl
      · rw [scan_nil]
        exact ⟨HB2.out.size, Whole.fresh w2 _ _, hsz0, (fun k l hk => by simp at hk), HO2.out.keep ((Below.refl w2.heap.size w2).alloc (Nat.le_refl _) _) (Nat.le_refl _), (fun h => by simp at h), by omega, HB2.out.alloc HB2.out.size _⟩

/-- Scan of whatever bytes the call owns, or shows. -/
theorem scan_all (B : Nat) (A : Option Addr) (cap : Nat) (bs : List UInt8) (w : World) (hs : Sees w B 1 A bs.length (Lib.byteCells bs)) (hA : (A = none ∧ cap = 0) ∨ ∃ b0 off, A = some ⟨b0, off, none⟩ ∧ b0 < B) (hB : B ≤ w.heap.size) (h1 : bs.length ≤ cap) (h2 : cap ≤ 9223372036854775807) (hl : bs.length ≤ 1000000) :
    Calls Try.prog 19 #[.slice A bs.length cap] w (Scans w bs) := by
  rcases hA with ⟨rfl, rfl⟩ | ⟨b0, off, rfl, hb⟩
  · obtain rfl : bs = [] := List.eq_nil_of_length_eq_zero (by omega)
    exact scan_nil_any w
  · exact scan_any B b0 off cap bs w hs hb hB h1 h2 hl

/-- The texts, cut. -/
def shorts (ls : List (List UInt8)) : List (List UInt8) := ls.map (·.take 300)
theorem shorts_length (ls : List (List UInt8)) : (shorts ls).length = ls.length := by simp [shorts]

theorem loads_any (B : Nat) (A : Option Addr) (cap : Nat) (ls : List (List UInt8)) (w : World) (hs : Sees w B 1 A ls.length (strs ls)) (hB : B ≤ w.heap.size) (hc : ls.length ≤ 9223372036854775807) (hlen : ∀ l ∈ ls, l.length ≤ 9223372036854775807) :
    Calls Try.prog 22 #[.slice A ls.length cap] w fun e w' => ∃ v, e = .returned v ∧ OwnS w' w.heap.size v (shorts (ls.take 12)) ∧ Below w.heap.size w w' := by
  have HS := Lib.hid hs
  have HL := Lib.hid hlen
  clear hs hlen
  go_enter Try.func22, Try.ntmps22
  go_wp2_with fail
  go_loopw [3, 4] (fun v i wr => ∃ k : Nat, k ≤ ls.length ∧ k ≤ 12 ∧ i = .int .i64 (k : Int) ∧ OwnS wr w.heap.size v (shorts (ls.take k)) ∧ Below w.heap.size w wr) (fun _ i _ => 12 - (intOf i).toNat)
  case atStart => exact ⟨0, by omega, by omega, rfl, own_empty w 9 1, (Below.refl w.heap.size w).alloc (Nat.le_refl _) _⟩
  case round =>
    obtain ⟨k, hk, hk12, rfl, hown, hbel⟩ := hrel
    have HO := Lib.hid hown
    have HB := Lib.hid hbel
    have HZ := hbel.size
    clear hown
    by_cases hlt : k < ls.length
    · by_cases h12 : k < 12
      · obtain ⟨l, hl⟩ : ∃ l, ls[k]? = some l := ⟨_, List.getElem?_eq_getElem hlt⟩
        obtain ⟨b0, off, rfl, hb, hcell⟩ := (HS.out.below (hbel.mono hB)).2 (by omega)
        have g0 := hcell k _ (strs_at ls k l hl)
        have HT : Hid (shorts (ls.take (k + 1)) = shorts (ls.take k) ++ [l.take 300]) := Lib.hid (by
          unfold shorts
          have hl' := List.getElem?_eq_some_iff.1 hl
          rw [List.take_succ_eq_append_getElem hl'.1, hl'.2, List.map_append]; rfl)
        have hll := HL.out l (List.mem_of_getElem? hl)
        have hml : (shorts (ls.take k)).length = k := by rw [shorts_length, List.length_take]; omega
        clear hcell hl hbel
        have HBY := Lib.hid (bytes_any l 300 wr hll (by omega))
        go_wp2_with fail
        refine HBY.out.mono ?_
        rintro e w1 ⟨g, c, rfl, hc1, hc2, hsee, hb1, -⟩
        have hcv := fun w0 h => conv_bytes (l.take 300) (some ⟨g, 0, none⟩) c w1.heap.size w0 h
        have hcv1 := hcv w1 hsee
        have HB1 := Lib.hid (HB.out.trans (hb1.mono HZ))
        have HZ1 := HB1.out.size
        have HO1 := Lib.hid (HO.out.keep hb1 (Nat.le_refl _))
        generalize l.take 300 = l' at *
        clear hb1 hcv hsee
        go_wp2_with (at_builtin; refine wpList_appS rfl (.tmp 16) (.tmp 23) rfl w.heap.size _ (shorts (ls.take k)) rfl HO1.out l' _ rfl rfl HZ1 (by rw [hml]; omega) ?_)
        intro v' w' ho' hb'
        have HO2 := Lib.hid ho'
        have HB2 := Lib.hid (HB1.out.trans hb')
        clear ho' hb'
        go_wp2_with fail
        go_roundw
        case rel => exact ⟨k + 1, by omega, by omega, by go_num, by rw [HT.out]; exact HO2.out, HB2.out⟩
        case measure => simp [intOf]; omega
      · obtain rfl : k = 12 := by omega
        go_wp2_with fail
        go_ret
        exact ⟨_, rfl, HO.out, HB.out⟩
    · have HT : Hid (shorts (ls.take 12) = shorts (ls.take k)) := Lib.hid (by rw [List.take_of_length_le (by omega), List.take_of_length_le (by omega)])
      go_wp2_with fail
      all_goals
        go_ret
        exact ⟨_, rfl, by rw [HT.out]; exact HO.out, HB.out⟩

/-- What sealed gives. -/
theorem sealed_any (B : Nat) (A : Option Addr) (cap : Nat) (ls : List (List UInt8)) (w : World) (hs : Sees w B 1 A ls.length (strs ls)) (hB : B ≤ w.heap.size) (hc : ls.length ≤ 1000) (hlow : ∀ l ∈ ls, l.length ≤ 300) :
    Calls Try.prog 23 #[.slice A ls.length cap] w fun e w' => ∃ v, e = .returned (.tuple #[v, .bool true]) ∧ OwnB w' w.heap.size v (frames ls) ∧ Below w.heap.size w w' := by
  have HS := Lib.hid hs
  have HL := Lib.hid hlow
  clear hs hlow
  go_enter Try.func23, Try.ntmps23
  go_wp2_with fail
  go_loopw [4, 5] (fun v i wr => ∃ k : Nat, k ≤ ls.length ∧ i = .int .i64 (k : Int) ∧ OwnB wr w.heap.size v (frames (ls.take k)) ∧ (frames (ls.take k)).length ≤ k * 308 ∧ Below w.heap.size w wr) (fun _ i _ => ls.length - (intOf i).toNat)
  case atStart => exact ⟨0, by omega, rfl, own_empty w 5 1, by simp [frames], (Below.refl w.heap.size w).alloc (Nat.le_refl _) _⟩
  case round =>
    obtain ⟨k, hk, rfl, hown, hfl, hbel⟩ := hrel
    have HO := Lib.hid hown
    have HB := Lib.hid hbel
    have HZ := hbel.size
    clear hown
    by_cases hlt : k < ls.length
    · obtain ⟨l, hl⟩ : ∃ l, ls[k]? = some l := ⟨_, List.getElem?_eq_getElem hlt⟩
      obtain ⟨b0, off, rfl, hb, hcell⟩ := (HS.out.below (hbel.mono hB)).2 (by omega)
      have g0 := hcell k _ (strs_at ls k l hl)
      have HT := Lib.hid (frames_take ls k l hl)
      have hll := HL.out l (List.mem_of_getElem? hl)
      obtain ⟨c, W1, hrun, hc1, hc2, hsee, hbel1, hz⟩ := text_run l wr
      have hc3 := hc2 (by omega)
      have HSE := Lib.hid (seal_any _ (some ⟨wr.heap.size, 0, none⟩) c l W1 hsee hz hc1 hc3 (fun h => by cases h) (by omega))
      have HO0 := Lib.hid (HO.out.keep hbel1 (Nat.le_refl _))
      have HB0 := Lib.hid (HB.out.trans (hbel1.mono HZ))
      have HZ0 := HB0.out.size
      clear hcell hl hbel hc2 hsee hbel1
      go_wp2_with fail
      refine HSE.out.mono ?_
      rintro e w1 ⟨v1, rfl, ho1, hb1⟩
      have HO1 := Lib.hid (HO0.out.keep hb1 (Nat.le_refl _))
      have HB1 := Lib.hid (HB0.out.trans (hb1.mono HZ0))
      have HZ1 := HB1.out.size
      obtain ⟨a1, c1, rfl, hd1, hd2, hd3⟩ := own_slice0 ho1
      have HX := Lib.hid (ho1.sees rfl)
      have hfr := frame_length l
      have hfb : (frame l).length ≤ 308 := by omega
      clear hfr
      generalize frame l = fr at *
      clear hb1 ho1
      go_wp2_with (at_builtin; refine wpList_appG rfl (.tmp 26) (.tmp 27) _ 5 _ 1 1 rfl info_byte Try.underlying22 rfl (by decide) w.heap.size _ (frames (ls.take k)).length (Lib.byteCells (frames (ls.take k))) rfl HO1.out _ a1 fr.length c1 (Lib.byteCells fr) rfl HX.out hd3 (byte_one _) (by omega) (by omega) HZ1 ?_)
      intro v' w' ho' hg'
      have HO2 : Hid (OwnB w' w.heap.size v' (frames (ls.take k) ++ fr)) := Lib.hid (by
        unfold OwnB
        rw [Lib.byteCells_append, List.length_append]; exact ho')
      have HB2 := Lib.hid (HB1.out.grown hg' HZ1 fun k hk => (HO1.out.lt k hk).1)
      clear ho' hg'
      go_wp2_with fail
      go_roundw
      case rel => exact ⟨k + 1, by omega, by go_num, by rw [HT.out]; exact HO2.out, by rw [HT.out, List.length_append]; omega, HB2.out⟩
      case measure => simp [intOf]; omega
    · obtain rfl : k = ls.length := by omega
      rw [List.take_length] at HO
      go_wp2_with fail
      go_ret2
      exact ⟨_, rfl, HO.out, HB.out⟩
end Go.Proofs.Ythpmpbipdgianaa
