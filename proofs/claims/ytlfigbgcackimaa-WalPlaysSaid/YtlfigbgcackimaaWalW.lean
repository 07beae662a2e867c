/- Wals in memory: a wal's block; contracts of the program's calls at layer 8: met, allSure, settle, sealed. -/
import Derived.Test.YtlfigbgcackimaaFrC
import Derived.Test.YtlfigbgcackimaaWalM
import Derived.Deep.CutRange
import Derived.Deep.DeepCutAuto
namespace Go.Wl
set_option linter.unusedSimpArgs false
open Go.Dk Go.Fm
/-- A wal, as the program holds it. -/
structure Wv where
  all : Nat
  sure : Nat
  log : Int
  dead : Bool
def Wv.met (v : Wv) (e : Int) : Wv := if e = 71 then { v with dead := true } else v
/-- What each of its calls makes of a disk and a wal, and the error. -/
def Wv.append (v : Wv) (d : D) (b : List UInt8) : D × Wv × Int :=
  if v.dead then (d, v, 81) else if 65536 < b.length then (d, v, 30) else
    ((d.append v.log (frame b)).1, if (d.append v.log (frame b)).2 = 0 then { v with all := v.all + 1 } else v.met (d.append v.log (frame b)).2, (d.append v.log (frame b)).2)
def Wv.sync (v : Wv) (d : D) : D × Wv × Int :=
  if v.dead then (d, v, 81) else
    ((d.sync v.log).1, if (d.sync v.log).2 = 0 then { v with sure := v.all } else v.met (d.sync v.log).2, (d.sync v.log).2)
def Wv.fresh (v : Wv) (d : D) (ls : List (List UInt8)) : D × Wv × Int :=
  if v.dead then (d, v, 81) else if (∃ l ∈ ls, 65536 < l.length) then (d, v, 30) else
    ((d.swap v.log (frames ls)).1, if (d.swap v.log (frames ls)).2 = 0 then { v with all := ls.length, sure := ls.length } else v.met (d.swap v.log (frames ls)).2, (d.swap v.log (frames ls)).2)
/-- What stands in the place of the frames of loads that no log can hold. -/
theorem swap_big {d : D} {log : Int} {bs cs : List UInt8} (h : bs = cs ∨ (4194304 < bs.length ∧ 4194304 < cs.length)) : d.swap log bs = d.swap log cs := by
  rcases h with rfl | ⟨h1, h2⟩
  · rfl
  · unfold D.swap D.act
    split
    · rfl
    · simp [h1, h2]
end Go.Wl
namespace Go.Proofs.Ytlfigbgcackimaa
open Go.RowKit Go.Fm Go.Dk Go.Wl
set_option linter.unusedVariables false
set_option linter.unusedSimpArgs false
set_option maxRecDepth 100000

def wcells (g : Nat) (v : Wv) : Array Value := #[.int .i64 v.all, .int .i64 v.sure, ptr g, .int .i64 v.log, .bool v.dead]

theorem met_any (p g : Nat) (v : Wv) (E : Int) (w : World) (h : Whole w p 89 (wcells g v)) :
    Calls Try.prog 51 #[ptr p, .int .i64 E] w fun e w' => e = .returned (.int .i64 E) ∧ Whole w' p 89 (wcells g (v.met E)) ∧ Off (fun b => b = p) w w' := by
  have HS : Hid (Whole (w.setCell ⟨p, 4, none⟩ (.bool true)) p 89 (wcells g { v with dead := true })) := Lib.hid (h.set 4 (.bool true))
  have HH := Lib.hid h
  have HO : Hid (Off (fun b => b = p) w (w.setCell ⟨p, 4, none⟩ (.bool true))) := Lib.hid ((Off.refl (fun b => b = p) w).set (p := ⟨p, 4, none⟩) (.inl rfl) _)
  have c4 := h.cell 4
  have f4 := h.free 4
  simp only [wcells] at c4
  clear h
  by_cases hE : E = 71
  · subst hE
    go_enter Try.func51, Try.ntmps51
    go_wp2_with fail
    go_ret
    exact ⟨rfl, HS.out, HO.out⟩
  · have HM : Hid (v.met E = v) := Lib.hid (by unfold Wv.met; rw [if_neg hE])
    go_enter Try.func51, Try.ntmps51
    go_wp2_with fail
    go_ret
    rw [HM.out]
    exact ⟨rfl, HH.out, Off.refl _ _⟩

theorem allSure_any (n : Int) (w : World) :
    Calls Try.prog 46 #[.int .i64 n] w fun e w' => e = .returned (.agg #[.int .i64 n, .int .i64 n]) ∧ Below w.heap.size w w' := by
  go_enter Try.func46, Try.ntmps46
  go_wp2_with fail
  refine bodyPost_ret (by simp [results, Try.results46, go_sem]; try rfl) rfl ?_
  refine ⟨rfl, ?_⟩
  have hb := Below.refl w.heap.size w
  go_grown

/-- What settle makes. -/
def _root_.Go.Dk.D.settle (d : D) (log : Int) (b : List UInt8) (size : Nat) : D × Int := if size < b.length then d.swap log (b.take size) else if (d.of log).sure < size then d.sync log else (d, 0)
theorem settle_any (g : Nat) (d : D) (F : Nat → Prop) (log : Int) (hlog : W64 log) (A : Option Addr) (cap : Nat) (bs : List UInt8) (size : Nat) (hsz : size ≤ bs.length) (hacts : d.acts + 1 ≤ 9223372036854775807) (w : World) (x : Dsk w g d F) (hin : InB w A cap bs) :
    Calls Try.prog 45 #[ptr g, .int .i64 log, .slice A bs.length cap, .int .i64 size] w fun e w' => e = .returned (.int .i64 (d.settle log bs size).2) ∧ Moved F w w' g (d.settle log bs size).1 := by
  have hroom := hin.room
  have htop := hin.top
  have htl : (bs.take size).length = size := by rw [List.length_take]; omega
  have HI : Hid (InB w A cap (bs.take size)) := Lib.hid (by
    obtain ⟨B, hB, hs⟩ := hin.sees
    exact ⟨⟨B, hB, hs.firstB hsz⟩, by omega, htop, hin.nil⟩)
  by_cases h1 : size < bs.length
  · have HR : Hid (d.settle log bs size = d.swap log (bs.take size)) := Lib.hid (by unfold D.settle; rw [if_pos h1])
    have HSW := swap_any g d F log hlog A cap (bs.take size) hacts w x HI.out
    rw [htl] at HSW
    replace HSW := Lib.hid HSW
    have q1 : (size : Int) < bs.length := by omega
    have hA : A = none → cap = 0 := hin.nil
    clear htl hin x HI
    generalize bs.length = n at *
    cases A with
    | none => have := hA rfl; omega
    | some a =>
      go_enter Try.func45, Try.ntmps45
      go_wp2_with fail
      refine HSW.out.mono ?_
      rintro e w1 ⟨rfl, hm⟩
      have HM := Lib.hid hm
      clear hm
      go_wp2_with fail
      go_ret
      rw [HR.out]
      exact ⟨rfl, HM.out⟩
  · have q1 : ¬ (size : Int) < bs.length := by omega
    have HSU := Lib.hid (sure_any g d F log hlog w x)
    by_cases h2 : (d.of log).sure < size
    · have HR : Hid (d.settle log bs size = d.sync log) := Lib.hid (by unfold D.settle; rw [if_neg h1, if_pos h2])
      have HSY := Lib.hid (fun w0 (hb : Below w.heap.size w w0) => sync_any g d F log hlog hacts w0 (x.call hb))
      have q2 : ((d.of log).sure : Int) < size := by omega
      clear htl hin x HI
      generalize bs.length = n at *
      generalize (d.of log).sure = s at *
      go_enter Try.func45, Try.ntmps45
      go_wp2_with fail
      refine HSU.out.mono ?_
      rintro e w1 ⟨rfl, hb⟩
      have HB := Lib.hid hb
      have HY := Lib.hid (HSY.out w1 hb)
      clear hb HSY HSU
      go_wp2_with fail
      refine HY.out.mono ?_
      rintro e w2 ⟨rfl, hm⟩
      have HM := Lib.hid (hm.before HB.out)
      clear hm
      go_wp2_with fail
      go_ret
      rw [HR.out]
      exact ⟨rfl, HM.out⟩
    · have HR : Hid (d.settle log bs size = (d, 0)) := Lib.hid (by unfold D.settle; rw [if_neg h1, if_neg h2])
      have HX := Lib.hid x
      have q2 : ¬ ((d.of log).sure : Int) < size := by omega
      clear htl hin x HI
      generalize bs.length = n at *
      generalize (d.of log).sure = s at *
      go_enter Try.func45, Try.ntmps45
      go_wp2_with fail
      refine HSU.out.mono ?_
      rintro e w1 ⟨rfl, hb⟩
      have HB := Lib.hid hb
      clear hb HSU
      go_wp2_with fail
      go_ret
      rw [HR.out]
      exact ⟨rfl, .of HB.out F, F, fun b hb => .inl hb, HX.out.call HB.out⟩

theorem len_any (p g : Nat) (v : Wv) (w : World) (h : Whole w p 89 (wcells g v)) :
    Calls Try.prog 17 #[ptr p] w fun e w' => e = .returned (.int .i64 v.all) ∧ w' = w := by
  have c0 := h.cell 0
  simp only [wcells] at c0
  go_enter Try.func17, Try.ntmps17
  go_wp2_with fail
  go_ret
  exact ⟨rfl, rfl⟩
theorem wsure_any (p g : Nat) (v : Wv) (w : World) (h : Whole w p 89 (wcells g v)) :
    Calls Try.prog 18 #[ptr p] w fun e w' => e = .returned (.int .i64 v.sure) ∧ w' = w := by
  have c1 := h.cell 1
  simp only [wcells] at c1
  go_enter Try.func18, Try.ntmps18
  go_wp2_with fail
  go_ret
  exact ⟨rfl, rfl⟩

/-- The loads, of those that no log can hold enough. -/
def Enough (bs cs : List UInt8) : Prop := bs = cs ∨ (4194304 < bs.length ∧ 4194304 < cs.length)
set_option maxHeartbeats 1000000 in
theorem sealed_any (B : Nat) (A : Option Addr) (cap : Nat) (ls : List (List UInt8)) (w : World) (hs : ShowsL w B A ls) (hB : B ≤ w.heap.size) (hl : ls.length ≤ 9223372036854775807) (hn : ∀ (b off k : Nat) l a c, A = some ⟨b, off, none⟩ → ls[k]? = some l → w.cell? ⟨b, off + k, none⟩ = some (.slice a l.length c) → a = none → c = 0) :
    Calls Try.prog 55 #[.slice A ls.length cap] w fun e w' => Below w.heap.size w w' ∧
      ((∃ l ∈ ls, 65536 < l.length) → e = .returned (.tuple #[.slice none 0 0, .int .i64 30])) ∧
      ((¬ ∃ l ∈ ls, 65536 < l.length) → ∃ v bs, e = .returned (.tuple #[v, .int .i64 0]) ∧ OwnB w' w.heap.size v bs ∧ Enough bs (frames ls)) := by
  have HS := Lib.hid hs
  have HN := Lib.hid hn
  clear hs hn
  go_enter Try.func55, Try.ntmps55
  go_wp2_with fail
  go_loopw [4, 11] (fun u i wr => ∃ (k : Nat) (bs : List UInt8) (a0 : Option Addr) (c0 : Nat), k ≤ ls.length ∧ i = .int .i64 (k : Int) ∧ u = .slice a0 bs.length c0 ∧ bs.length ≤ c0 ∧ c0 ≤ 9223372036854775807 ∧ OwnB wr w.heap.size (.slice a0 bs.length c0) bs ∧ Enough bs (frames (ls.take k)) ∧ bs.length ≤ 4259848 ∧ (∀ l ∈ ls.take k, l.length ≤ 65536) ∧ Below w.heap.size w wr) (fun _ i _ => ls.length - (intOf i).toNat)
  case atStart => exact ⟨0, [], none, 0, by omega, rfl, rfl, by simp, by omega, OwnB.none_ _ _, .inl (by simp [frames]), by simp, (fun l hl => by simp at hl), Below.refl _ _⟩
  case round =>
    obtain ⟨k, bs, a0, c0, hk, rfl, rfl, hc01, hc02, ho, hen, hbl, hlow, hb⟩ := hrel
    have HO := Lib.hid ho
    have HE := Lib.hid hen
    have HLOW := Lib.hid hlow
    have HB' := Lib.hid hb
    clear hen hlow
    by_cases hlt : k < ls.length
    · obtain ⟨l, hl1⟩ : ∃ l, ls[k]? = some l := ⟨_, List.getElem?_eq_getElem hlt⟩
      have HLK := Lib.hid hl1
      obtain ⟨b, off, rfl, hbB, hat⟩ := (HS.out.below (hb.mono hB)) (by omega)
      obtain ⟨a, c, e1, e2, e3, e4⟩ := hat k l hl1
      have hac : a = none → c = 0 := fun ha => HN.out b off k l a c rfl hl1 (by rw [← e1]; exact (hb.cell (p := ⟨b, off + k, none⟩) (Nat.lt_of_lt_of_le hbB hB)).symm) ha
      have hkl : (k : Int) < (ls.length : Int) := by omega
      by_cases hlo : 65536 < l.length
      · have HF : Hid (∃ l ∈ ls, 65536 < l.length) := Lib.hid ⟨l, List.mem_of_getElem? hl1, hlo⟩
        have HSL := Lib.hid (seal_long a c l.length wr hlo)
        clear hat e4 hb ho hl1
        go_wp2_with fail
        refine HSL.out.mono ?_
        rintro e w1 ⟨rfl, rfl⟩
        go_wp2_with fail
        go_ret2
        exact ⟨HB'.out, fun _ => rfl, fun h => absurd HF.out h⟩
      · have HSL := Lib.hid (seal_any B a c l wr e4 (Nat.le_trans hB hb.size) e2 e3 hac (by omega))
        unfold Seals at HSL
        have hsz := hb.size
        have HFR : Hid (frames (ls.take (k + 1)) = frames (ls.take k) ++ frame l) := Lib.hid (frames_take ls k l hl1)
        have HLO : Hid (∀ x ∈ ls.take (k + 1), x.length ≤ 65536) := Lib.hid (by
          rw [List.take_add_one, hl1]
          intro x hx
          rcases List.mem_append.1 hx with hx | hx
          · exact HLOW.out x hx
          · have : x = l := by simpa using hx
            subst this; omega)
        have hfl : (frame l).length ≤ 65544 := by rw [frame_length]; omega
        have hfl2 : 8 ≤ (frame l).length := by rw [frame_length]; omega
        clear hat e4 hb ho hl1
        go_wp2_with fail
        refine HSL.out.mono ?_
        rintro e w1 ⟨v1, rfl, ho1, hb1⟩
        have HO1 := Lib.hid ho1
        have HB1 := Lib.hid (HB'.out.trans (hb1.mono hsz))
        have HO' : Hid (OwnB w1 w.heap.size (.slice a0 bs.length c0) bs) := Lib.hid (HO.out.keep hb1 (Nat.le_refl _))
        have hz1 := HB1.out.size
        obtain ⟨a1, c1, rfl, hc11, hc12, hc13⟩ := own_slice0 ho1
        have HSE := Lib.hid (ho1.sees rfl)
        clear ho1 hb1
        by_cases h4 : bs.length ≤ 4194304
        · have h4i : (bs.length : Int) ≤ 4194304 := by omega
          go_wp2_with (at_builtin; refine wpList_appG rfl (.tmp 26) (.tmp 27) 52 5 _ 1 1 rfl info_byte Try.underlying52 rfl (by decide) w.heap.size _ bs.length (Lib.byteCells bs) rfl HO'.out _ a1 (frame l).length c1 (Lib.byteCells (frame l)) rfl HSE.out hc13 (byte_one _) (by omega) (by omega) hz1 ?_)
          intro v2 w2 ho2 hg2
          have HO2 : Hid (OwnB w2 w.heap.size v2 (bs ++ frame l)) := Lib.hid (by
            unfold OwnB
            rw [List.length_append, show Lib.byteCells (bs ++ frame l) = Lib.byteCells bs ++ Lib.byteCells (frame l) by unfold Lib.byteCells; rw [List.map_append]]
            exact ho2)
          have HB2 : Hid (Below w.heap.size w w2) := Lib.hid (HB1.out.trans (OwnB.below HO'.out hg2 hz1))
          obtain ⟨a3, c3, rfl, hc31, hc32, -⟩ := own_slice0 ho2
          clear ho2 hg2
          have hll : bs.length + (frame l).length = (bs ++ frame l).length := by rw [List.length_append]
          go_wp2_with fail
          go_roundw
          case rel =>
            rw [hll] at hc31 HO2 ⊢
            refine ⟨k + 1, bs ++ frame l, a3, c3, by omega, by go_num, rfl, hc31, hc32, HO2.out, ?_, by rw [List.length_append]; omega, HLO.out, HB2.out⟩
            rw [HFR.out]
            rcases HE.out with h | ⟨h, h'⟩
            · rw [h]; exact .inl rfl
            · omega
          case measure => simp [intOf]; omega
        · have h4i : ¬ (bs.length : Int) ≤ 4194304 := by omega
          go_wp2_with fail
          go_roundw
          case rel =>
            refine ⟨k + 1, bs, a0, c0, by omega, by go_num, rfl, hc01, hc02, HO'.out, .inr ⟨by omega, ?_⟩, hbl, HLO.out, HB1.out⟩
            rw [HFR.out, List.length_append]
            rcases HE.out with h | ⟨h, h'⟩
            · rw [← h]; omega
            · omega
          case measure => simp [intOf]; omega
    · obtain rfl : k = ls.length := by omega
      rw [List.take_length] at HE HLOW
      have HF : Hid (¬ ∃ l ∈ ls, 65536 < l.length) := Lib.hid (fun ⟨l, h, h'⟩ => by have := HLOW.out l h; omega)
      clear hb ho
      go_wp2_with fail
      go_ret2
      exact ⟨HB'.out, fun h => absurd h HF.out, fun _ => ⟨_, bs, rfl, HO.out, HE.out⟩⟩
end Go.Proofs.Ytlfigbgcackimaa
