/- Vaults: the contract of Held. -/
import Derived.Test.YtckhddndeojobaaGreatVltS
namespace Go.Proofs.YtckhddndeojobaaGreat
open Go.Sort Go.RowKit Go.Cn Go.So Go.Vt
open Go.Lk (upd supp Fin1 upd_same upd_other)
set_option linter.unusedVariables false
set_option linter.unusedSimpArgs false
set_option maxRecDepth 100000
theorem not_mineV {wr : World} {B n size : Nat} {e : TypeId} {v : Value} {xs : List Value} {b : Nat} (h : wr.ownsRow B e size v n xs) (hb : ∀ t cs, wr.heap[b]? ≠ some (.cells cs t (0, 0))) : some b ≠ v.ownBlock := by
  intro e2
  rcases h.2 with ⟨rfl, _⟩ | ⟨g, cap, cur, rfl, _, hh, _⟩
  · simp [Value.ownBlock] at e2
  · have : b = g := by simpa [Value.ownBlock] using e2
    subst this
    exact hb _ _ hh
theorem off_of_grownV {a b : World} {row : Option Nat} (h : a.grownBy b row) : Off (fun x => row = some x) a b := ⟨h.os, h.tape, h.output, h.size, fun i hi hn => h.block i hi fun e => hn e.symm⟩
theorem RoV.off_row {α : Type} {enc : α → Value} {w w' : World} {mo : Option Nat} {r cnt : Nat} {f : Int → Option α} {L : List Int} {B n size : Nat} {e : TypeId} {v : Value} {xs : List Value}
    (h : Ro enc w mo r f L cnt) (ho : w.ownsRow B e size v n xs) (hg : w.grownBy w' v.ownBlock) : Ro enc w' mo r f L cnt := by
  refine h.off (off_of_grownV hg) (fun mb hm hb => ?_) fun hb => ?_
  · have hne := not_mineV (b := mb) ho fun t cs hc => by
      rcases h with ⟨h1, -⟩ | ⟨mb', h1, h2⟩
      · rw [h1] at hm; cases hm
      · rw [h1] at hm
        injection hm with hm
        subst hm
        exact h2.mv.notCells hc rfl
    exact hne hb.symm
  · have hne := not_mineV (b := r) ho fun t cs hc => h.notCells hc rfl
    exact hne hb.symm
theorem ranges_nextV {α : Type} {enc : α → Value} {w w' : World} {mo : Option Nat} {r cnt : Nat} {f : Int → Option α} {L : List Int} {B n size : Nat} {e : TypeId} {v : Value} {xs : List Value}
    (h : Ro enc w mo r f L cnt) (ho : w.ownsRow B e size v n xs) (hof : Off (fun b => b = r) w w') : w'.ownsRow B e size v n xs :=
  ho.kept (row := some r) ⟨hof.os, hof.tape, hof.output, hof.size, fun i hi hne => hof.block i hi fun e => hne (by rw [e])⟩ (Or.inr (not_mineV ho fun t cs hc => h.notCells hc rfl).symm)
set_option maxHeartbeats 4000000 in
theorem vheld_any {w : World} {g sg hb fb : Nat} {v : Vt} {Fs F : Nat → Prop} {m : Nat} (hg : Vt.Good v m) (hn : (supp v.held).length ≤ 1000000) (x : Vx w g sg hb fb v Fs F) :
    Calls Tryz.prog 15 #[ptr g] w fun e w' => ∃ A cap, e = .returned (.slice A (supp (byId v)).length cap) ∧ Below w.heap.size w w' ∧ w'.ownsRow w.heap.size 54 6 (.slice A (supp (byId v)).length cap) (supp (byId v)).length (flat (encI v) (supp (byId v))) := by
  have HM : Hid (Mo hvE w (some hb) v.held) := Lib.hid (.inr ⟨hb, rfl, x.held⟩)
  have HG := Lib.hid hg
  have HN := Lib.hid hn
  obtain ⟨c0, c1, c2, c3, c4, c5, cf, cz⟩ := x.cells
  clear x hn
  go_enter Tryz.func15, Tryz.ntmps15
  go_wp2_with (first
    | (at_range; refine wpList_range_mo _ rfl _ 31 rfl 54 Tryz.underlying31 rfl HM.out ?_; intro w0 hrg0 hb0 hs0)
    | go_in)
  go_frame
  go_loopw [3] (fun val wr => ∃ (cnt : Nat) (L : List Int), Ro hvE wr (some hb) w.heap.size v.held L cnt ∧ wr.ownsRow w.heap.size 54 6 val (L.map (idAt v)).length (flat (encI v) (L.map (idAt v))) ∧ Below w.heap.size w wr)
    (fun _ wr => leftO (some hb) w.heap.size wr)
  case atStart => exact ⟨_, [], hrg0, World.ownsRow_nil _ _ _ _, hb0⟩
  case round =>
    obtain ⟨cnt, L, hrg, hrow, hbw⟩ := hrel
    have hll : (L.map (idAt v)).length ≤ 1000000 := by
      rw [List.length_map]
      exact Nat.le_trans (Go.Lk.len_sub hrg.sub.1 fun y hy => (Go.Lk.supp_mem HG.out.hfin y).2 (hrg.sub.2 y hy)) HN.out
    have HB := Lib.hid hbw
    have HO := Lib.hid hrow
    have HR := Lib.hid hrg
    have HLL := Lib.hid hll
    have hrgm := Lib.hid hrg.measure
    clear hrg hrow hbw hrg0 hb0 hs0 hg c0 c1 c2 c3 c4 c5 cf cz
    go_wp2_with (first
      | (at_next; refine wpList_next_mo _ hvE_inj rfl _ rfl w.heap.size cnt L rfl HR.out ?_ ?_)
      | go_in)
    · intro hc0 hnd hmem
      obtain ⟨A, cp, rfl, r1, r2, r3⟩ := own_slice0 HO.out
      have hsort : ((L.map (idAt v)).mergeSort fun x y => decide (x ≤ y)) = supp (byId v) := sort_supp (ids_nodup HG.out hnd fun a ha => (hmem a).1 ha) fun k => ids_mem HG.out hmem k
      have hlen : (L.map (idAt v)).length = (supp (byId v)).length := by rw [← hsort]; simp
      have HSO := Lib.hid hsort
      clear hsort hmem hnd HR hll
      generalize L.map (idAt v) = R at *
      rcases A with _ | ⟨gk, off, sp⟩
      · have hl0 : R.length = 0 := by have := r3 rfl; omega
        have hs0 : (supp (byId v)).length = 0 := by omega
        have HSN := Lib.hid (List.eq_nil_of_length_eq_zero hs0)
        rw [hl0, r3 rfl]
        clear hs0
        have HNo := Lib.hid (sortV_none none 0 (.func (.func 31) #[] #[]))
        clear hlen
        go_wp2_with fail
        refine (HNo.out wr).mono ?_
        rintro e w2 ⟨rfl, e2⟩
        subst w2
        go_wp2_with fail
        go_ret
        refine ⟨none, 0, by rw [HSN.out]; rfl, HB.out, ?_⟩
        rw [HSN.out]
        exact World.ownsRow_nil _ _ _ _
      · have hat : off = 0 ∧ sp = none := by
          rcases HO.out.2 with ⟨h, _⟩ | ⟨g', c', cur, h, _⟩
          · simp at h
          · simp only [Value.slice.injEq, Option.some.injEq, Addr.mk.injEq] at h
            exact ⟨h.1.2.1, h.1.2.2⟩
        obtain ⟨rfl, rfl⟩ := hat
        have HCA := Lib.hid (sortV_own v w.heap.size gk R.length cp R wr rfl HO.out (by have := HLL.out; omega))
        have HLOW := Lib.hid (fun k (hk : some gk = some k) => (HO.out.lt k (by rw [show (Value.slice (some ⟨gk, 0, none⟩) R.length cp).ownBlock = some gk from rfl]; exact hk)).1)
        rw [HSO.out] at HCA
        clear HO HLL
        generalize R.length = n at *
        subst hlen
        go_wp2_with fail
        refine HCA.out.mono ?_
        rintro e w2 ⟨rfl, ho, hg2⟩
        have HOO := Lib.hid ho
        have HBB := Lib.hid (HB.out.grown hg2 HB.out.size fun k hk => HLOW.out k hk)
        clear ho hg2
        go_wp2_with fail
        go_ret
        exact ⟨_, _, rfl, HBB.out, HOO.out⟩
    · intro a h w2 cnt2 hfx hx hx64 hrg2 hlt hof hsz hen
      have HID := Lib.hid (idAt_of hfx)
      have HBY := Lib.hid (hvBy_of HG.out hfx)
      have hrow2 := ranges_nextV HR.out HO.out hof
      have hb2 : Below w.heap.size w w2 := HB.out.trans (hof.below HB.out.size fun k hk => by omega)
      have HSE := Lib.hid (sees_held v (w2.alloc (.cells #[.int .i64 h.p.id, .int .i64 h.p.acc, .int .i64 h.p.n, .bool h.p.pays, .int .i64 h.t, .int .i64 h.fee] 54)) (w2.heap.size + 1) (by simp) h HBY.out)
      obtain ⟨⟨g1, g2, g3, g4⟩, g5, g6⟩ := h
      dsimp only at *
      have HO3 := Lib.hid ((hrow2.alloc (.cells #[.int .i64 g1, .int .i64 g2, .int .i64 g3, .bool g4, .int .i64 g5, .int .i64 g6] 54)).alloc (.cells #[.int .i64 g1, .int .i64 g2, .int .i64 g3, .bool g4, .int .i64 g5, .int .i64 g6] 54))
      have HB3 := Lib.hid ((hb2.alloc (hb2.size) (.cells #[.int .i64 g1, .int .i64 g2, .int .i64 g3, .bool g4, .int .i64 g5, .int .i64 g6] 54)).alloc (by have := hb2.size; simp; omega) (.cells #[.int .i64 g1, .int .i64 g2, .int .i64 g3, .bool g4, .int .i64 g5, .int .i64 g6] 54))
      have HR3 := Lib.hid ((hrg2.call ((Below.refl _ _).alloc (Nat.le_refl _) (.cells #[.int .i64 g1, .int .i64 g2, .int .i64 g3, .bool g4, .int .i64 g5, .int .i64 g6] 54))).call ((Below.refl _ _).alloc (Nat.le_refl _) (.cells #[.int .i64 g1, .int .i64 g2, .int .i64 g3, .bool g4, .int .i64 g5, .int .i64 g6] 54)))
      have hsz2 := hb2.size
      have HLT := Lib.hid hlt
      have hmap : Hid ((L ++ [a]).map (idAt v) = L.map (idAt v) ++ [g1]) := Lib.hid (by rw [List.map_append, List.map_cons, List.map_nil, HID.out])
      clear hfx hof hsz hrow2 hb2 HO hrg2 hx hlt HID HBY
      go_wp2_with (at_builtin; refine wpList_appG rfl (.tmp 15) (.tmp 17) _ 54 _ 6 48 rfl info_held Tryz.underlying49 rfl (by decide) w.heap.size _ (L.map (idAt v)).length (flat (encI v) (L.map (idAt v))) rfl HO3.out _ _ 1 1 (flat (encI v) [g1]) rfl HSE.out (fun h => by cases h) (flat_encI_one _ _) (by omega) (by omega) (by simp; omega) ?_)
      intro v1 y1 ho1 hg1
      have HR4 := Lib.hid (RoV.off_row HR3.out HO3.out hg1)
      have HB4 := Lib.hid (HB3.out.grown hg1 (by simp; omega) fun k hk => ((HO3.out.lt k hk).1))
      have HO4 := Lib.hid (show y1.ownsRow w.heap.size 54 6 v1 ((L ++ [a]).map (idAt v)).length (flat (encI v) ((L ++ [a]).map (idAt v))) by rw [hmap.out, List.length_append, flat_append, List.length_map]; exact ho1)
      clear ho1 hg1 HO3 HB3 HR3 HSE HR
      go_wp2_with fail
      go_roundw
      case rel => exact ⟨cnt2, L ++ [a], HR4.out, HO4.out, HB4.out⟩
      case measure => rw [HR4.out.measure, hrgm.out]; exact HLT.out
end Go.Proofs.YtckhddndeojobaaGreat
