/- Vaults: contracts: Held: the parts that are held, by rising IDs. -/
import Derived.Test.YtckhddndeojobaaGreatLokS
import Derived.Test.YtckhddndeojobaaGreatVltG
namespace Go.Vt
open Go.Cn Go.So Go.Lk
set_option linter.unusedVariables false
/-- The part of an ID, if it is held. -/
def byId (v : Vt) : Int → Option Hv := fun id => if (fateOf v id).is = 1 then v.held (fateOf v id).acc else none
def hvBy (v : Vt) (id : Int) : Hv := (byId v id).getD default
def idAt (v : Vt) (a : Int) : Int := (heldAt v a).p.id
section
variable {v : Vt} {m : Nat}
theorem byId_of (h : Good v m) {a : Int} {g : Hv} (hh : v.held a = some g) : byId v g.p.id = some g := by
  have := (h.held a g hh).id
  unfold byId fateOf
  rw [this]
  exact hh
theorem byId_inv (h : Good v m) {id : Int} {g : Hv} (hh : byId v id = some g) : v.held g.p.acc = some g ∧ g.p.id = id ∧ fateOf v id = ⟨1, g.t, g.p.acc⟩ := by
  unfold byId at hh
  split at hh
  · rename_i hi
    have hs := fate_some (v := v) (id := id) (by rw [hi]; decide)
    obtain ⟨k1, k2, k3⟩ := h.heldBy hi
    rw [hh] at k1
    injection k1 with k1
    rw [← k1] at k2 k3
    have ha := (h.held _ g hh).acc
    refine ⟨by rw [ha]; exact hh, k2, ?_⟩
    generalize fateOf v id = f at *
    obtain ⟨f1, f2, f3⟩ := f
    simp only at hi k3 ha ⊢
    rw [hi, k3, ha]
  · cases hh
theorem byId_fin (h : Good v m) : Fin1 (byId v) := h.ffin.less fun x hx => by
  unfold byId at hx
  split at hx
  · rename_i hi
    rw [fate_some (v := v) (id := x) (by rw [hi]; decide)]
    rfl
  · cases hx
theorem hvBy_of (h : Good v m) {a : Int} {g : Hv} (hh : v.held a = some g) : hvBy v g.p.id = g := by unfold hvBy; rw [byId_of h hh]; rfl
theorem heldAt_of {a : Int} {g : Hv} (hh : v.held a = some g) : heldAt v a = g := by unfold heldAt; rw [hh]; rfl
theorem idAt_of {a : Int} {g : Hv} (hh : v.held a = some g) : idAt v a = g.p.id := by unfold idAt; rw [heldAt_of hh]
theorem ids_nodup (h : Good v m) {L : List Int} (hn : L.Nodup) (hs : ∀ a ∈ L, (v.held a).isSome = true) : (L.map (idAt v)).Nodup := by
  refine List.pairwise_map.2 (hn.imp_of_mem fun {a b} ha hb hne e => hne ?_)
  obtain ⟨g, hg⟩ := Option.isSome_iff_exists.1 (hs a ha)
  obtain ⟨q, hq⟩ := Option.isSome_iff_exists.1 (hs b hb)
  rw [idAt_of hg, idAt_of hq] at e
  have e1 := byId_of h hg
  rw [e, byId_of h hq] at e1
  injection e1 with e1
  subst e1
  rw [← (h.held a q hg).acc, ← (h.held b q hq).acc]
theorem ids_mem (h : Good v m) {L : List Int} (hm : ∀ a, a ∈ L ↔ (v.held a).isSome = true) (id : Int) : id ∈ L.map (idAt v) ↔ (byId v id).isSome = true := by
  rw [List.mem_map]
  constructor
  · rintro ⟨a, ha, rfl⟩
    obtain ⟨g, hg⟩ := Option.isSome_iff_exists.1 ((hm a).1 ha)
    rw [idAt_of hg, byId_of h hg]
    rfl
  · intro hi
    obtain ⟨g, hg⟩ := Option.isSome_iff_exists.1 hi
    obtain ⟨h1, h2, -⟩ := byId_inv h hg
    exact ⟨g.p.acc, (hm _).2 (by rw [h1]; rfl), by rw [idAt_of h1, h2]⟩
theorem ids_len (h : Good v m) : (supp (byId v)).length ≤ (supp v.fates).length := supp_less h.ffin (byId_fin h) fun x hx => by
  unfold byId at hx
  split at hx
  · rename_i hi
    rw [fate_some (v := v) (id := x) (by rw [hi]; decide)]
    rfl
  · cases hx
end
end Go.Vt
namespace Go.Proofs.YtckhddndeojobaaGreat
open Go.Shelf Go.Sort Go.RowKit Go.Cn Go.So Go.Vt
open Go.Lk (upd supp Fin1 upd_same upd_other)
set_option linter.unusedVariables false
set_option linter.unusedSimpArgs false
set_option maxRecDepth 100000
/-- The cells of the part of an ID. -/
def encI (v : Vt) (k : Int) : List Value := [.int .i64 k, .int .i64 (hvBy v k).p.acc, .int .i64 (hvBy v k).p.n, .bool (hvBy v k).p.pays, .int .i64 (hvBy v k).t, .int .i64 (hvBy v k).fee]
theorem encI_len (v : Vt) (k : Int) : (encI v k).length = 6 := rfl
theorem encI_one (v : Vt) (k : Int) : ∀ u ∈ encI v k, u.oneCell' = true := by
  intro u hu
  simp only [encI, List.mem_cons, List.not_mem_nil, or_false] at hu
  rcases hu with rfl | rfl | rfl | rfl | rfl | rfl <;> rfl
theorem flat_encI_one (v : Vt) (l : List Int) : ∀ u ∈ flat (encI v) l, u.oneCell' = true := by
  intro u hu
  unfold flat at hu
  obtain ⟨a, _, hu⟩ := List.mem_flatMap.1 hu
  exact encI_one v a u hu
theorem closureV_any (x a b t f : Int) (p : Bool) (y a' b' t' f' : Int) (p' : Bool) (w : World) :
    Calls Tryz.prog 31 #[.agg #[.int .i64 x, .int .i64 a, .int .i64 b, .bool p, .int .i64 t, .int .i64 f], .agg #[.int .i64 y, .int .i64 a', .int .i64 b', .bool p', .int .i64 t', .int .i64 f']] w fun e w' => e = .returned (.int .i64 (cmpI x y)) ∧ ∃ q os', w' = grow (w.drewN q) os' := by
  have HC := Lib.hid (fun w0 => compare_any x y w0)
  generalize cmpI x y = r at *
  go_enter Tryz.func31, Tryz.ntmps31
  go_wp2_with fail
  refine (HC.out _).mono ?_
  rintro e w1 ⟨rfl, e1⟩
  subst w1
  go_wp2_with fail
  go_ret
  exact ⟨rfl, 0, _, by rw [alloc_eq_grow, alloc_eq_grow, grow_grow]; rfl⟩
theorem sortV_own (v : Vt) (B g n cap : Nat) (l : List Int) (w : World) (hn : l.length = n) (h : w.ownsRow B 54 6 (.slice (some ⟨g, 0, none⟩) n cap) n (flat (encI v) l)) (hl : n ≤ 1000000000) :
    Calls Tryz.prog 30 #[.slice (some ⟨g, 0, none⟩) n cap, .func (.func 31) #[] #[]] w fun e w' => e = .returned (.tuple #[]) ∧
      w'.ownsRow B 54 6 (.slice (some ⟨g, 0, none⟩) n cap) n (flat (encI v) (l.mergeSort fun x y => decide (x ≤ y))) ∧ w.grownBy w' (some g) := by
  subst hn
  have eg : ∀ args w, (callFunc 31 args).run Tryz.prog w = .ok (.enter 31 args) w := enters_of Tryz.func31 (by kernel_rfl) rfl
  have hg : g < w.heap.size := by
    rcases h.2 with ⟨h0, _⟩ | ⟨g', cap', cur, hv, hb, hg, -⟩
    · simp at h0
    · simp only [Value.slice.injEq, Option.some.injEq, Addr.mk.injEq, and_true, true_and] at hv
      obtain ⟨rfl, rfl⟩ := hv
      exact (Array.getElem?_eq_some_iff.1 hg).1
  have hH : HoldsK (encI v) 6 w g 0 l.toArray := by
    unfold HoldsK
    rw [flatK_flat (encI_len v)]
    intro j hj
    have hj' : j < (flat (encI v) l).length := by simpa using hj
    have hlen := flat_length (encI_len v) l
    refine ⟨?_, ?_⟩
    · rw [Nat.zero_add, h.cellAt j (by omega), List.getElem?_eq_getElem hj']
      simp [hj']
    · rcases h.2 with ⟨h0, _⟩ | ⟨g', cap', cur, hv, hb, hg2, -⟩
      · simp at h0
      · simp only [Value.slice.injEq, Option.some.injEq, Addr.mk.injEq, and_true, true_and] at hv
        obtain ⟨rfl, rfl⟩ := hv
        simp [World.frozen?, hg2]
  have hcon := AnyQ.slices_SortFunc_total shfF 6 Tryz.isAgg54 Tryz.sizeOf54 (encI v) (encI_len v) (encI_one v) cmpI swo_cmp 31 #[] g 0 cap l.toArray w eg (fun _ _ _ _ x y => closureV_any x _ _ _ _ _ y _ _ _ _ _ _) hH hg (by simpa using (by omega : l.length < 4611686018427387904)) total_cmp
  have e1 : (fun x y => !(ltOf cmpI) y x) = fun (x y : Int) => decide (x ≤ y) := by
    funext x y
    rw [ltOf_cmp]
    by_cases hxy : x ≤ y
    · simp [hxy]
    · simp [hxy]; omega
  rw [e1] at hcon
  refine Calls.mono hcon ?_
  rintro e w' ⟨rfl, m, os, rfl⟩
  refine ⟨rfl, ?_, ?_⟩
  · unfold sortWorldK putRowK
    rw [flatK_flat (encI_len v)]
    have := own_put (enc := id) (m := m) (os := os) h (flat (encI v) (l.mergeSort fun x y => decide (x ≤ y))) (by rw [flat_length (encI_len v), flat_length (encI_len v), List.length_mergeSort])
    rwa [List.map_id] at this
  · unfold sortWorldK putRowK
    exact grown_put _
theorem sortV_none (p : Option Addr) (cap : Nat) (fv : Value) (w : World) : Calls Tryz.prog 30 #[.slice p 0 cap, fv] w fun e w' => e = .returned (.tuple #[]) ∧ w' = w := AnyF.slices_SortFunc_none shfF p cap fv w
theorem info_held : (Tryz.prog.info? 54).map (fun i => (i.zero, i.size, i.bytes)) = some (some (hvE default), 6, 48) := by kernel_rfl
theorem sees_held (v : Vt) (w : World) (g : Nat) (hg : g = w.heap.size) (h : Hv) (hh : hvBy v h.p.id = h) :
    Sees (w.alloc (.cells #[.int .i64 h.p.id, .int .i64 h.p.acc, .int .i64 h.p.n, .bool h.p.pays, .int .i64 h.t, .int .i64 h.fee] 54)) (g + 1) 6 (some ⟨g, 0, none⟩) 1 (flat (encI v) [h.p.id]) := by
  subst hg
  refine ⟨rfl, fun _ => ⟨w.heap.size, 0, rfl, by omega, fun j u hu => ?_⟩⟩
  rw [Nat.zero_add, (Whole.fresh w _ _).cell j, ← Array.getElem?_toList]
  unfold flat encI at hu
  simp only [List.flatMap_cons, List.flatMap_nil, List.append_nil, hh] at hu
  exact hu
end Go.Proofs.YtckhddndeojobaaGreat
