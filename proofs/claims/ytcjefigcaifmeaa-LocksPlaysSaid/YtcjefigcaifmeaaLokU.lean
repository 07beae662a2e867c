/- Contracts at layer 13: free. -/
import Derived.Test.YtcjefigcaifmeaaLokT
namespace Go.Proofs.Ytcjefigcaifmeaa
open Go.RowKit Go.Lk
set_option linter.unusedVariables false
set_option linter.unusedSimpArgs false
set_option maxRecDepth 100000

section
variable {w w' : World} {s : Tb} {loc : Nm → Nat} {K : Int → Prop}
theorem Tm.seth (T : Tm w s loc) {k : Int} (hr : s.row k = true) {f : Lk.Fn} (hm : Mh w' (loc (.h k)) f) (ho : Off (fun b => b = loc (.h k)) w w') : Tm w' { s with h := upd s.h k f } loc := by
  refine T.one (.h k) hr ho (fun n => by cases n <;> rfl) (fun n hn hl h => ?_) ?_
  · cases n with
    | h j =>
      show Mh w (loc (.h j)) (upd s.h k f j)
      rw [upd_other _ (fun e => hn (by rw [e]))]
      exact h
    | _ => exact h
  · show Mh w' (loc (.h k)) (upd s.h k f k)
    rw [upd_same]
    exact hm
theorem Tm.setw (T : Tm w s loc) {k : Int} (hr : s.row k = true) {f : Lk.Fn} (hm : Mh w' (loc (.w k)) f) (ho : Off (fun b => b = loc (.w k)) w w') : Tm w' { s with w := upd s.w k f } loc := by
  refine T.one (.w k) hr ho (fun n => by cases n <;> rfl) (fun n hn hl h => ?_) ?_
  · cases n with
    | w j =>
      show Mh w (loc (.w j)) (upd s.w k f j)
      rw [upd_other _ (fun e => hn (by rw [e]))]
      exact h
    | _ => exact h
  · show Mh w' (loc (.w k)) (upd s.w k f k)
    rw [upd_same]
    exact hm
theorem Tm.setks (T : Tm w s loc) {x : Int} (hx : s.inn x = true) {f : Int → Bool} (hm : Mv uE w' (loc (.ks x)) (uF f)) (ho : Off (fun b => b = loc (.ks x)) w w') : Tm w' { s with ks := upd s.ks x f } loc := by
  refine T.one (.ks x) hx ho (fun n => by cases n <;> rfl) (fun n hn hl h => ?_) ?_
  · cases n with
    | ks y =>
      show Mv uE w (loc (.ks y)) (ksF { s with ks := upd s.ks x f } y)
      have : ksF { s with ks := upd s.ks x f } y = ksF s y := by
        show uF (upd s.ks x f y) = uF (s.ks y)
        rw [upd_other _ (fun e => hn (by rw [e]))]
      rw [this]
      exact h
    | _ => exact h
  · show Mv uE w' (loc (.ks x)) (ksF { s with ks := upd s.ks x f } x)
    have : ksF { s with ks := upd s.ks x f } x = uF f := by
      show uF (upd s.ks x f x) = uF f
      rw [upd_same]
    rw [this]
    exact hm
theorem Tm.setwt (T : Tm w s loc) {x : Int} (hx : s.inn x = true) (a : Bool) : Tm (w.setCell ⟨loc (.p x), 1, none⟩ (.bool a)) { s with waits := upd s.waits x a } loc := by
  refine T.one (.p x) hx ((Off.refl (fun b => b = loc (.p x)) w).set (p := ⟨loc (.p x), 1, none⟩) (.inl rfl) _) (fun n => by cases n <;> rfl) (fun n hn hl h => ?_) ?_
  · cases n with
    | p y =>
      show Whole w (loc (.p y)) 69 #[.map (some (loc (.ks y))), .bool (upd s.waits x a y), .bool (s.dead y)]
      rw [upd_other _ (fun e => hn (by rw [e]))]
      exact h
    | _ => exact h
  · have h : Whole w (loc (.p x)) 69 #[.map (some (loc (.ks x))), .bool (s.waits x), .bool (s.dead x)] := T.has (.p x) hx
    show Whole _ (loc (.p x)) 69 #[.map (some (loc (.ks x))), .bool (upd s.waits x a x), .bool (s.dead x)]
    rw [upd_same]
    exact h.set 1 (.bool a)
theorem Tm.setdd (T : Tm w s loc) {x : Int} (hx : s.inn x = true) (a : Bool) : Tm (w.setCell ⟨loc (.p x), 2, none⟩ (.bool a)) { s with dead := upd s.dead x a } loc := by
  refine T.one (.p x) hx ((Off.refl (fun b => b = loc (.p x)) w).set (p := ⟨loc (.p x), 2, none⟩) (.inl rfl) _) (fun n => by cases n <;> rfl) (fun n hn hl h => ?_) ?_
  · cases n with
    | p y =>
      show Whole w (loc (.p y)) 69 #[.map (some (loc (.ks y))), .bool (s.waits y), .bool (upd s.dead x a y)]
      rw [upd_other _ (fun e => hn (by rw [e]))]
      exact h
    | _ => exact h
  · have h : Whole w (loc (.p x)) 69 #[.map (some (loc (.ks x))), .bool (s.waits x), .bool (s.dead x)] := T.has (.p x) hx
    show Whole _ (loc (.p x)) 69 #[.map (some (loc (.ks x))), .bool (s.waits x), .bool (upd s.dead x a x)]
    rw [upd_same]
    exact h.set 2 (.bool a)
end

/-! ### What a transaction has is dropped, key by key -/
def dropK (x : Int) (s : Tb) (k : Int) : Tb := { s with h := upd s.h k (upd (s.h k) x none), w := upd s.w k (upd (s.w k) x none) }
def drp (s : Tb) (x : Int) (L : List Int) : Tb := L.foldl (dropK x) s
theorem drp_snoc (s : Tb) (x : Int) (L : List Int) (k : Int) : drp s x (L ++ [k]) = dropK x (drp s x L) k := by unfold drp; rw [List.foldl_append]; rfl
theorem drp_same (x : Int) : ∀ (L : List Int) (s : Tb), (drp s x L).row = s.row ∧ (drp s x L).inn = s.inn ∧ (drp s x L).ks = s.ks ∧ (drp s x L).waits = s.waits ∧ (drp s x L).dead = s.dead
  | [], s => ⟨rfl, rfl, rfl, rfl, rfl⟩
  | k :: L, s => drp_same x L (dropK x s k)
theorem drp_other (x : Int) {y : Int} (h : y ≠ x) : ∀ (L : List Int) (s : Tb) (k : Int), (drp s x L).h k y = s.h k y ∧ (drp s x L).w k y = s.w k y
  | [], s, k => ⟨rfl, rfl⟩
  | j :: L, s, k => by
    obtain ⟨h1, h2⟩ := drp_other x h L (dropK x s j) k
    have e1 : (dropK x s j).h k y = s.h k y := by
      show upd s.h j _ k y = _
      by_cases e : k = j
      · subst e; rw [upd_same, upd_other _ h]
      · rw [upd_other _ e]
    have e2 : (dropK x s j).w k y = s.w k y := by
      show upd s.w j _ k y = _
      by_cases e : k = j
      · subst e; rw [upd_same, upd_other _ h]
      · rw [upd_other _ e]
    exact ⟨h1.trans e1, h2.trans e2⟩
theorem drp_none (x : Int) : ∀ (L : List Int) (s : Tb) (k : Int), (k ∈ L ∨ (s.h k x = none ∧ s.w k x = none)) → (drp s x L).h k x = none ∧ (drp s x L).w k x = none
  | [], s, k, h => by
    rcases h with h | h
    · cases h
    · exact h
  | j :: L, s, k, h => by
    refine drp_none x L (dropK x s j) k ?_
    by_cases e : k = j
    · refine .inr ⟨?_, ?_⟩
      · show upd s.h j _ k x = none
        rw [e, upd_same, upd_same]
      · show upd s.w j _ k x = none
        rw [e, upd_same, upd_same]
    · rcases h with h | h
      · exact .inl ((List.mem_cons.1 h).resolve_left e)
      · refine .inr ⟨?_, ?_⟩
        · show upd s.h j _ k x = none
          rw [upd_other _ e]; exact h.1
        · show upd s.w j _ k x = none
          rw [upd_other _ e]; exact h.2
theorem drp_free {s : Tb} {K : Int → Prop} (m : Mid s K) (x : Int) {L : List Int} (hL : ∀ k, k ∈ L ↔ s.ks x k = true) : { { drp s x L with ks := upd (drp s x L).ks x fun _ => false } with waits := upd (drp s x L).waits x false } = freeS s x := by
  obtain ⟨e1, e2, e3, e4, e5⟩ := drp_same x L s
  have key : ∀ k, (drp s x L).h k x = none ∧ (drp s x L).w k x = none := fun k => drp_none x L s k (by
    by_cases h : s.ks x k = true
    · exact .inl ((hL k).2 h)
    · exact .inr ⟨none_of fun h2 => h (m.hks h2), none_of fun h2 => h (m.wks h2)⟩)
  have eh : (drp s x L).h = fun k y => if y = x then none else s.h k y := by
    funext k y
    by_cases e : y = x
    · rw [if_pos e, e]; exact (key k).1
    · rw [if_neg e]; exact (drp_other x e L s k).1
  have ew : (drp s x L).w = fun k y => if y = x then none else s.w k y := by
    funext k y
    by_cases e : y = x
    · rw [if_pos e, e]; exact (key k).2
    · rw [if_neg e]; exact (drp_other x e L s k).2
  unfold freeS
  clear key
  generalize drp s x L = d at *
  obtain ⟨h, w, row, inn, ks, waits, dead⟩ := d
  simp only at *
  subst eh ew e1 e2 e3 e4 e5
  rfl
theorem foot_drp {s : Tb} {loc : Nm → Nat} (x : Int) (L : List Int) : Foot (drp s x L) loc = Foot s loc := by
  obtain ⟨e1, e2, e3, e4, e5⟩ := drp_same x L s
  have : live (drp s x L) = live s := by
    funext n
    cases n <;> simp [live, e1, e2]
  unfold Foot
  rw [this]
theorem off_more {F G : Nat → Prop} {a b : World} (h : Off F a b) (hG : ∀ i, F i → G i) : Off G a b := ⟨h.os, h.tape, h.output, h.size, fun i hi hn => h.block i hi fun hf => hn (hG i hf)⟩
theorem own_foot {w : World} {s : Tb} {loc : Nm → Nat} {B n size : Nat} {e : TypeId} {v : Value} {xs : List Value} (ho : w.ownsRow B e size v n xs) (hB : ∀ b, Foot s loc b → b < B) (b : Nat) (hb : v.ownBlock = some b) : ¬ Foot s loc b := fun h => by
  have := hB b h
  have := (ho.lt b hb).1
  omega
set_option maxHeartbeats 8000000 in
theorem lfree_any {s : Tb} {loc : Nm → Nat} {K : Int → Prop} (x : Int) (hx : s.inn x = true) (w : World) (T : Tm w s loc) (m : Mid s K) :
    Calls Try.prog 20 #[ptr (loc .face), .int .i64 x] w fun e w' => ∃ A cap L, e = .returned (.slice A (L : List Int).length cap) ∧ L.Nodup ∧ (∀ k, k ∈ L ↔ s.ks x k = true) ∧ Off (Foot s loc) w w' ∧ Tm w' (freeS s x) loc ∧
      w'.ownsRow w.heap.size 3 1 (.slice A L.length cap) L.length (L.map (Value.int .i64)) ∧ A ≠ none := by
  obtain ⟨i0, hi, hz0, hz1, hz2⟩ := info_parts info_num
  obtain ⟨c0, c1, cz⟩ := T.face
  have hx64 : W64 x := by have := m.inn64 x hx; unfold W64; omega
  have hl := (T.pars hx64).2
  rw [parF_in hx] at hl
  obtain ⟨p0, p1, p2, -, -, pz⟩ := T.pcells hx
  have HT := Lib.hid T
  have HMI := Lib.hid m
  have hmk : Mo uE w (some (loc (.ks x))) (ksF s x) := .inr ⟨_, rfl, (T.party hx).2⟩
  have HMK := Lib.hid hmk
  have hkin : ∀ k, (ksF s x k).isSome = s.ks x k := fun k => by unfold ksF uF; split <;> simp_all
  have HKI := Lib.hid hkin
  have hkl : (supp (ksF s x)).length ≤ 8192 := by
    have := len_sub (supp_rises hmk.fin).nodup (m := (List.range 8192).map fun (n : Nat) => (n : Int)) fun k hk => by
      have h1 := (supp_mem hmk.fin k).1 hk
      rw [hkin] at h1
      have := (isK_iff k).1 (m.ksx x k h1).2.1
      exact List.mem_map.2 ⟨k.toNat, List.mem_range.2 (by omega), by omega⟩
    simpa using this
  clear T m hmk hkin
  have hlow : ∀ b, Foot s loc b → b < w.heap.size := fun b hb => HT.out.low hb
  have HLOW := Lib.hid hlow
  have hpin : ∀ a, live s a = true → Foot s loc (loc a) := fun a ha => ⟨a, ha, rfl⟩
  have HPIN := Lib.hid hpin
  clear hlow hpin
  go_enter Try.func20, Try.ntmps20
  go_wp2_with (first
    | (at_len; refine wpList_len_mo _ rfl _ 67 rfl 88 Try.underlying67 rfl HMK.out ?_)
    | (at_make; refine wpList_make_own _ rfl _ _ 26 rfl w.heap.size 3 i0 (.int .i64 0) 1 Try.underlying26 hi hz0 hz1 _ _ _ (supp (ksF s x)).length rfl rfl rfl (by rw [hz2]; omega) (by unfold maxLen; omega) (Nat.le_refl _) ?_; intro w1 hrow1 hg1
       have hb1 : Below w.heap.size w w1 := (Below.refl _ _).grown hg1 (Nat.le_refl _) (fun j hj => by cases hj)
       obtain ⟨q0, q1, q2, -, -, qz⟩ := (HT.out.call hb1).pcells hx)
    | (at_range; refine wpList_range_mo _ rfl _ 67 rfl 88 Try.underlying67 rfl (HMK.out.call hb1) ?_; intro w0 hrg0 hb0 hs0)
    | go_in)
  clear hs0
  try go_frame
  have HB1 := Lib.hid hb1
  have HT1 := Lib.hid ((HT.out.call hb1).call hb0)
  have HR1 := Lib.hid (own_keep hrow1 hb0 (Nat.le_refl _))
  have HW01 := Lib.hid (hb1.trans (hb0.mono hb1.size))
  clear c0 c1 cz hl p0 p1 p2 pz q0 q1 q2 qz hi hz0 hz1 hz2 hb1 hg1 hrow1
  go_loopw [6] (fun v wr => ∃ (cnt : Nat) (L : List Int), Ro uE wr (some (loc (.ks x))) w1.heap.size (ksF s x) L cnt ∧ wr.ownsRow w.heap.size 3 1 v L.length (L.map (Value.int .i64)) ∧ (∀ n c, v ≠ .slice none n c) ∧ Tm wr (drp s x L) loc ∧ Off (Foot s loc) w wr ∧ w1.heap.size < wr.heap.size)
    (fun _ wr => leftO (some (loc (.ks x))) w1.heap.size wr)
  case atStart => exact ⟨_, [], hrg0, HR1.out, (fun n c h => by cases h), HT1.out, .of HW01.out _, hrg0.lt⟩
  case round =>
    obtain ⟨cnt, L, hrg, hrow, hnn, hT, hof, hr1⟩ := hrel
    have hdr := drp_same x L s
    have HR := Lib.hid hrg
    have HO := Lib.hid hrow
    have HNN := Lib.hid hnn
    have HTT := Lib.hid hT
    have HOF := Lib.hid hof
    have HDR := Lib.hid hdr
    have hw1l := HB1.out.size
    have hLL := len_le HMK.out.fin hrg.sub.1 hrg.sub.2
    clear hrg hrow hnn hT hof hdr hrg0 hb0 HT1 HR1 HW01
    go_wp2_with (first
      | (at_next; refine wpList_next_mo _ uE_inj rfl _ rfl w1.heap.size cnt L rfl HR.out ?_ ?_)
      | go_in)
    · intro hc0 hnd hmem
      have HMEM : Hid (L.Nodup ∧ ∀ k, k ∈ L ↔ s.ks x k = true) := Lib.hid ⟨hnd, fun k => by rw [hmem k, HKI.out]⟩
      have hi2 : (drp s x L).inn x = true := by rw [HDR.out.2.1]; exact hx
      have HI2 := Lib.hid hi2
      obtain ⟨p0, p1, p2, -, -, pz⟩ := HTT.out.pcells hi2
      have hmk2 := (HTT.out.party hi2).2
      clear hmem hnd hi2 hc0
      obtain ⟨A, cp, rfl, r1, r2, r3⟩ := own_slice0 HO.out
      obtain ⟨w4, hr4, hm4, hg4, -⟩ := hmk2.clear Try.underlying67 0
      have ho4 : Off (fun b => b = loc (.ks x)) wr w4 := .grown (Off.refl _ wr) hg4 fun g hg => by injection hg with hg; exact .inl hg.symm
      clear hg4
      have HT4 : Hid (Tm w4 { drp s x L with ks := upd (drp s x L).ks x fun _ => false } loc) := Lib.hid (HTT.out.setks HI2.out (hm4.congr fun k => by unfold uF; simp) ho4)
      obtain ⟨q0, q1, q2, q3, q4, qz⟩ := HT4.out.pcells (x := x) HI2.out
      have HT5 := Lib.hid (HT4.out.setwt (x := x) HI2.out false)
      have HO4 := Lib.hid ho4
      clear hm4 ho4 hmk2
      go_wp2_with fail
      go_ret
      refine ⟨A, cp, L, rfl, HMEM.out.1, HMEM.out.2, ?_, ?_, ?_, fun e => HNN.out _ _ (by rw [e])⟩
      · refine (HOF.out.trans (off_more HO4.out fun b hb => by subst hb; exact HPIN.out (.ks x) hx)).set (p := ⟨loc (.p x), 1, none⟩) (.inl (HPIN.out (.p x) hx)) _
      · rw [← drp_free HMI.out x HMEM.out.2]
        exact HT5.out
      · have o4 := own_off HO.out HO4.out fun b hb e => by
          subst e
          exact own_foot HO.out HLOW.out _ hb (HPIN.out (.ks x) hx)
        exact own_off o4 ((Off.refl (fun b => b = loc (.p x)) w4).set (p := ⟨loc (.p x), 1, none⟩) (.inl rfl) (.bool false)) fun b hb e => by
          subst e
          exact own_foot HO.out HLOW.out _ hb (HPIN.out (.p x) hx)
    · intro k cu w2 cnt2 hfx hnx hk64 hrg2 hlt hof hsz hen
      clear hsz
      have hks : s.ks x k = true := by rw [← HKI.out, hfx]; rfl
      obtain ⟨-, -, hhw⟩ := HMI.out.ksx x k hks
      have hrow : s.row k = true := by
        rcases hhw with h | h
        · obtain ⟨c, hc⟩ := some_of h; exact (HMI.out.hin k x c hc).2
        · obtain ⟨c, hc⟩ := some_of h; exact (HMI.out.win k x c hc).2
      have hrd : (drp s x L).row k = true := by rw [HDR.out.1]; exact hrow
      have hrn : ¬ Foot s loc w1.heap.size := fun h => by have := HLOW.out _ h; omega
      have hT2 : Tm w2 (drp s x L) loc := HTT.out.off hof fun b hb e => by subst e; rw [foot_drp] at hb; exact hrn hb
      have HOF2 : Hid (Off (Foot s loc) w w2) := Lib.hid ⟨hof.os.trans HOF.out.os, hof.tape.trans HOF.out.tape, hof.output.trans HOF.out.output, Nat.le_trans HOF.out.size hof.size, fun i hi hn => (hof.block i (Nat.lt_of_lt_of_le hi HOF.out.size) (fun e => by omega)).trans (HOF.out.block i hi hn)⟩
      have HRD := Lib.hid hrd
      have HR2 := Lib.hid hrg2
      have HO2 := Lib.hid (own_off HO.out hof fun b hb e => HR.out.row_ne HO.out b hb e)
      have HT2 := Lib.hid hT2
      have hne1 : loc (.ks x) ≠ loc (.h k) := fun e => by have := HT.out.inj (.ks x) (.h k) hx hrow e; cases this
      have hne2 : loc (.ks x) ≠ loc (.w k) := fun e => by have := HT.out.inj (.ks x) (.w k) hx hrow e; cases this
      have hpl : ∀ b, Foot s loc b → b ≠ w1.heap.size := fun b hb e => hrn (e ▸ hb)
      have HPL := Lib.hid hpl
      obtain ⟨c0, c1, cz⟩ := hT2.face
      have hl := (hT2.rows hk64).2
      rw [rowV_in hrd] at hl
      have f0 := (run_field_row (some (loc (.h k))) (some (loc (.w k))) w2).1
      have hs2 := hof.size
      have hmh : Mh w2 (loc (.h k)) ((drp s x L).h k) := hT2.has (.h k) hrd
      have HFH := Lib.hid hrow
      clear hof hrg2 hT2 hks hhw hrow hrd hpl hfx
      go_wp2_with (at_delete; refine wpList_delete_mv _ rfl _ _ 61 rfl 60 Try.underlying61 (loc (.h k)) _ rfl hmh x rfl hx64 ?_)
      intro w3 hm3 ho3 hs3
      clear hs3
      rw [hF_del] at hm3
      have hT3 := HT2.out.seth HRD.out hm3 ho3
      have HT3 := Lib.hid hT3
      have HR3 := Lib.hid (HR2.out.off ho3 (fun mb hmb e => by injection hmb with hmb; exact hne1 (hmb.trans e)) fun e => HPL.out _ (HPIN.out (.h k) HFH.out) e.symm)
      have HO3 := Lib.hid (own_off HO2.out ho3 fun b hb e => by subst e; exact own_foot HO2.out HLOW.out _ hb (HPIN.out (.h k) HFH.out))
      have HOF3 := Lib.hid (HOF2.out.trans (off_more ho3 fun b hb => by subst hb; exact HPIN.out (.h k) HFH.out))
      have hs3 := ho3.size
      clear c0 c1 cz hl f0 hmh hm3 ho3
      obtain ⟨c0, c1, cz⟩ := hT3.face
      have hl := (hT3.rows hk64).2
      rw [rowV_in (s := { drp s x L with h := upd (drp s x L).h k (upd ((drp s x L).h k) x none) }) HRD.out] at hl
      have f1 := (run_field_row (some (loc (.h k))) (some (loc (.w k))) w3).2
      have hmw : Mh w3 (loc (.w k)) ((drp s x L).w k) := hT3.has (.w k) HRD.out
      clear hT3
      go_wp2_with (at_delete; refine wpList_delete_mv _ rfl _ _ 61 rfl 60 Try.underlying61 (loc (.w k)) _ rfl hmw x rfl hx64 ?_)
      intro w4 hm4 ho4 hs4
      clear hs4
      rw [hF_del] at hm4
      have HT4 : Hid (Tm w4 (drp s x (L ++ [k])) loc) := Lib.hid (by
        rw [drp_snoc]
        exact HT3.out.setw HRD.out hm4 ho4)
      have HR4 := Lib.hid (HR3.out.off ho4 (fun mb hmb e => by injection hmb with hmb; exact hne2 (hmb.trans e)) fun e => HPL.out _ (HPIN.out (.w k) HFH.out) e.symm)
      have HO4 := Lib.hid (own_off HO3.out ho4 fun b hb e => by subst e; exact own_foot HO3.out HLOW.out _ hb (HPIN.out (.w k) HFH.out))
      have HOF4 := Lib.hid (HOF3.out.trans (off_more ho4 fun b hb => by subst hb; exact HPIN.out (.w k) HFH.out))
      have hs4 := ho4.size
      clear c0 c1 cz hl f1 hmw hm4 ho4
      have HBA := Lib.hid ((Below.refl w4.heap.size w4).alloc (Nat.le_refl _) (.cells #[.int .i64 k] 3))
      have HO5 := Lib.hid (HO4.out.alloc (.cells #[.int .i64 k] 3))
      have HSE := Lib.hid (sees_num w4 w4.heap.size rfl k)
      have hL2 := len_le HMK.out.fin HR4.out.sub.1 HR4.out.sub.2
      simp only [List.length_append, List.length_cons, List.length_nil] at hL2
      have hw4 := HOF4.out.size
      obtain ⟨A, cp, hv, r1, r2, r3⟩ := own_slice0 HO5.out
      have HNN2 := Lib.hid (fun n c => HNN.out n c)
      rw [hv] at HO5 HNN2
      subst hv
      go_wp2_with (at_builtin; refine wpList_appG rfl (.tmp 45) (.tmp 47) _ 3 _ 1 8 rfl info_num Try.underlying26 rfl (by decide) w.heap.size (.slice A L.length cp) L.length (L.map (Value.int .i64)) rfl HO5.out _ _ 1 1 [.int .i64 k] rfl HSE.out (fun h => by cases h) (num_one [k]) (by omega) (by omega) (by simp; omega) ?_)
      intro v1 y1 ho1 hg1
      have hof1 := off_of_grown hg1
      have HR6 := Lib.hid ((HR4.out.call HBA.out).off_row HO5.out hg1)
      have HT6 := Lib.hid ((HT4.out.call HBA.out).off hof1 fun b hb e => by
        rw [foot_drp] at hb
        exact own_foot HO5.out HLOW.out b e hb)
      have HOF6 := Lib.hid ((HOF4.out.call HBA.out).grown hg1 fun g hg => .inr ((HO5.out.lt g hg).1))
      have HO6 := Lib.hid ho1
      have HN6 : Hid (∀ n c, v1 ≠ .slice none n c) := Lib.hid fun n c e => by
        obtain ⟨A1, c1, e1, k1, -, k3⟩ := own_slice0 ho1
        rw [e1] at e
        injection e with e _ _
        have := k3 e
        omega
      have hs6 := HR6.out.lt
      clear ho1 hg1 hof1
      go_wp2_with fail
      go_roundw
      case rel => exact ⟨cnt2, L ++ [k], HR6.out, by simpa using HO6.out, HN6.out, HT6.out, HOF6.out, hs6⟩
      case measure => rw [HR6.out.measure, HR.out.measure]; exact hlt
end Go.Proofs.Ytcjefigcaifmeaa
