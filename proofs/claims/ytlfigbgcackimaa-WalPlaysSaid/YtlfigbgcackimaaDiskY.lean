/- Contracts of the program's calls at layer 7: cut, lose. -/
import Derived.Test.YtlfigbgcackimaaDiskX
namespace Go.Proofs.Ytlfigbgcackimaa
open Go.RowKit Go.Dk
set_option linter.unusedVariables false
set_option linter.unusedSimpArgs false
set_option maxRecDepth 100000

theorem Off.mono {F G : Nat → Prop} {a w : World} (h : Off F a w) (hF : ∀ b, F b → G b) : Off G a w := ⟨h.os, h.tape, h.output, h.size, fun k hk hg => h.block k hk fun hf => hg (hF k hf)⟩

/-- The world in which a region draws, as a class of which nothing else is told. -/
theorem one_class (w : World) : ∃ C : World → Prop, C w.drew ∧ Hid (∀ a, C a → a = w.drew) := ⟨fun a => a = w.drew, rfl, Lib.hid fun a h => h⟩

set_option maxHeartbeats 1000000 in
theorem cut_any (g h k : Nat) (vs : Nat → Value) (d : D) (F : Nat → Prop) (i : Nat) (c : Lg) (hi : d.logs[i]? = some c) (m : Int) (hm : W64 m) (w : World) (x : Dx w g h k vs d F) :
    Calls Try.prog 66 #[.pointer (some ⟨h, i * 2, none⟩), .int .i64 m] w fun e w' => e = .returned (.tuple #[]) ∧ (∃ vs', Dx w' g h k vs' (d.put i (c.cut m)) F) ∧ Off (fun b => b = h) w w' := by
  have HX := Lib.hid x
  have HI := Lib.hid hi
  have ok := x.ok.logs c (List.mem_of_getElem? hi)
  have hk := okay_kept ok m
  obtain ⟨A, cap, hv, h1, h2, h3⟩ := x.slice hi
  have HV := Lib.hid hv
  obtain ⟨l0, l1, f0, f1⟩ := x.log hi
  rw [hv] at l0
  have hf := x.ok.few
  have hlt := at_lt hi
  have hc1 := ok.1
  have hc2 := ok.2
  have HK : Hid (c.cut m = ⟨c.all.take (c.kept m), c.kept m⟩) := Lib.hid rfl
  have HOK := Lib.hid (okay_cut ok m)
  have hkk : ((c.sure : Int) + (if (c.all.length : Int) - c.sure < (if m < 0 then 0 else m) then (c.all.length : Int) - c.sure else (if m < 0 then 0 else m))) = (c.kept m : Int) := by
    unfold Lg.kept
    split <;> split <;> omega
  unfold W64 at hm
  clear x hi ok hv
  have HT : Hid (c.all.take (c.kept m) = c.all.take (c.kept m)) := Lib.hid rfl
  generalize hkept : c.kept m = q at *
  generalize hsz : c.all.length = n at *
  generalize hsu : c.sure = s at *
  have w64 : ∀ x : Int, -9223372036854775808 ≤ x → x ≤ 9223372036854775807 → IntKind.i64.wrap x = x := fun x a b => by rw [IntKind.wrap_i64]; omega
  have he : IntKind.i64.wrap ((s : Int) + (if IntKind.i64.wrap ((n : Int) - s) < (if m < 0 then 0 else m) then IntKind.i64.wrap ((n : Int) - s) else (if m < 0 then 0 else m))) = (q : Int) := by
    rw [w64 (n - s) (by omega) (by omega), hkk]
    exact w64 _ (by omega) (by omega)
  have HE := Lib.hid he
  clear he hkk w64
  go_enter Try.func66, Try.ntmps66
  go_wp2_with fail
  obtain ⟨C, hC, HC⟩ := one_class w
  refine region_inT 20 C hC (by kernel_rfl) (by kernel_rfl) ?_
  simp only [List.take_succ_cons, List.take_zero, List.drop_succ_cons, List.drop_zero]
  iterate 20
    (refine WQ.step (fun K hK => ?_)
     go_simp
     first
       | (refine hK _ ?_; clear hK K)
       | (apply Exists.intro
          refine ⟨fun x hx => ?_, hK _ ?_⟩
          · first
              | rfl
              | (rw [HC.out _ hx]
                 go_simp
                 exact ⟨rfl, rfl⟩)
              | (rw [HC.out _ hx]
                 go_simp
                 rfl)
          clear hK K))
  refine WQ.nil ?_
  intro y hy
  rw [HC.out _ hy]
  clear hy hC HC C
  rw [HE.out]
  generalize (if IntKind.i64.wrap ((n : Int) - s) < (if m < 0 then 0 else m) then IntKind.i64.wrap ((n : Int) - s) else (if m < 0 then 0 else m)) = m2
  generalize (if m < 0 then 0 else m) = m1
  clear HE hm
  have hq : q ≤ n := hk.2
  have HO1 : Hid (w.drew.setCell ⟨h, i * 2 + 1, none⟩ (.int .i64 q) = w.drew.setCell ⟨h, i * 2 + 1, none⟩ (.int .i64 q)) := Lib.hid rfl
  go_wp2_with fail
  have hA : (A = none ∧ cap = 0 ∧ n = 0 ∧ q = 0) ∨ ∃ b, A = some b := by
    cases A with
    | none => have := h3 rfl; exact .inl ⟨rfl, by omega, by omega, by omega⟩
    | some b => exact .inr ⟨b, rfl⟩
  have hqc : q ≤ cap := by omega
  obtain ⟨vv, hvv⟩ : ∃ vv, vv = Value.slice A q cap := ⟨_, rfl⟩
  have HVV := Lib.hid hvv
  clear hvv
  rcases hA with ⟨hA, e1, e2, e3⟩ | ⟨b, hA⟩
  all_goals
    subst hA
    obtain ⟨C, hC, HC⟩ := one_class (w.drew.setCell ⟨h, i * 2 + 1, none⟩ (.int .i64 q))
    refine region_inT 12 C hC (by kernel_rfl) (by kernel_rfl) ?_
    simp only [List.take_succ_cons, List.take_zero, List.drop_succ_cons, List.drop_zero]
    iterate 12
      (refine WQ.step (fun K hK => ?_)
       go_simp
       first
         | (refine hK _ ?_; clear hK K)
         | (apply Exists.intro
            refine ⟨fun x hx => ?_, hK _ ?_⟩
            · first
                | rfl
                | (rw [HC.out _ hx]
                   go_simp
                   exact ⟨rfl, rfl⟩)
                | (rw [HC.out _ hx]
                   go_simp
                   rfl)
            clear hK K))
    refine WQ.nil ?_
    intro y hy
    rw [HC.out _ hy]
    clear hy hC HC C
    go_wp2_with fail
    go_end0
    have x := HX.out
    have hv := HV.out
    have hown := x.own i c HI.out
    rw [hv] at hown
    refine ⟨rfl, ⟨upd vs i vv, ?_⟩, ?_⟩
    · rw [HK.out, HVV.out]
      refine x.setLog HI.out _ _ (HK.out ▸ HOK.out) (by simp) (fun b hb => hb) (fun b hb => by simpa using x.low b hb) (fun cs hw => ?_) (fun b hb hne _ => ?_) ?_ (fun b hb => ?_)
      · rw [Array.setIfInBounds_comm _ _ (by omega)]
        first
          | exact (hw.set (i * 2 + 1) _).set (i * 2) _
          | (simp only [e1, e3]; exact (hw.set (i * 2 + 1) _).set (i * 2) _)
      · exact (Below.heap_setCell _ ⟨h, i * 2, none⟩ _ b hne).trans (Below.heap_setCell w ⟨h, i * 2 + 1, none⟩ _ b hne)
      · refine (hown.cutTo q (by omega)).at fun b hb => ?_
        have hb' : (vs i).ownBlock = some b := by rw [hv]; exact hb
        have hne := (x.bytes HI.out hb').2.1
        exact (Below.heap_setCell _ ⟨h, i * 2, none⟩ _ b hne).trans (Below.heap_setCell w ⟨h, i * 2 + 1, none⟩ _ b hne)
      · have hb' : (vs i).ownBlock = some b := by rw [hv]; exact hb
        exact ⟨x.mine.2.2.2 i b (at_lt HI.out) hb', .inl hb'⟩
    · exact ((((Off.refl (fun b => b = h) w).set (p := ⟨h, i * 2 + 1, none⟩) (.inl rfl) _).set (p := ⟨h, i * 2, none⟩) (.inl rfl) _).drewN 1).drewN 1
end Go.Proofs.Ytlfigbgcackimaa
