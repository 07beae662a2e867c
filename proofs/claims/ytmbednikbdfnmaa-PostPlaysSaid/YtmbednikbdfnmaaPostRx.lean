/- The law's told: two rows of letters, one as the other. -/
import Derived.Test.YtmbednikbdfnmaaPostR
namespace Go.Proofs.Ytmbednikbdfnmaa
open Go.RowKit Go.Po Go.Maps
set_option linter.unusedVariables false
set_option linter.unusedSimpArgs false
set_option maxRecDepth 100000

set_option maxHeartbeats 4000000 in
theorem told_any (us : List (Lt (List UInt8))) (hus : us.length ≤ 1000) (A1 A2 : Option Addr) (c1 c2 B1 B2 : Nat) (w : World) (s1 : Sees w B1 4 A1 us.length (flat (encL sP) us)) (s2 : Sees w B2 4 A2 us.length (flat (encL sP) us)) (b1 : B1 ≤ w.heap.size) (b2 : B2 ≤ w.heap.size) (k1 : us.length ≤ c1) (k2 : us.length ≤ c2) :
    Calls Try.prog 22 #[.slice A1 us.length c1, .slice A2 us.length c2] w fun e w' => e = .returned (.bool true) ∧ Below w.heap.size w w' := by
  have HS1 := Lib.hid s1
  have HS2 := Lib.hid s2
  clear s1 s2
  go_enter Try.func22, Try.ntmps22
  go_wp2_with fail
  go_loopw [5] (fun i wr => ∃ (k : Nat), k ≤ us.length ∧ i = .int .i64 (k : Int) ∧ Below w.heap.size w wr) (fun i _ => us.length - (intOf i).toNat)
  case atStart => exact ⟨0, by omega, rfl, Below.refl _ _⟩
  case round =>
    obtain ⟨k, hk, rfl, hb⟩ := hrel
    have HB := Lib.hid hb
    clear hb
    by_cases hlt : k < us.length
    · obtain ⟨⟨id, fr, to, m⟩, hl⟩ : ∃ y, us[k]? = some y := ⟨_, List.getElem?_eq_getElem hlt⟩
      obtain ⟨x1, o1, rfl, q1, p1⟩ := HS1.out.item (encL_len sP) (by omega) k _ hl
      obtain ⟨x2, o2, rfl, q2, p2⟩ := HS2.out.item (encL_len sP) (by omega) k _ hl
      have a0 := (HB.out.cell (p := ⟨x1, o1 + k * 4 + 0, none⟩) (show x1 < _ by omega)).trans (p1 0 _ rfl)
      have a1 := (HB.out.cell (p := ⟨x1, o1 + k * 4 + 1, none⟩) (show x1 < _ by omega)).trans (p1 1 _ rfl)
      have a2 := (HB.out.cell (p := ⟨x1, o1 + k * 4 + 2, none⟩) (show x1 < _ by omega)).trans (p1 2 _ rfl)
      have a3 := (HB.out.cell (p := ⟨x1, o1 + k * 4 + 3, none⟩) (show x1 < _ by omega)).trans (p1 3 _ rfl)
      have d0 := (HB.out.cell (p := ⟨x2, o2 + k * 4 + 0, none⟩) (show x2 < _ by omega)).trans (p2 0 _ rfl)
      have d1 := (HB.out.cell (p := ⟨x2, o2 + k * 4 + 1, none⟩) (show x2 < _ by omega)).trans (p2 1 _ rfl)
      have d2 := (HB.out.cell (p := ⟨x2, o2 + k * 4 + 2, none⟩) (show x2 < _ by omega)).trans (p2 2 _ rfl)
      have d3 := (HB.out.cell (p := ⟨x2, o2 + k * 4 + 3, none⟩) (show x2 < _ by omega)).trans (p2 3 _ rfl)
      rw [Nat.add_zero] at a0 d0
      have a3' : wr.cell? ⟨x1, o1 + k * 4 + 3, none⟩ = some (.string (txt m)) := a3
      have d3' : wr.cell? ⟨x2, o2 + k * 4 + 3, none⟩ = some (.string (txt m)) := d3
      clear a3 d3
      have i1 : (k : Int) < (us.length : Int) := by omega
      generalize txt m = tm at *
      clear p1 p2 hl
      go_wp2_with fail
      obtain ⟨C, hC, HCC⟩ := one_class wr
      refine region_in C hC (by kernel_rfl) (by kernel_rfl) ?_
      iterate 50
        (refine WQ.step (fun K hK => ?_)
         go_simp
         first
           | (refine hK _ ?_; clear hK K)
           | (apply Exists.intro
              refine ⟨fun x hx => ?_, hK _ ?_⟩
              · first
                  | rfl
                  | (rw [HCC.out _ hx]
                     go_simp
                     exact ⟨rfl, rfl⟩)
                  | (rw [HCC.out _ hx]
                     go_simp
                     rfl)
              clear hK K))
      refine WQ.nil ?_
      intro y hy
      rw [HCC.out _ hy]
      clear hy hC HCC C
      go_wp2_with fail
      go_roundw
      case rel => exact ⟨k + 1, by omega, by go_num, below_drewN HB.out 1⟩
      case measure => simp [intOf]; omega
    · have hce : k = us.length := by omega
      subst hce
      go_wp2_with fail
      go_ret
      exact ⟨rfl, HB.out⟩
end Go.Proofs.Ytmbednikbdfnmaa
