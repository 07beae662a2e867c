/- The eldest one gets what it asks for, at once, and is never wounded; only younger ones are; for every input, without conditions (of more calls the first 40 are made). -/
import Derived.Test.YtjdnncnflccmdaaLokD
namespace Go.Proofs.Ytjdnncnflccmdaa.locksEldest
open Go.ChangeShapes Go.WideShapes Go.ChangeAt Go.RowKit Go.Lk
set_option linter.unusedVariables false
set_option linter.unusedSimpArgs false

set_option maxHeartbeats 16000000 in
set_option maxRecDepth 100000 in
theorem walk (A : Option Addr) (len cap : Nat) (l : List Op13) (w : World) (hL : IsR w A len cap 4 encO GO l) :
    Calls Try.prog 6 #[.slice A len cap] w fun r w' => r = .returned (.bool true) ∧ Below w.heap.size w w' := by
  obtain ⟨hlen, hs, hc1, hc2, hnil, hg⟩ := hL
  subst hlen
  have HS := Lib.hid hs
  have HGO := Lib.hid hg
  clear hs hg hnil
  go_enter Try.func6, Try.ntmps6
  go_wp2_with fail
  refine (knew _).mono ?_
  rintro e w1 ⟨rfl, -, k1⟩
  have H := Lib.hid k1
  clear k1
  generalize w.heap.size + 1 + 1 = g at *
  go_wp2_with fail
  refine (awake_any _).mono ?_
  rintro r w2 ⟨rfl, hb1⟩
  replace H := Lib.hid (H.out.call hb1)
  clear hb1
  go_wp2_with fail
  go_loopw [4, 5] (fun av i wr => ∃ (n : Nat) (s : Tb) (a : Bool), n ≤ l.length ∧ n ≤ 40 ∧ av = .bool a ∧ i = .int .i64 (n : Int) ∧ Hid (s.dead 1 = false ∧ (a = false → s.inn 1 = false)) ∧ Pk w wr [] g s (fun _ => False) n) (fun _ i _ => l.length - (intOf i).toNat)
  case atStart => exact ⟨0, newT, false, by omega, by omega, rfl, rfl, Lib.hid ⟨rfl, fun _ => rfl⟩, H.out⟩
  case round =>
    obtain ⟨n, s, a, hn1, hn2, rfl, rfl, HI, hp⟩ := hrel
    have HP := Lib.hid hp
    clear hp H
    by_cases hlt : n < l.length ∧ n < 40
    · obtain ⟨h1, h2⟩ := hlt
      obtain ⟨o, ho⟩ : ∃ o, l[n]? = some o := ⟨_, List.getElem?_eq_getElem h1⟩
      obtain ⟨b0, off, rfl, hb, hcc⟩ := (HS.out.below HP.out.st.below).item encO_len (by omega) n o ho
      have q0 := hcc 0 _ rfl
      have q1 := hcc 1 _ rfl
      have q2 := hcc 2 _ rfl
      have q3 := hcc 3 _ rfl
      rw [Nat.add_zero] at q0
      have i1 : (n : Int) < (l.length : Int) := by omega
      have i2 : (n : Int) < 40 := by omega
      have go := HGO.out o (List.mem_of_getElem? ho)
      have HP1 := Lib.hid (HP.out.alloc wr.heap.size rfl 31 #[.int .i64 o.k, .int .i64 o.x, .int .i64 o.key, .bool o.b])
      have HDO := Lib.hid (does_any o go HP1.out (by omega))
      have HWL := Lib.hid (wound_less HP.out.fine o)
      have HT := Lib.hid (eld_told HP.out.fine o HI.out.1)
      have HI2 : Hid ((run1 s o).dead 1 = false ∧ (aliveS a s o = false → (run1 s o).inn 1 = false)) := Lib.hid ⟨eld_dead HP.out.fine o HI.out.1, eld_inn a o HI.out.2⟩
      have HA : Hid (aliveS a s o = if o.x = 1 ∧ o.k ≠ 0 then false else if o.x = 1 ∧ runE s o = 0 then true else a) := Lib.hid rfl
      clear hcc ho HP go HI
      generalize runA s o = R at *
      generalize runE s o = E at *
      generalize aliveS a s o = a' at *
      generalize run1 s o = s' at *
      obtain ⟨k, x, key, b⟩ := o
      obtain ⟨r1, r2, r3⟩ := R
      dsimp only at *
      have d0 := (HP1.out.st.knows.at 0 rfl).cell 0
      have d1 := (HP1.out.st.knows.at 0 rfl).cell 1
      have d2 := (HP1.out.st.knows.at 0 rfl).cell 2
      have d3 := (HP1.out.st.knows.at 0 rfl).cell 3
      have dz := (HP1.out.st.knows.at 0 rfl).lt
      go_wp2_with fail
      refine HDO.out.mono ?_
      rintro e w4 ⟨A4, c4, B4, e4, rfl, hp, hz, ho1, -⟩
      have HP4 := Lib.hid (hp.alloc w4.heap.size rfl 34 #[.bool r1, .slice A4 r2.length c4, .slice B4 r3.length e4])
      have HV := Lib.hid (Sees.own (own_keep ho1 ((Below.refl w4.heap.size w4).alloc (Nat.le_refl _) (.cells #[.bool r1, .slice A4 r2.length c4, .slice B4 r3.length e4] 34)) (Nat.le_refl _)))
      have hr2 : r2.length ≤ 9223372036854775807 := by
        obtain ⟨_, _, e, h1, h2, _⟩ := own_slice0 ho1
        injection e with _ _ e
        omega
      clear hp ho1 HDO HP1 d0 d1 d2 d3 dz hz
      have k0 := HP4.out.st.knows.at 0 rfl
      have k1 := HP4.out.st.knows.at 1 rfl
      have c0 := k0.cell 0
      have c1 := k0.cell 1
      have c2 := k0.cell 2
      have cz := k0.lt
      have d0 := k1.cell 0
      have d1 := k1.cell 1
      have d2 := k1.cell 2
      have d3 := k1.cell 3
      have dz := k1.lt
      clear k0 k1
      have hc : (x = 1 ∧ k ≠ 0 ∧ a' = false) ∨ (x = 1 ∧ k = 0 ∧ E = 0 ∧ a' = true ∧ r1 = true) ∨ (x = 1 ∧ k = 0 ∧ E ≠ 0 ∧ a' = a) ∨ (x ≠ 1 ∧ a' = a) := by
        have ha := HA.out
        by_cases hx : x = 1
        · by_cases hk : k = 0
          · by_cases hE : E = 0
            · exact .inr (.inl ⟨hx, hk, hE, by rw [ha]; simp [hx, hk, hE], (HT.out hx).2.2 hk hE⟩)
            · exact .inr (.inr (.inl ⟨hx, hk, hE, by rw [ha]; simp [hk, hE]⟩))
          · exact .inl ⟨hx, hk, by rw [ha]; simp [hx, hk]⟩
        · exact .inr (.inr (.inr ⟨hx, by rw [ha]; simp [hx]⟩))
      have HE : Hid (x = 1 → (E == 132) = false ∧ (E == 133) = false) := Lib.hid fun hx => by
        have := HT.out hx
        simp [this.1, this.2.1]
      clear HA HT
      rcases hc with ⟨hx, hk, ha⟩ | ⟨hx, hk, hE, ha, hr⟩ | ⟨hx, hk, hE, ha⟩ | ⟨hx, ha⟩
      · have t1 : (x == 1) = true := by simpa using hx
        have t2 : (k == 0) = false := by simpa using hk
        have t3 : (k != 0) = true := by simpa using hk
        have t4 := (HE.out hx).1
        have t5 := (HE.out hx).2
        clear HE hx hk
        subst ha
        go_wp2_with fail
        generalize w4.alloc (.cells #[.bool r1, .slice A4 r2.length c4, .slice B4 r3.length e4] 34) = w5 at *
        clear c0 c1 c2 cz d0 d1 d2 d3 dz
        go_loopw [9] (fun kk wq => ∃ j : Nat, j ≤ r2.length ∧ kk = .int .i64 (j : Int) ∧ Below w5.heap.size w5 wq) (fun kk _ => r2.length - (intOf kk).toNat)
        case atStart => exact ⟨0, by omega, rfl, .refl _ _⟩
        case round =>
          obtain ⟨j, hj, rfl, hbq⟩ := hrel
          have HPQ := Lib.hid (HP4.out.call hbq)
          have k0 := HPQ.out.st.knows.at 0 rfl
          have k1 := HPQ.out.st.knows.at 1 rfl
          have c1 := k0.cell 1
          have cz := k0.lt
          have d1 := k1.cell 1
          have dz := k1.lt
          clear k0 k1
          by_cases hlt : j < r2.length
          · obtain ⟨y, hy⟩ : ∃ y, r2[j]? = some y := ⟨_, List.getElem?_eq_getElem hlt⟩
            have hxy := HWL.out y (List.mem_of_getElem? hy)
            obtain ⟨b4, f4, rfl, hb4, hc4⟩ := HV.out.2 (by omega)
            have HROW : Hid (∀ a, Below wr.heap.size wr a → a.cell? ⟨b4, f4 + j, none⟩ = some (.int .i64 y)) := Lib.hid fun a ha => by
              have e := (hbq.trans (ha.mono hbq.size)).block b4 hb4
              rw [← hc4 j (.int .i64 y) (by rw [List.getElem?_map, hy]; rfl)]
              simp only [World.cell?, e]
            have i3 : (j : Int) < (r2.length : Int) := by omega
            have i4 : ¬ y ≤ x := by omega
            have HBQ := Lib.hid hbq
            clear hc4 hy hxy hbq
            obtain ⟨C, hC, HCc, HCf⟩ := below_class wr
            go_wp2_with fail
            refine region_in C hC (by kernel_rfl) (by kernel_rfl) ?_
            iterate 8
              (refine WQ.step (fun K hK => ?_)
               go_simp
               first
                 | (refine hK _ ?_; clear hK K)
                 | (apply Exists.intro
                    refine ⟨fun x1 hx1 => ?_, hK _ ?_⟩
                    · first
                        | rfl
                        | (have hp9 := HPQ.out.call (HCf.out _ hx1); have c1 := (hp9.st.knows.at 0 rfl).cell 1; have d1 := (hp9.st.knows.at 1 rfl).cell 1; have p5 := HROW.out _ (HCf.out _ hx1); go_simp; rfl)
                    clear hK K))
            refine WQ.nil ?_
            intro wn hw
            have HBN := Lib.hid (HBQ.out.trans ((HCf.out _ hw).mono HBQ.out.size))
            clear hw hC HCc HCf C HBQ HROW HPQ c1 d1 cz dz
            go_wp2_with fail
            go_roundw
            case rel => exact ⟨j + 1, by omega, by go_num, HBN.out⟩
            case measure => simp [intOf]; omega
          · obtain rfl : j = r2.length := by omega
            have i3 : ¬ (r2.length : Int) < (r2.length : Int) := by omega
            have HDD := Lib.hid (kdead 1 (w64n _ (by omega)) HPQ.out)
            rw [HI2.out.1] at HDD
            go_wp2_with fail
            refine HDD.out.mono ?_
            rintro e w6 ⟨rfl, rfl⟩
            go_wp2_with fail
            go_roundw
            case rel => exact ⟨n + 1, s', _, by omega, by omega, rfl, by go_num, Lib.hid ⟨HI2.out.1, fun h => HI2.out.2 (by first | exact h | trivial)⟩, HPQ.out.keep fun r hr => by cases hr⟩
            case measure => simp [intOf]; omega
      · have t1 : (x == 1) = true := by simpa using hx
        have t4 := (HE.out hx).1
        have t5 := (HE.out hx).2
        clear HE hx
        subst hk hE ha hr
        go_wp2_with fail
        generalize w4.alloc (.cells #[.bool true, .slice A4 r2.length c4, .slice B4 r3.length e4] 34) = w5 at *
        clear c0 c1 c2 cz d0 d1 d2 d3 dz
        go_loopw [9] (fun kk wq => ∃ j : Nat, j ≤ r2.length ∧ kk = .int .i64 (j : Int) ∧ Below w5.heap.size w5 wq) (fun kk _ => r2.length - (intOf kk).toNat)
        case atStart => exact ⟨0, by omega, rfl, .refl _ _⟩
        case round =>
          obtain ⟨j, hj, rfl, hbq⟩ := hrel
          have HPQ := Lib.hid (HP4.out.call hbq)
          have k0 := HPQ.out.st.knows.at 0 rfl
          have k1 := HPQ.out.st.knows.at 1 rfl
          have c1 := k0.cell 1
          have cz := k0.lt
          have d1 := k1.cell 1
          have dz := k1.lt
          clear k0 k1
          by_cases hlt : j < r2.length
          · obtain ⟨y, hy⟩ : ∃ y, r2[j]? = some y := ⟨_, List.getElem?_eq_getElem hlt⟩
            have hxy := HWL.out y (List.mem_of_getElem? hy)
            obtain ⟨b4, f4, rfl, hb4, hc4⟩ := HV.out.2 (by omega)
            have HROW : Hid (∀ a, Below wr.heap.size wr a → a.cell? ⟨b4, f4 + j, none⟩ = some (.int .i64 y)) := Lib.hid fun a ha => by
              have e := (hbq.trans (ha.mono hbq.size)).block b4 hb4
              rw [← hc4 j (.int .i64 y) (by rw [List.getElem?_map, hy]; rfl)]
              simp only [World.cell?, e]
            have i3 : (j : Int) < (r2.length : Int) := by omega
            have i4 : ¬ y ≤ x := by omega
            have HBQ := Lib.hid hbq
            clear hc4 hy hxy hbq
            obtain ⟨C, hC, HCc, HCf⟩ := below_class wr
            go_wp2_with fail
            refine region_in C hC (by kernel_rfl) (by kernel_rfl) ?_
            iterate 8
              (refine WQ.step (fun K hK => ?_)
               go_simp
               first
                 | (refine hK _ ?_; clear hK K)
                 | (apply Exists.intro
                    refine ⟨fun x1 hx1 => ?_, hK _ ?_⟩
                    · first
                        | rfl
                        | (have hp9 := HPQ.out.call (HCf.out _ hx1); have c1 := (hp9.st.knows.at 0 rfl).cell 1; have d1 := (hp9.st.knows.at 1 rfl).cell 1; have p5 := HROW.out _ (HCf.out _ hx1); go_simp; rfl)
                    clear hK K))
            refine WQ.nil ?_
            intro wn hw
            have HBN := Lib.hid (HBQ.out.trans ((HCf.out _ hw).mono HBQ.out.size))
            clear hw hC HCc HCf C HBQ HROW HPQ c1 d1 cz dz
            go_wp2_with fail
            go_roundw
            case rel => exact ⟨j + 1, by omega, by go_num, HBN.out⟩
            case measure => simp [intOf]; omega
          · obtain rfl : j = r2.length := by omega
            have i3 : ¬ (r2.length : Int) < (r2.length : Int) := by omega
            have HDD := Lib.hid (kdead 1 (w64n _ (by omega)) HPQ.out)
            rw [HI2.out.1] at HDD
            go_wp2_with fail
            refine HDD.out.mono ?_
            rintro e w6 ⟨rfl, rfl⟩
            go_wp2_with fail
            go_roundw
            case rel => exact ⟨n + 1, s', _, by omega, by omega, rfl, by go_num, Lib.hid ⟨HI2.out.1, fun h => HI2.out.2 (by first | exact h | trivial)⟩, HPQ.out.keep fun r hr => by cases hr⟩
            case measure => simp [intOf]; omega
      · have t1 : (x == 1) = true := by simpa using hx
        have t4 := (HE.out hx).1
        have t5 := (HE.out hx).2
        have t6 : (E == 0) = false := by simpa using hE
        clear HE hx hE
        subst hk ha
        go_wp2_with fail
        generalize w4.alloc (.cells #[.bool r1, .slice A4 r2.length c4, .slice B4 r3.length e4] 34) = w5 at *
        clear c0 c1 c2 cz d0 d1 d2 d3 dz
        go_loopw [9] (fun kk wq => ∃ j : Nat, j ≤ r2.length ∧ kk = .int .i64 (j : Int) ∧ Below w5.heap.size w5 wq) (fun kk _ => r2.length - (intOf kk).toNat)
        case atStart => exact ⟨0, by omega, rfl, .refl _ _⟩
        case round =>
          obtain ⟨j, hj, rfl, hbq⟩ := hrel
          have HPQ := Lib.hid (HP4.out.call hbq)
          have k0 := HPQ.out.st.knows.at 0 rfl
          have k1 := HPQ.out.st.knows.at 1 rfl
          have c1 := k0.cell 1
          have cz := k0.lt
          have d1 := k1.cell 1
          have dz := k1.lt
          clear k0 k1
          by_cases hlt : j < r2.length
          · obtain ⟨y, hy⟩ : ∃ y, r2[j]? = some y := ⟨_, List.getElem?_eq_getElem hlt⟩
            have hxy := HWL.out y (List.mem_of_getElem? hy)
            obtain ⟨b4, f4, rfl, hb4, hc4⟩ := HV.out.2 (by omega)
            have HROW : Hid (∀ a, Below wr.heap.size wr a → a.cell? ⟨b4, f4 + j, none⟩ = some (.int .i64 y)) := Lib.hid fun a ha => by
              have e := (hbq.trans (ha.mono hbq.size)).block b4 hb4
              rw [← hc4 j (.int .i64 y) (by rw [List.getElem?_map, hy]; rfl)]
              simp only [World.cell?, e]
            have i3 : (j : Int) < (r2.length : Int) := by omega
            have i4 : ¬ y ≤ x := by omega
            have HBQ := Lib.hid hbq
            clear hc4 hy hxy hbq
            obtain ⟨C, hC, HCc, HCf⟩ := below_class wr
            go_wp2_with fail
            refine region_in C hC (by kernel_rfl) (by kernel_rfl) ?_
            iterate 8
              (refine WQ.step (fun K hK => ?_)
               go_simp
               first
                 | (refine hK _ ?_; clear hK K)
                 | (apply Exists.intro
                    refine ⟨fun x1 hx1 => ?_, hK _ ?_⟩
                    · first
                        | rfl
                        | (have hp9 := HPQ.out.call (HCf.out _ hx1); have c1 := (hp9.st.knows.at 0 rfl).cell 1; have d1 := (hp9.st.knows.at 1 rfl).cell 1; have p5 := HROW.out _ (HCf.out _ hx1); go_simp; rfl)
                    clear hK K))
            refine WQ.nil ?_
            intro wn hw
            have HBN := Lib.hid (HBQ.out.trans ((HCf.out _ hw).mono HBQ.out.size))
            clear hw hC HCc HCf C HBQ HROW HPQ c1 d1 cz dz
            go_wp2_with fail
            go_roundw
            case rel => exact ⟨j + 1, by omega, by go_num, HBN.out⟩
            case measure => simp [intOf]; omega
          · obtain rfl : j = r2.length := by omega
            have i3 : ¬ (r2.length : Int) < (r2.length : Int) := by omega
            have HDD := Lib.hid (kdead 1 (w64n _ (by omega)) HPQ.out)
            rw [HI2.out.1] at HDD
            go_wp2_with fail
            refine HDD.out.mono ?_
            rintro e w6 ⟨rfl, rfl⟩
            go_wp2_with fail
            go_roundw
            case rel => exact ⟨n + 1, s', _, by omega, by omega, rfl, by go_num, Lib.hid ⟨HI2.out.1, fun h => HI2.out.2 (by first | exact h | trivial)⟩, HPQ.out.keep fun r hr => by cases hr⟩
            case measure => simp [intOf]; omega
      · have t1 : (x == 1) = false := by simpa using hx
        clear HE hx
        subst ha
        go_wp2_with fail
        generalize w4.alloc (.cells #[.bool r1, .slice A4 r2.length c4, .slice B4 r3.length e4] 34) = w5 at *
        clear c0 c1 c2 cz d0 d1 d2 d3 dz
        go_loopw [9] (fun kk wq => ∃ j : Nat, j ≤ r2.length ∧ kk = .int .i64 (j : Int) ∧ Below w5.heap.size w5 wq) (fun kk _ => r2.length - (intOf kk).toNat)
        case atStart => exact ⟨0, by omega, rfl, .refl _ _⟩
        case round =>
          obtain ⟨j, hj, rfl, hbq⟩ := hrel
          have HPQ := Lib.hid (HP4.out.call hbq)
          have k0 := HPQ.out.st.knows.at 0 rfl
          have k1 := HPQ.out.st.knows.at 1 rfl
          have c1 := k0.cell 1
          have cz := k0.lt
          have d1 := k1.cell 1
          have dz := k1.lt
          clear k0 k1
          by_cases hlt : j < r2.length
          · obtain ⟨y, hy⟩ : ∃ y, r2[j]? = some y := ⟨_, List.getElem?_eq_getElem hlt⟩
            have hxy := HWL.out y (List.mem_of_getElem? hy)
            obtain ⟨b4, f4, rfl, hb4, hc4⟩ := HV.out.2 (by omega)
            have HROW : Hid (∀ a, Below wr.heap.size wr a → a.cell? ⟨b4, f4 + j, none⟩ = some (.int .i64 y)) := Lib.hid fun a ha => by
              have e := (hbq.trans (ha.mono hbq.size)).block b4 hb4
              rw [← hc4 j (.int .i64 y) (by rw [List.getElem?_map, hy]; rfl)]
              simp only [World.cell?, e]
            have i3 : (j : Int) < (r2.length : Int) := by omega
            have i4 : ¬ y ≤ x := by omega
            have HBQ := Lib.hid hbq
            clear hc4 hy hxy hbq
            obtain ⟨C, hC, HCc, HCf⟩ := below_class wr
            go_wp2_with fail
            refine region_in C hC (by kernel_rfl) (by kernel_rfl) ?_
            iterate 8
              (refine WQ.step (fun K hK => ?_)
               go_simp
               first
                 | (refine hK _ ?_; clear hK K)
                 | (apply Exists.intro
                    refine ⟨fun x1 hx1 => ?_, hK _ ?_⟩
                    · first
                        | rfl
                        | (have hp9 := HPQ.out.call (HCf.out _ hx1); have c1 := (hp9.st.knows.at 0 rfl).cell 1; have d1 := (hp9.st.knows.at 1 rfl).cell 1; have p5 := HROW.out _ (HCf.out _ hx1); go_simp; rfl)
                    clear hK K))
            refine WQ.nil ?_
            intro wn hw
            have HBN := Lib.hid (HBQ.out.trans ((HCf.out _ hw).mono HBQ.out.size))
            clear hw hC HCc HCf C HBQ HROW HPQ c1 d1 cz dz
            go_wp2_with fail
            go_roundw
            case rel => exact ⟨j + 1, by omega, by go_num, HBN.out⟩
            case measure => simp [intOf]; omega
          · obtain rfl : j = r2.length := by omega
            have i3 : ¬ (r2.length : Int) < (r2.length : Int) := by omega
            have HDD := Lib.hid (kdead 1 (w64n _ (by omega)) HPQ.out)
            rw [HI2.out.1] at HDD
            go_wp2_with fail
            refine HDD.out.mono ?_
            rintro e w6 ⟨rfl, rfl⟩
            go_wp2_with fail
            go_roundw
            case rel => exact ⟨n + 1, s', _, by omega, by omega, rfl, by go_num, Lib.hid ⟨HI2.out.1, fun h => HI2.out.2 (by first | exact h | trivial)⟩, HPQ.out.keep fun r hr => by cases hr⟩
            case measure => simp [intOf]; omega
    · have hend : ((n : Int) < (l.length : Int) ∧ n = 40) ∨ (¬ (n : Int) < (l.length : Int)) := by omega
      have HC := Lib.hid (kend 1 (w64n _ (by omega)) HP.out (by omega))
      rw [show (if (1 : Int) < 1 then (130 : Int) else 0) = 0 from rfl] at HC
      have HE : Hid (a = false → (endA s 1).length = 0) := Lib.hid fun h => by rw [end_out s (HI.out.2 h)]; rfl
      generalize endA s 1 = R at *
      clear HI HP
      rcases hend with ⟨i1, rfl⟩ | i1
      all_goals
        go_wp2_with fail
        refine HC.out.mono ?_
        rintro e w4 ⟨A4, c4, rfl, hp, hz, -⟩
        have HP4 := Lib.hid hp
        clear hp HC hz
        cases a
        · have hl := HE.out rfl
          go_wp2_with fail
          go_ret
          exact ⟨rfl, HP4.out.st.below⟩
        · go_wp2_with fail
          go_ret
          exact ⟨rfl, HP4.out.st.below⟩

set_option maxRecDepth 100000 in
theorem lifted (os : Os) (started : os.Started) (H : Type) (enc : TypeId × Value → H) :
    ReturnsInHanded {} Try.checked os 6 .any (Rows.locksEldestSpec.pre6 enc Try.prog Try.f6 Rows.locksEldestRow.domain false) (Rows.locksEldestSpec.post enc Try.prog Try.f6 false true false false) := by
  refine returnsInHanded_of_change (C := Try.checked) own started (by kernel_rfl) Try.func6
    (ChangeSpec.witness6 (enc := enc) (C := Try.checked) false ⟨#[], #[.slice none 0 0], []⟩ 8 (by kernel_rfl) (by kernel_rfl) (by kernel_rfl) (by kernel_rfl)) ?_
  intro W base args ds gs before hval0 hW hcnd _
  have hval : ∀ (j : Nat) t v, Try.f6.params[j]? = some t → args[j]? = some v → Value.okWide Try.prog W .any base t v := hval0
  have hW' := hW
  obtain ⟨p, q, hA0, hV, rfl, hfz, hnd⟩ := hW
  have hA : DataW.TrodAll enc Try.prog W 0 (fun _ => true) true Try.f6.params.toList args.toList ds p := hA0
  rw [Try.params6] at hA hval
  obtain ⟨v0, vs0, d0, ds0, p0, q0, hargs, rfl, rfl, h0, r0⟩ := trodAll_cons hA
  obtain ⟨rfl, rfl, rfl⟩ := trodAll_nil r0
  obtain rfl : args = #[v0] := by cases args; simp_all
  obtain ⟨rfl, rfl⟩ := trodVars_none hV
  obtain ⟨A0, len0, cap0, rfl⟩ := okWide_slice Try.underlying22 (hval 0 22 v0 rfl rfl)
  obtain ⟨l0, w0⟩ := open_ops h0
  have lt0 : ∀ x ∈ p0, x.block < W.heap.size := by obtain ⟨m, hm⟩ := h0; exact DataW.trod_lt m _ _ _ hm
  clear hA0 hval0
  simp only [List.append_nil] at hW'
  refine (walk A0 len0 cap0 l0 W w0).mono fun e W' ⟨he, bel⟩ => ?_
  subst he
  exact ⟨_, rfl, _, _, _, [], _, [], hW', trodAll_mk1 (shut_bool Try.underlying4 _), (trodAll_cons_mk (Below.trod laidOut (by kernel_rfl) (of_decide_eq_true (by kernel_rfl)) h0 bel lt0) trodAll_mk0), rfl, bel.frame _, fun h => by cases h⟩

theorem proved : Rows.LocksEldestSaid :=
  OpenClaim.holds_of_wide 6 Try.f6 rfl rfl rfl rfl rfl rfl rfl ⟨rfl, rfl, rfl, rfl, rfl⟩ rfl rfl rfl rfl rfl (by kernel_rfl) Try.func6 (by kernel_rfl)
    (of_decide_eq_true (by kernel_rfl)) (by unfold Func.isWrapper; first | (rw [if_pos (by decide +kernel)]; kernel_rfl) | (rw [if_neg (by decide +kernel)]; exact ⟨rfl, rfl⟩))
    (fun os started H enc _ => lifted os started H enc)
#print axioms proved
end Go.Proofs.Ytjdnncnflccmdaa.locksEldest
