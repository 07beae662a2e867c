/- The walk of WalPlays (written by genplays8.py, genw8.py). -/
import Derived.Test.YtlfigbgcackimaaWalUM
namespace Go.Proofs.Ytlfigbgcackimaa
open Go.ChangeShapes Go.WideShapes Go.ChangeAt Go.RowKit Go.Dk Go.Fm Go.Wl
set_option linter.unusedVariables false
set_option linter.unusedSimpArgs false

set_option maxRecDepth 100000 in
set_option maxHeartbeats 16000000 in
theorem walPlays_walk (A : Option Addr) (len cap : Nat) (l : List Ac) (w : World) (hL : IsR w A len cap 4 encA (GA w) l) :
    Calls Try.prog 3 #[.slice A len cap] w fun r w' => r = .returned (.bool true) ∧ Below w.heap.size w w' := by
  obtain ⟨hlen, hs, hc1, hc2, hnl, hg⟩ := hL
  subst hlen
  have HS := Lib.hid hs
  have HG := Lib.hid hg
  clear hs hg hnl
  go_enter Try.func3, Try.ntmps3
  go_wp2_with fail
  refine (new_any 2 (by omega) (by omega) _).mono ?_
  rintro e w1 ⟨g, F, rfl, hb1, hF, hd⟩
  have HB1 := Lib.hid hb1
  have HD1 := Lib.hid hd
  have HF1 := Lib.hid hF
  clear hb1 hd hF
  go_wp2_with fail
  refine (rnew_any 2 (by omega) (by omega) _).mono ?_
  rintro e w2 ⟨A1, c1, rfl, hb2, hm2⟩
  have H0 := Lib.hid fun o => yx_start HB1.out HF1.out HD1.out hb2 hm2 o
  have hl : (Rf.new 2).logs.length = 2 := by simp [Rf.new]
  have hv : vM A1 c1 none 0 (Rf.new 2) = .agg #[.slice A1 2 c1, .int .i64 0, .bool false, .int .i64 0, .slice none 0 0] := by unfold vM; rw [hl]; rfl
  have hy : ycells g none A1 c1 none 0 (Rf.new 2) none 0 Rw.none = #[ptr g, .pointer none, .slice A1 2 c1, .int .i64 0, .bool false, .int .i64 0, .slice none 0 0, .int .i64 0, .slice none 0 0, .int .i64 0, .bool false] := by unfold ycells; rw [hl]; rfl
  rw [hv]
  rw [hy] at H0
  clear hb2 hm2 hl hv hy HB1 HD1 HF1
  go_upto_region 4 with fail
  have H1 := Lib.hid (H0.out (.cells #[.slice A1 2 c1, .int .i64 0, .bool false, .int .i64 0, .slice none 0 0] 30))
  clear H0
  generalize hX : w2.heap.size + 1 = y at H1 ⊢
  generalize ((w2.alloc _).alloc _) = w3 at H1 ⊢
  clear hX
  go_wp2_with fail
  refine (awake_any _).mono ?_
  rintro e w4 ⟨rfl, hb4⟩
  have H2 := Lib.hid (H1.out.call hb4)
  clear hb4 H1
  have HOP := Lib.hid (bopen8 w w4 y g none F _ _ _ _ _ _ _ _ _ H2.out (P8.start.rok H2.out.ok (by omega)) P8.start.rel (by simp [Rf.new]) (P8.start.hacts (by omega)))
  have HP1 := Lib.hid (P8.start.opened (P8.start.rok H2.out.ok (by omega)))
  clear H2
  go_wp2_with fail
  refine HOP.out.mono ?_
  rintro e w5 ⟨rfl, q5, F5, A5, c5, A6, c6, A7, c7, -, hx⟩
  have HBO : Hid (Both w w5 y g 1) := Lib.hid ⟨q5, F5, _, A5, c5, A6, c6, _, A7, c7, _, hx, HP1.out⟩
  clear hx HOP HP1
  go_wp2_with fail
  go_loopw [8] (fun i wr => ∃ j : Nat, j ≤ l.length ∧ j ≤ 30 ∧ i = .int .i64 (j : Int) ∧ Both w wr y g (1 + 4 * j)) (fun i _ => l.length - (intOf i).toNat)
  case atStart => exact ⟨0, by omega, by omega, rfl, HBO.out⟩
  case round =>
    obtain ⟨j, hj1, hj2, rfl, q, F0, d0, A8, c8, A9, c9, r0, B1, e1, u0, hx0, p0⟩ := hrel
    have H5 := Lib.hid hx0
    have HP5 := Lib.hid p0
    have x1 := hx0.cells.1.2
    clear hx0 p0 HBO
    by_cases hlt : j < l.length ∧ j < 30
    · obtain ⟨h1, h2⟩ := hlt
      obtain ⟨v, hv⟩ : ∃ v, l[j]? = some v := ⟨_, List.getElem?_eq_getElem h1⟩
      have hga := HG.out v (List.mem_of_getElem? hv)
      have HGA := Lib.hid hga.few
      have HFEW := Lib.hid (few_any v hga.room hga.top hga.s)
      have hfs : v.few.s.length ≤ 1000 := by show (v.s.take 1000).length ≤ _; rw [List.length_take]; omega
      have hfk : v.few.keep.length ≤ 20 := by show (v.keep.take 10).length ≤ _; rw [List.length_take]; omega
      obtain ⟨b0', off, rfl, hb, hcc⟩ := HS.out.item encA_len (by omega) j v hv
      have HCC := Lib.hid fun a (hB : Below w.heap.size w a) => (show a.cell? ⟨b0', off + j * 4, none⟩ = some (.int .i64 v.kind) ∧ a.cell? ⟨b0', off + j * 4 + 1, none⟩ = some (.int .i64 v.n) ∧ a.cell? ⟨b0', off + j * 4 + 2, none⟩ = some (.string (txt v.s)) ∧ a.cell? ⟨b0', off + j * 4 + 3, none⟩ = some (.slice v.A v.keep.length v.cap) from
        ⟨(hB.cell (p := ⟨b0', off + j * 4, none⟩) hb).trans (by have := hcc 0 _ rfl; rwa [Nat.add_zero] at this), (hB.cell (p := ⟨b0', off + j * 4 + 1, none⟩) hb).trans (hcc 1 _ rfl), (hB.cell (p := ⟨b0', off + j * 4 + 2, none⟩) hb).trans (hcc 2 _ rfl), (hB.cell (p := ⟨b0', off + j * 4 + 3, none⟩) hb).trans (hcc 3 _ rfl)⟩)
      have hea : (encA v).toArray = #[.int .i64 v.kind, .int .i64 v.n, .string (txt v.s), .slice v.A v.keep.length v.cap] := rfl
      rw [hea] at HFEW
      have i1 : (j : Int) < (l.length : Int) := by omega
      have i2 : (j : Int) < 30 := by omega
      clear hcc hv hga hea
      generalize v.few = u at *
      have HDO := Lib.hid fun (z : World) (p m : Nat) (F : Nat → Prop) (d : D) (AL : Option Addr) (cL : Nat) (AK : Option Addr) (cK : Nat) (r : Rf) (AV : Option Addr) (cV : Nat) (ru : Rw) (h : Yx w z y g (some p) F d AL cL AK cK r AV cV ru) (P : P8 r d ru m) (hm : m ≤ 900) => does_any8 w z y g p m F d AL cL AK cK r AV cV ru u HGA.out hfs hfk h P hm
      clear hfs hfk HGA
      generalize (encA u).toArray = eu at *
      cases q with
      | none =>
        simp only [wptr] at x1
        obtain ⟨⟨x0, -⟩, -⟩ := H5.out.cells
        go_wp2_with fail
        refine H5.out.ups.mono ?_
        rintro e w6 ⟨rfl, F6, hx6⟩
        have H6 := Lib.hid hx6
        obtain ⟨⟨x0, -⟩, ⟨x2, x3, x4, x5, x6⟩, -, ⟨y2, y3, y4, y5, y6⟩⟩ := hx6.cells
        clear hx6 H5
        have HRU := Lib.hid (fun z => rup_any r0 A8 c8 A9 c9 z)
        unfold vM at HRU
        have HUS := Lib.hid (fun w' (hb : Below w6.heap.size w6 w') => H6.out.setUp hb)
        go_wp2_with fail
        refine (HRU.out _).mono ?_
        rintro e w7 ⟨rfl, hb7⟩
        have H7 := Lib.hid (HUS.out _ hb7)
        have HC7 := Lib.hid (H6.out.call hb7)
        obtain ⟨⟨x0, -⟩, ⟨x2, x3, x4, x5, x6⟩, -, ⟨y2, y3, y4, y5, y6⟩⟩ := HC7.out.cells
        clear hb7 H6 HUS HRU HC7
        go_upto_region 12 with fail
        generalize (((((w7.setCell _ _).setCell _ _).setCell _ _).setCell _ _).setCell _ _) = w8 at H7 ⊢
        clear x0 x2 x3 x4 x5 x6 y2 y3 y4 y5 y6
        have P7 := Lib.hid HP5.out.up
        have HOP := Lib.hid (bopen8 w w8 y g none F6 _ _ _ _ _ _ _ _ _ H7.out (P7.out.rok H7.out.ok (by omega)) P7.out.rel (by have := P7.out.two; omega) (P7.out.hacts (by omega)))
        have HP8 := Lib.hid (P7.out.opened (P7.out.rok H7.out.ok (by omega)))
        clear H7 P7 HP5
        go_wp2_with fail
        refine HOP.out.mono ?_
        rintro e w9 ⟨rfl, q9, F9, A10, c10, A11, c11, A12, c12, -, hx9⟩
        have H9 := Lib.hid hx9
        have HP9 := Lib.hid HP8.out
        have x1 := hx9.cells.1.2
        clear hx9 HOP HP8
        generalize (opens d0.up 1).1 = d9 at *
        generalize (Wl.Rf.opn r0.up 1).1 = r9 at *
        generalize (Wl.Rf.opn r0.up 1).2.1 = u9 at *
        cases q9 with
        | none =>
          simp only [wptr] at x1
          go_wp2_with fail
          go_roundw
          case rel => exact ⟨j + 1, by omega, by omega, by go_num, none, F9, d9, A10, c10, A11, c11, r9, A12, c12, u9, H9.out, HP9.out.more (by omega)⟩
          case measure => simp [intOf]; omega
        | some p9 =>
          simp only [wptr] at x1
          obtain ⟨z0, z1, z2, z3⟩ := HCC.out _ H9.out.below
          go_wp2_with fail
          refine (HFEW.out _).mono ?_
          rintro e wf ⟨rfl, hbf⟩
          have HF := Lib.hid (H9.out.call hbf)
          clear hbf H9 z0 z1 z2 z3 x1
          go_wp2_with fail
          refine (HDO.out wf p9 _ _ _ _ _ _ _ _ _ _ _ HF.out HP9.out (by omega)).mono ?_
          rintro e wd ⟨rfl, q2, F2, d2, A2, c2, A3, c3, r2, A4, c4, u2, hx2, p2⟩
          have H2 := Lib.hid hx2
          have P2 := Lib.hid p2
          clear hx2 p2 HF HP9 HDO HFEW HCC
          have hq : (q2 = none) ∨ ∃ p2, q2 = some p2 := by cases q2 with
            | none => exact .inl rfl
            | some p => exact .inr ⟨p, rfl⟩
          rcases hq with rfl | ⟨p2, rfl⟩
          · obtain ⟨C, hC, HCc, HCf⟩ := H2.out.class
            clear H2
            go_upto_region 17 with fail
            refine region_in C hC (by kernel_rfl) (by kernel_rfl) ?_
            iterate 32
              (refine WQ.step (fun K hK => ?_)
               go_simp
               first
                 | (refine hK _ ?_; clear hK K)
                 | (apply Exists.intro
                    refine ⟨fun x hx => ?_, hK _ ?_⟩
                    · first
                        | rfl
                        | (have HX := HCf.out _ hx
                           obtain ⟨⟨b0, b1⟩, ⟨b2, b3, b4, b5, b6⟩, ⟨b7, b8, b9, b10⟩, -⟩ := HX.cells
                           simp only [wptr] at b0 b1 b2 b3 b4 b5 b6 b7 b8 b9 b10
                           clear HX
                           go_simp
                           rfl)
                    clear hK K))
            refine WQ.nil ?_
            intro w8 hw
            have H8 := Lib.hid (HCf.out _ hw)
            clear hw hC HCc HCf C
            obtain ⟨-, ⟨x2, x3, x4, x5, x6⟩, -, -⟩ := H8.out.cells
            have HRB := Lib.hid (rbytes_any r2 (P2.out.rok H8.out.ok (by omega)) _ A2 c2 A3 c3 1 (w64 1 (by omega)) w8 H8.out.disk)
            unfold vM at HRB
            go_upto_region 19 with fail
            go_wp2_with fail
            refine HRB.out.mono ?_
            rintro e w10 ⟨rfl, hb10⟩
            have H9 := Lib.hid (H8.out.call hb10)
            clear hb10 H8 HRB x2 x3 x4 x5 x6
            cases hof : r2.off with
            | true =>
              have b_off := hof
              have HDN := Lib.hid fun x (hx : Yx w x y g (none : Option Nat) F2 d2 A2 c2 A3 c3 r2 A4 c4 u2) => hx.down P2.out.rel
              have HAC := Lib.hid fun x (hx : Yx w x y g (none : Option Nat) F2 d2 A2 c2 A3 c3 r2 A4 c4 u2) => hx.acts P2.out.rel
              rw [hof] at HDN
              obtain ⟨C, hC, HCc, HCf⟩ := H9.out.class
              clear H9
              go_upto_region 20 with fail
              refine region_in C hC (by kernel_rfl) (by kernel_rfl) ?_
              iterate 29
                (refine WQ.step (fun K hK => ?_)
                 go_simp
                 first
                   | (refine hK _ ?_; clear hK K)
                   | (apply Exists.intro
                      refine ⟨fun x hx => ?_, hK _ ?_⟩
                      · first
                          | rfl
                          | (go_at_call 20; refine (HDN.out _ (HCf.out _ hx)).mono ?_; rintro e x1 ⟨rfl, rfl⟩; exact ⟨rfl, hx⟩)
                          | (go_at_call 21; refine (HAC.out _ (HCf.out _ hx)).mono ?_; rintro e x1 ⟨rfl, rfl⟩; exact ⟨rfl, hx⟩)
                          | (have HX := HCf.out _ hx
                             obtain ⟨⟨b0, b1⟩, ⟨b2, b3, b4, b5, b6⟩, ⟨b7, b8, b9, b10⟩, -⟩ := HX.cells
                             simp only [b_off] at b0 b1 b2 b3 b4 b5 b6 b7 b8 b9 b10
                             clear HX
                             go_simp
                             rfl)
                      clear hK K))
              refine WQ.nil ?_
              intro w11 hw
              have H11 := Lib.hid (HCf.out _ hw)
              clear hw hC HCc HCf C HDN HAC
              go_wp2_with fail
              go_roundw
              case rel => exact ⟨j + 1, by omega, by omega, by go_num, none, F2, d2, A2, c2, A3, c3, r2, A4, c4, u2, H11.out, P2.out.more (by omega)⟩
              case measure => simp [intOf]; omega
            | false =>
              have b_off := hof
              have HDN := Lib.hid fun x (hx : Yx w x y g (none : Option Nat) F2 d2 A2 c2 A3 c3 r2 A4 c4 u2) => hx.down P2.out.rel
              have HAC := Lib.hid fun x (hx : Yx w x y g (none : Option Nat) F2 d2 A2 c2 A3 c3 r2 A4 c4 u2) => hx.acts P2.out.rel
              rw [hof] at HDN
              have HHA := Lib.hid fun x (hx : Yx w x y g (none : Option Nat) F2 d2 A2 c2 A3 c3 r2 A4 c4 u2) => has8 g d2 F2 r2 x hx.dsk P2.out.rel P2.out.two hof
              obtain ⟨C, hC, HCc, HCf⟩ := H9.out.class
              clear H9
              go_upto_region 20 with fail
              refine region_in C hC (by kernel_rfl) (by kernel_rfl) ?_
              iterate 29
                (refine WQ.step (fun K hK => ?_)
                 go_simp
                 first
                   | (refine hK _ ?_; clear hK K)
                   | (apply Exists.intro
                      refine ⟨fun x hx => ?_, hK _ ?_⟩
                      · first
                          | rfl
                          | (go_at_call 20; refine (HDN.out _ (HCf.out _ hx)).mono ?_; rintro e x1 ⟨rfl, rfl⟩; exact ⟨rfl, hx⟩)
                          | (go_at_call 21; refine (HAC.out _ (HCf.out _ hx)).mono ?_; rintro e x1 ⟨rfl, rfl⟩; exact ⟨rfl, hx⟩)
                          | (go_at_call 22; refine (HHA.out _ (HCf.out _ hx)).mono ?_; rintro e x1 ⟨rfl, hb⟩; exact ⟨rfl, HCc.out _ _ hx hb⟩)
                          | (have HX := HCf.out _ hx
                             obtain ⟨⟨b0, b1⟩, ⟨b2, b3, b4, b5, b6⟩, ⟨b7, b8, b9, b10⟩, -⟩ := HX.cells
                             simp only [b_off] at b0 b1 b2 b3 b4 b5 b6 b7 b8 b9 b10
                             clear HX
                             go_simp
                             rfl)
                      clear hK K))
              refine WQ.nil ?_
              intro w11 hw
              have H11 := Lib.hid (HCf.out _ hw)
              clear hw hC HCc HCf C HDN HAC HHA
              go_wp2_with fail
              go_roundw
              case rel => exact ⟨j + 1, by omega, by omega, by go_num, (none : Option Nat), F2, d2, A2, c2, A3, c3, r2, A4, c4, u2, H11.out, P2.out.more (by omega)⟩
              case measure => simp [intOf]; omega
          · have HLN := Lib.hid fun x (hx : Yx w x y g (some p2) F2 d2 A2 c2 A3 c3 r2 A4 c4 u2) => hx.len rfl
            have HSU := Lib.hid fun x (hx : Yx w x y g (some p2) F2 d2 A2 c2 A3 c3 r2 A4 c4 u2) => hx.sure rfl
            obtain ⟨C, hC, HCc, HCf⟩ := H2.out.class
            clear H2
            go_upto_region 17 with fail
            refine region_in C hC (by kernel_rfl) (by kernel_rfl) ?_
            iterate 32
              (refine WQ.step (fun K hK => ?_)
               go_simp
               first
                 | (refine hK _ ?_; clear hK K)
                 | (apply Exists.intro
                    refine ⟨fun x hx => ?_, hK _ ?_⟩
                    · first
                        | rfl
                        | (go_at_call 17; refine (HLN.out _ (HCf.out _ hx)).mono ?_; rintro e x1 ⟨rfl, rfl⟩; exact ⟨rfl, hx⟩)
                        | (go_at_call 18; refine (HSU.out _ (HCf.out _ hx)).mono ?_; rintro e x1 ⟨rfl, rfl⟩; exact ⟨rfl, hx⟩)
                        | (have HX := HCf.out _ hx
                           obtain ⟨⟨b0, b1⟩, ⟨b2, b3, b4, b5, b6⟩, ⟨b7, b8, b9, b10⟩, -⟩ := HX.cells
                           simp only [wptr] at b0 b1 b2 b3 b4 b5 b6 b7 b8 b9 b10
                           clear HX
                           go_simp
                           rfl)
                    clear hK K))
            refine WQ.nil ?_
            intro w8 hw
            have H8 := Lib.hid (HCf.out _ hw)
            clear hw hC HCc HCf C HLN HSU
            obtain ⟨-, ⟨x2, x3, x4, x5, x6⟩, -, -⟩ := H8.out.cells
            have HRB := Lib.hid (rbytes_any r2 (P2.out.rok H8.out.ok (by omega)) _ A2 c2 A3 c3 1 (w64 1 (by omega)) w8 H8.out.disk)
            unfold vM at HRB
            go_upto_region 19 with fail
            go_wp2_with fail
            refine HRB.out.mono ?_
            rintro e w10 ⟨rfl, hb10⟩
            have H9 := Lib.hid (H8.out.call hb10)
            clear hb10 H8 HRB x2 x3 x4 x5 x6
            cases hof : r2.off with
            | true =>
              have b_off := hof
              have HDN := Lib.hid fun x (hx : Yx w x y g (some p2) F2 d2 A2 c2 A3 c3 r2 A4 c4 u2) => hx.down P2.out.rel
              have HAC := Lib.hid fun x (hx : Yx w x y g (some p2) F2 d2 A2 c2 A3 c3 r2 A4 c4 u2) => hx.acts P2.out.rel
              rw [hof] at HDN
              obtain ⟨C, hC, HCc, HCf⟩ := H9.out.class
              clear H9
              go_upto_region 20 with fail
              refine region_in C hC (by kernel_rfl) (by kernel_rfl) ?_
              iterate 29
                (refine WQ.step (fun K hK => ?_)
                 go_simp
                 first
                   | (refine hK _ ?_; clear hK K)
                   | (apply Exists.intro
                      refine ⟨fun x hx => ?_, hK _ ?_⟩
                      · first
                          | rfl
                          | (go_at_call 20; refine (HDN.out _ (HCf.out _ hx)).mono ?_; rintro e x1 ⟨rfl, rfl⟩; exact ⟨rfl, hx⟩)
                          | (go_at_call 21; refine (HAC.out _ (HCf.out _ hx)).mono ?_; rintro e x1 ⟨rfl, rfl⟩; exact ⟨rfl, hx⟩)
                          | (have HX := HCf.out _ hx
                             obtain ⟨⟨b0, b1⟩, ⟨b2, b3, b4, b5, b6⟩, ⟨b7, b8, b9, b10⟩, -⟩ := HX.cells
                             simp only [b_off] at b0 b1 b2 b3 b4 b5 b6 b7 b8 b9 b10
                             clear HX
                             go_simp
                             rfl)
                      clear hK K))
              refine WQ.nil ?_
              intro w11 hw
              have H11 := Lib.hid (HCf.out _ hw)
              clear hw hC HCc HCf C HDN HAC
              go_wp2_with fail
              go_roundw
              case rel => exact ⟨j + 1, by omega, by omega, by go_num, (some p2), F2, d2, A2, c2, A3, c3, r2, A4, c4, u2, H11.out, P2.out.more (by omega)⟩
              case measure => simp [intOf]; omega
            | false =>
              have b_off := hof
              have HDN := Lib.hid fun x (hx : Yx w x y g (some p2) F2 d2 A2 c2 A3 c3 r2 A4 c4 u2) => hx.down P2.out.rel
              have HAC := Lib.hid fun x (hx : Yx w x y g (some p2) F2 d2 A2 c2 A3 c3 r2 A4 c4 u2) => hx.acts P2.out.rel
              rw [hof] at HDN
              have HHA := Lib.hid fun x (hx : Yx w x y g (some p2) F2 d2 A2 c2 A3 c3 r2 A4 c4 u2) => has8 g d2 F2 r2 x hx.dsk P2.out.rel P2.out.two hof
              obtain ⟨C, hC, HCc, HCf⟩ := H9.out.class
              clear H9
              go_upto_region 20 with fail
              refine region_in C hC (by kernel_rfl) (by kernel_rfl) ?_
              iterate 29
                (refine WQ.step (fun K hK => ?_)
                 go_simp
                 first
                   | (refine hK _ ?_; clear hK K)
                   | (apply Exists.intro
                      refine ⟨fun x hx => ?_, hK _ ?_⟩
                      · first
                          | rfl
                          | (go_at_call 20; refine (HDN.out _ (HCf.out _ hx)).mono ?_; rintro e x1 ⟨rfl, rfl⟩; exact ⟨rfl, hx⟩)
                          | (go_at_call 21; refine (HAC.out _ (HCf.out _ hx)).mono ?_; rintro e x1 ⟨rfl, rfl⟩; exact ⟨rfl, hx⟩)
                          | (go_at_call 22; refine (HHA.out _ (HCf.out _ hx)).mono ?_; rintro e x1 ⟨rfl, hb⟩; exact ⟨rfl, HCc.out _ _ hx hb⟩)
                          | (have HX := HCf.out _ hx
                             obtain ⟨⟨b0, b1⟩, ⟨b2, b3, b4, b5, b6⟩, ⟨b7, b8, b9, b10⟩, -⟩ := HX.cells
                             simp only [b_off] at b0 b1 b2 b3 b4 b5 b6 b7 b8 b9 b10
                             clear HX
                             go_simp
                             rfl)
                      clear hK K))
              refine WQ.nil ?_
              intro w11 hw
              have H11 := Lib.hid (HCf.out _ hw)
              clear hw hC HCc HCf C HDN HAC HHA
              go_wp2_with fail
              go_roundw
              case rel => exact ⟨j + 1, by omega, by omega, by go_num, (some p2), F2, d2, A2, c2, A3, c3, r2, A4, c4, u2, H11.out, P2.out.more (by omega)⟩
              case measure => simp [intOf]; omega
      | some p0 =>
        simp only [wptr] at x1
        obtain ⟨z0, z1, z2, z3⟩ := HCC.out _ H5.out.below
        go_wp2_with fail
        refine (HFEW.out _).mono ?_
        rintro e wf ⟨rfl, hbf⟩
        have HF := Lib.hid (H5.out.call hbf)
        clear hbf H5 z0 z1 z2 z3 x1
        go_wp2_with fail
        refine (HDO.out wf p0 _ _ _ _ _ _ _ _ _ _ _ HF.out HP5.out (by omega)).mono ?_
        rintro e wd ⟨rfl, q2, F2, d2, A2, c2, A3, c3, r2, A4, c4, u2, hx2, p2⟩
        have H2 := Lib.hid hx2
        have P2 := Lib.hid p2
        clear hx2 p2 HF HP5 HDO HFEW HCC
        have hq : (q2 = none) ∨ ∃ p2, q2 = some p2 := by cases q2 with
          | none => exact .inl rfl
          | some p => exact .inr ⟨p, rfl⟩
        rcases hq with rfl | ⟨p2, rfl⟩
        · obtain ⟨C, hC, HCc, HCf⟩ := H2.out.class
          clear H2
          go_upto_region 17 with fail
          refine region_in C hC (by kernel_rfl) (by kernel_rfl) ?_
          iterate 32
            (refine WQ.step (fun K hK => ?_)
             go_simp
             first
               | (refine hK _ ?_; clear hK K)
               | (apply Exists.intro
                  refine ⟨fun x hx => ?_, hK _ ?_⟩
                  · first
                      | rfl
                      | (have HX := HCf.out _ hx
                         obtain ⟨⟨b0, b1⟩, ⟨b2, b3, b4, b5, b6⟩, ⟨b7, b8, b9, b10⟩, -⟩ := HX.cells
                         simp only [wptr] at b0 b1 b2 b3 b4 b5 b6 b7 b8 b9 b10
                         clear HX
                         go_simp
                         rfl)
                  clear hK K))
          refine WQ.nil ?_
          intro w8 hw
          have H8 := Lib.hid (HCf.out _ hw)
          clear hw hC HCc HCf C
          obtain ⟨-, ⟨x2, x3, x4, x5, x6⟩, -, -⟩ := H8.out.cells
          have HRB := Lib.hid (rbytes_any r2 (P2.out.rok H8.out.ok (by omega)) _ A2 c2 A3 c3 1 (w64 1 (by omega)) w8 H8.out.disk)
          unfold vM at HRB
          go_upto_region 19 with fail
          go_wp2_with fail
          refine HRB.out.mono ?_
          rintro e w10 ⟨rfl, hb10⟩
          have H9 := Lib.hid (H8.out.call hb10)
          clear hb10 H8 HRB x2 x3 x4 x5 x6
          cases hof : r2.off with
          | true =>
            have b_off := hof
            have HDN := Lib.hid fun x (hx : Yx w x y g (none : Option Nat) F2 d2 A2 c2 A3 c3 r2 A4 c4 u2) => hx.down P2.out.rel
            have HAC := Lib.hid fun x (hx : Yx w x y g (none : Option Nat) F2 d2 A2 c2 A3 c3 r2 A4 c4 u2) => hx.acts P2.out.rel
            rw [hof] at HDN
            obtain ⟨C, hC, HCc, HCf⟩ := H9.out.class
            clear H9
            go_upto_region 20 with fail
            refine region_in C hC (by kernel_rfl) (by kernel_rfl) ?_
            iterate 29
              (refine WQ.step (fun K hK => ?_)
               go_simp
               first
                 | (refine hK _ ?_; clear hK K)
                 | (apply Exists.intro
                    refine ⟨fun x hx => ?_, hK _ ?_⟩
                    · first
                        | rfl
                        | (go_at_call 20; refine (HDN.out _ (HCf.out _ hx)).mono ?_; rintro e x1 ⟨rfl, rfl⟩; exact ⟨rfl, hx⟩)
                        | (go_at_call 21; refine (HAC.out _ (HCf.out _ hx)).mono ?_; rintro e x1 ⟨rfl, rfl⟩; exact ⟨rfl, hx⟩)
                        | (have HX := HCf.out _ hx
                           obtain ⟨⟨b0, b1⟩, ⟨b2, b3, b4, b5, b6⟩, ⟨b7, b8, b9, b10⟩, -⟩ := HX.cells
                           simp only [b_off] at b0 b1 b2 b3 b4 b5 b6 b7 b8 b9 b10
                           clear HX
                           go_simp
                           rfl)
                    clear hK K))
            refine WQ.nil ?_
            intro w11 hw
            have H11 := Lib.hid (HCf.out _ hw)
            clear hw hC HCc HCf C HDN HAC
            go_wp2_with fail
            go_roundw
            case rel => exact ⟨j + 1, by omega, by omega, by go_num, none, F2, d2, A2, c2, A3, c3, r2, A4, c4, u2, H11.out, P2.out.more (by omega)⟩
            case measure => simp [intOf]; omega
          | false =>
            have b_off := hof
            have HDN := Lib.hid fun x (hx : Yx w x y g (none : Option Nat) F2 d2 A2 c2 A3 c3 r2 A4 c4 u2) => hx.down P2.out.rel
            have HAC := Lib.hid fun x (hx : Yx w x y g (none : Option Nat) F2 d2 A2 c2 A3 c3 r2 A4 c4 u2) => hx.acts P2.out.rel
            rw [hof] at HDN
            have HHA := Lib.hid fun x (hx : Yx w x y g (none : Option Nat) F2 d2 A2 c2 A3 c3 r2 A4 c4 u2) => has8 g d2 F2 r2 x hx.dsk P2.out.rel P2.out.two hof
            obtain ⟨C, hC, HCc, HCf⟩ := H9.out.class
            clear H9
            go_upto_region 20 with fail
            refine region_in C hC (by kernel_rfl) (by kernel_rfl) ?_
            iterate 29
              (refine WQ.step (fun K hK => ?_)
               go_simp
               first
                 | (refine hK _ ?_; clear hK K)
                 | (apply Exists.intro
                    refine ⟨fun x hx => ?_, hK _ ?_⟩
                    · first
                        | rfl
                        | (go_at_call 20; refine (HDN.out _ (HCf.out _ hx)).mono ?_; rintro e x1 ⟨rfl, rfl⟩; exact ⟨rfl, hx⟩)
                        | (go_at_call 21; refine (HAC.out _ (HCf.out _ hx)).mono ?_; rintro e x1 ⟨rfl, rfl⟩; exact ⟨rfl, hx⟩)
                        | (go_at_call 22; refine (HHA.out _ (HCf.out _ hx)).mono ?_; rintro e x1 ⟨rfl, hb⟩; exact ⟨rfl, HCc.out _ _ hx hb⟩)
                        | (have HX := HCf.out _ hx
                           obtain ⟨⟨b0, b1⟩, ⟨b2, b3, b4, b5, b6⟩, ⟨b7, b8, b9, b10⟩, -⟩ := HX.cells
                           simp only [b_off] at b0 b1 b2 b3 b4 b5 b6 b7 b8 b9 b10
                           clear HX
                           go_simp
                           rfl)
                    clear hK K))
            refine WQ.nil ?_
            intro w11 hw
            have H11 := Lib.hid (HCf.out _ hw)
            clear hw hC HCc HCf C HDN HAC HHA
            go_wp2_with fail
            go_roundw
            case rel => exact ⟨j + 1, by omega, by omega, by go_num, (none : Option Nat), F2, d2, A2, c2, A3, c3, r2, A4, c4, u2, H11.out, P2.out.more (by omega)⟩
            case measure => simp [intOf]; omega
        · have HLN := Lib.hid fun x (hx : Yx w x y g (some p2) F2 d2 A2 c2 A3 c3 r2 A4 c4 u2) => hx.len rfl
          have HSU := Lib.hid fun x (hx : Yx w x y g (some p2) F2 d2 A2 c2 A3 c3 r2 A4 c4 u2) => hx.sure rfl
          obtain ⟨C, hC, HCc, HCf⟩ := H2.out.class
          clear H2
          go_upto_region 17 with fail
          refine region_in C hC (by kernel_rfl) (by kernel_rfl) ?_
          iterate 32
            (refine WQ.step (fun K hK => ?_)
             go_simp
             first
               | (refine hK _ ?_; clear hK K)
               | (apply Exists.intro
                  refine ⟨fun x hx => ?_, hK _ ?_⟩
                  · first
                      | rfl
                      | (go_at_call 17; refine (HLN.out _ (HCf.out _ hx)).mono ?_; rintro e x1 ⟨rfl, rfl⟩; exact ⟨rfl, hx⟩)
                      | (go_at_call 18; refine (HSU.out _ (HCf.out _ hx)).mono ?_; rintro e x1 ⟨rfl, rfl⟩; exact ⟨rfl, hx⟩)
                      | (have HX := HCf.out _ hx
                         obtain ⟨⟨b0, b1⟩, ⟨b2, b3, b4, b5, b6⟩, ⟨b7, b8, b9, b10⟩, -⟩ := HX.cells
                         simp only [wptr] at b0 b1 b2 b3 b4 b5 b6 b7 b8 b9 b10
                         clear HX
                         go_simp
                         rfl)
                  clear hK K))
          refine WQ.nil ?_
          intro w8 hw
          have H8 := Lib.hid (HCf.out _ hw)
          clear hw hC HCc HCf C HLN HSU
          obtain ⟨-, ⟨x2, x3, x4, x5, x6⟩, -, -⟩ := H8.out.cells
          have HRB := Lib.hid (rbytes_any r2 (P2.out.rok H8.out.ok (by omega)) _ A2 c2 A3 c3 1 (w64 1 (by omega)) w8 H8.out.disk)
          unfold vM at HRB
          go_upto_region 19 with fail
          go_wp2_with fail
          refine HRB.out.mono ?_
          rintro e w10 ⟨rfl, hb10⟩
          have H9 := Lib.hid (H8.out.call hb10)
          clear hb10 H8 HRB x2 x3 x4 x5 x6
          cases hof : r2.off with
          | true =>
            have b_off := hof
            have HDN := Lib.hid fun x (hx : Yx w x y g (some p2) F2 d2 A2 c2 A3 c3 r2 A4 c4 u2) => hx.down P2.out.rel
            have HAC := Lib.hid fun x (hx : Yx w x y g (some p2) F2 d2 A2 c2 A3 c3 r2 A4 c4 u2) => hx.acts P2.out.rel
            rw [hof] at HDN
            obtain ⟨C, hC, HCc, HCf⟩ := H9.out.class
            clear H9
            go_upto_region 20 with fail
            refine region_in C hC (by kernel_rfl) (by kernel_rfl) ?_
            iterate 29
              (refine WQ.step (fun K hK => ?_)
               go_simp
               first
                 | (refine hK _ ?_; clear hK K)
                 | (apply Exists.intro
                    refine ⟨fun x hx => ?_, hK _ ?_⟩
                    · first
                        | rfl
                        | (go_at_call 20; refine (HDN.out _ (HCf.out _ hx)).mono ?_; rintro e x1 ⟨rfl, rfl⟩; exact ⟨rfl, hx⟩)
                        | (go_at_call 21; refine (HAC.out _ (HCf.out _ hx)).mono ?_; rintro e x1 ⟨rfl, rfl⟩; exact ⟨rfl, hx⟩)
                        | (have HX := HCf.out _ hx
                           obtain ⟨⟨b0, b1⟩, ⟨b2, b3, b4, b5, b6⟩, ⟨b7, b8, b9, b10⟩, -⟩ := HX.cells
                           simp only [b_off] at b0 b1 b2 b3 b4 b5 b6 b7 b8 b9 b10
                           clear HX
                           go_simp
                           rfl)
                    clear hK K))
            refine WQ.nil ?_
            intro w11 hw
            have H11 := Lib.hid (HCf.out _ hw)
            clear hw hC HCc HCf C HDN HAC
            go_wp2_with fail
            go_roundw
            case rel => exact ⟨j + 1, by omega, by omega, by go_num, (some p2), F2, d2, A2, c2, A3, c3, r2, A4, c4, u2, H11.out, P2.out.more (by omega)⟩
            case measure => simp [intOf]; omega
          | false =>
            have b_off := hof
            have HDN := Lib.hid fun x (hx : Yx w x y g (some p2) F2 d2 A2 c2 A3 c3 r2 A4 c4 u2) => hx.down P2.out.rel
            have HAC := Lib.hid fun x (hx : Yx w x y g (some p2) F2 d2 A2 c2 A3 c3 r2 A4 c4 u2) => hx.acts P2.out.rel
            rw [hof] at HDN
            have HHA := Lib.hid fun x (hx : Yx w x y g (some p2) F2 d2 A2 c2 A3 c3 r2 A4 c4 u2) => has8 g d2 F2 r2 x hx.dsk P2.out.rel P2.out.two hof
            obtain ⟨C, hC, HCc, HCf⟩ := H9.out.class
            clear H9
            go_upto_region 20 with fail
            refine region_in C hC (by kernel_rfl) (by kernel_rfl) ?_
            iterate 29
              (refine WQ.step (fun K hK => ?_)
               go_simp
               first
                 | (refine hK _ ?_; clear hK K)
                 | (apply Exists.intro
                    refine ⟨fun x hx => ?_, hK _ ?_⟩
                    · first
                        | rfl
                        | (go_at_call 20; refine (HDN.out _ (HCf.out _ hx)).mono ?_; rintro e x1 ⟨rfl, rfl⟩; exact ⟨rfl, hx⟩)
                        | (go_at_call 21; refine (HAC.out _ (HCf.out _ hx)).mono ?_; rintro e x1 ⟨rfl, rfl⟩; exact ⟨rfl, hx⟩)
                        | (go_at_call 22; refine (HHA.out _ (HCf.out _ hx)).mono ?_; rintro e x1 ⟨rfl, hb⟩; exact ⟨rfl, HCc.out _ _ hx hb⟩)
                        | (have HX := HCf.out _ hx
                           obtain ⟨⟨b0, b1⟩, ⟨b2, b3, b4, b5, b6⟩, ⟨b7, b8, b9, b10⟩, -⟩ := HX.cells
                           simp only [b_off] at b0 b1 b2 b3 b4 b5 b6 b7 b8 b9 b10
                           clear HX
                           go_simp
                           rfl)
                    clear hK K))
            refine WQ.nil ?_
            intro w11 hw
            have H11 := Lib.hid (HCf.out _ hw)
            clear hw hC HCc HCf C HDN HAC HHA
            go_wp2_with fail
            go_roundw
            case rel => exact ⟨j + 1, by omega, by omega, by go_num, (some p2), F2, d2, A2, c2, A3, c3, r2, A4, c4, u2, H11.out, P2.out.more (by omega)⟩
            case measure => simp [intOf]; omega
    · have hend : j = l.length ∨ (j < l.length ∧ j = 30) := by omega
      rcases hend with rfl | ⟨h1, rfl⟩
      · go_wp2_with fail
        go_ret
        exact ⟨rfl, H5.out.below⟩
      · have g1 : ((30 : Nat) : Int) < (l.length : Int) := by omega
        go_wp2_with fail
        go_ret
        exact ⟨rfl, H5.out.below⟩
end Go.Proofs.Ytlfigbgcackimaa
