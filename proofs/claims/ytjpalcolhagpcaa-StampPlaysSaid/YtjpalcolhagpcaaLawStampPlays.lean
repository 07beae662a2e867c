/- Whatever a source is asked for and told, its stamps are the document's; for every input, without conditions (of more calls the first 40 are made, of more numbers the first 50 told). -/
import Derived.Test.YtjpalcolhagpcaaStmpP
namespace Go.Proofs.Ytjpalcolhagpcaa.stampPlays
open Go.ChangeShapes Go.WideShapes Go.ChangeAt Go.RowKit Go.Sp Go.Fl Go.Ck Go.Tp
set_option linter.unusedVariables false
set_option linter.unusedSimpArgs false

set_option maxHeartbeats 16000000 in
set_option maxRecDepth 100000 in
theorem walk (A : Option Addr) (len cap : Nat) (l : List Cl10) (w : World) (hL : IsR w A len cap 5 encC (GC w) l) :
    Calls Try.prog 3 #[.slice A len cap] w fun r w' => r = .returned (.bool true) ∧ Below w.heap.size w w' := by
  obtain ⟨hlen, hs, hc1, hc2, hnil, hg⟩ := hL
  subst hlen
  have HS := Lib.hid hs
  have HG := Lib.hid hg
  clear hs hg hnil
  go_enter Try.func3, Try.ntmps3
  go_wp2_with fail
  refine (snew_at _ w.heap.size rfl).mono ?_
  rintro r w1 ⟨rfl, hb1, k1⟩
  have H : Hid (Lg w w1 [] w.heap.size 0) := Lib.hid ⟨(St.start w).call hb1, k1, Nat.le_refl _, fun r hr => by cases hr⟩
  clear hb1 k1
  go_wp2_with fail
  refine (sawake_any _).mono ?_
  rintro r w2 ⟨rfl, hb1⟩
  replace H := Lib.hid (H.out.call hb1)
  clear hb1
  go_wp2_with fail
  go_loopw [4, 5] (fun mv i wr => ∃ (n : Nat) (m : List Int) (Am : Option Addr) (M cm : Nat), n ≤ l.length ∧ n ≤ 40 ∧ i = .int .i64 (n : Int) ∧ mv = .slice Am M cm ∧ M = m.length ∧ m.length ≤ n ∧ (0 ≤ top 0 m ∧ top 0 m ≤ 1125899906842624) ∧ Rf wr w.heap.size Am cm m ∧ Lg w wr [] w.heap.size (top 0 m)) (fun _ i _ => l.length - (intOf i).toNat)
  case atStart => exact ⟨0, [], none, 0, 0, by omega, by omega, rfl, rfl, rfl, by simp, by rw [top_nil]; omega, Rf.none _ _, H.out⟩
  case round =>
    obtain ⟨n, m, Am, M, cm, hn1, hn2, rfl, rfl, hM, hmn, hK, hrf, hl⟩ := hrel
    have HL1 := Lib.hid hl
    have HRF := Lib.hid hrf
    have HM := Lib.hid hM
    clear hl H hrf hM
    by_cases hlt : n < l.length ∧ n < 40
    · obtain ⟨h1, h2⟩ := hlt
      obtain ⟨v, hv⟩ : ∃ v, l[n]? = some v := ⟨_, List.getElem?_eq_getElem h1⟩
      have gv := HG.out v (List.mem_of_getElem? hv)
      obtain ⟨b0, off, rfl, hb, hcc⟩ := (HS.out.below HL1.out.st.below).item encC_len (by omega) n v hv
      obtain ⟨k, t, lo, ub, A1, c1, ab⟩ := v
      obtain ⟨gk, gt, glo, ghi, grow⟩ := gv
      simp only at gk gt glo ghi grow
      obtain ⟨ab2, hle, hrw, hf⟩ := few_of grow
      have HRW := Lib.hid hrw
      have q0 := hcc 0 _ rfl
      have q1 := hcc 1 _ rfl
      have q2 := hcc 2 _ rfl
      have q3 := hcc 3 _ rfl
      have q4 := hcc 4 _ rfl
      rw [Nat.add_zero] at q0
      simp only at q0 q1 q2 q3 q4
      have i1 : (n : Int) < (l.length : Int) := by omega
      have i2 : (n : Int) < 40 := by omega
      have i3 : (n : Int) ≤ 39 := by omega
      have hroom := grow.room
      have htop := grow.top
      have HLA := Lib.hid (HL1.out.alloc wr.heap.size rfl 30 #[.int .i64 k, .int .i64 t, .int .i64 lo, .int .i64 ub, .slice A1 ab.length c1])
      have hwr := HL1.out.st.below.size
      have HLT := Lib.hid HL1.out.src.lt
      by_cases hk0 : k = 0
      case neg =>
        have hKN := Lib.hid (fun w0 (h : Src w0 w.heap.size (top 0 m)) => keep_any w.heap.size (top 0 m) t w0 h)
        have hRK := Lib.hid (fun w0 (hr : Rw w0 Am cm m) => rkeep_any Am cm m t w0 hr (by omega))
        rw [← HM.out] at hRK
        have hrng := Lib.hid (keepN_range (top 0 m) t hK)
        have hlen := Lib.hid (kept_len m t)
        rw [← kept_top m t] at hKN hrng
        clear HRW grow hrw hcc hv glo ghi hK
        generalize keepE t = E at *
        generalize kept m t = m2 at *
        generalize top 0 m = K at *
        rcases hf with ⟨f1, rfl⟩ | ⟨f1, f2, b1, o1, rfl⟩
        case' inl => have f3 : (ab2.length : Int) ≤ 50 := by omega
        case' inl => have HL2 := Lib.hid HLA.out
        case' inl => have HR2 := Lib.hid (HRF.out.call (w' := wr.alloc (.cells #[.int .i64 k, .int .i64 t, .int .i64 lo, .int .i64 ub, .slice A1 ab2.length c1] 30)) ((Below.refl _ _).alloc (Nat.le_refl _) _))
        case' inr => have f3 : 50 < (ab.length : Int) := by omega
        case' inr => have HL2 := Lib.hid (HL1.out.alloc wr.heap.size rfl 30 #[.int .i64 k, .int .i64 t, .int .i64 lo, .int .i64 ub, .slice (some ⟨b1, o1, none⟩) 50 c1])
        case' inr => have HR2 := Lib.hid (HRF.out.call (w' := wr.alloc (.cells #[.int .i64 k, .int .i64 t, .int .i64 lo, .int .i64 ub, .slice (some ⟨b1, o1, none⟩) 50 c1] 30)) ((Below.refl _ _).alloc (Nat.le_refl _) _))
        all_goals
          clear HLA
          go_wp2_with fail
          refine (hRK.out _ HR2.out.row).mono ?_
          rintro r w3 ⟨Am2, cm2, rfl, hb1, hr1, hA⟩
          replace HR2 := Lib.hid (HR2.out.next hb1 HL2.out.src.lt hr1 hA)
          replace HL2 := Lib.hid (HL2.out.call hb1)
          clear hb1 hr1 hA
          obtain ⟨p0, p1, p2, p3, p4, pf, pl⟩ := whole_five (HL2.out.st.knows.at 0 rfl)
          go_wp2_with fail
          refine (hKN.out _ HL2.out.src).mono ?_
          rintro r w4 ⟨rfl, hb1, k1⟩
          replace HL2 := Lib.hid (HL2.out.turn hb1 k1)
          replace HR2 := Lib.hid (HR2.out.but hb1)
          clear hb1 k1 p0 p1 p2 p3 p4 pf pl
          go_wp2_with fail
          refine (last_any _ _ _ HL2.out.src).mono ?_
          rintro r w5 ⟨rfl, e5⟩
          subst w5
          go_wp2_with fail
          refine (rlast_any Am2 cm2 m2 _ HR2.out.row).mono ?_
          rintro r w5 ⟨rfl, e5⟩
          subst w5
          go_wp2_with fail
          go_roundw
          case rel => exact ⟨n + 1, m2, Am2, _, cm2, by omega, by omega, by go_num, rfl, rfl, by have := hlen.out; omega, hrng.out, HR2.out, HL2.out.few (fun r hr => by cases hr)⟩
          case measure => simp [intOf]; omega
      case pos =>
        subst hk0
        have hNX := Lib.hid (fun w0 (A9 : Option Addr) (N c9 : Nat) (hN : N = ab2.length) (h : Src w0 w.heap.size (top 0 m)) (hr : Rw w0 A9 c9 ab2) => next_anyL w.heap.size (top 0 m) lo ub hK glo ghi A9 c9 ab2 w0 N hN h hr)
        have hRN := Lib.hid (fun w0 (N : Nat) (hN : N = ab2.length) (hr : Rw w0 Am cm m) (hr' : Rw w0 A1 c1 ab2) => rnext_anyL Am cm m lo ub A1 c1 ab2 w0 M N HM.out hN hr (by omega) hr' (by omega))
        have hrng := Lib.hid (nextN_range (top 0 m) lo ub ab2 hK)
        have hlen := Lib.hid (given_len m lo ub ab2)
        rw [← given_top m lo ub ab2] at hNX hrng
        have hnil := Lib.hid grow.nil
        clear grow hrw hcc hv glo ghi hK
        generalize nextE (top 0 m) lo ub ab2 = E at *
        generalize nextV (top 0 m) lo ub ab2 = V at *
        generalize given m lo ub ab2 = m2 at *
        generalize top 0 m = K at *
        rcases hf with ⟨f1, hab⟩ | ⟨f1, f2, b1, o1, rfl⟩
        case' inl => have f3 : (ab.length : Int) ≤ 50 := by omega
        case' inl => have HL2 := Lib.hid HLA.out
        case' inl => have HN := Lib.hid (show ab.length = ab2.length by rw [hab])
        case' inl => have HR2 := Lib.hid (HRF.out.call (w' := wr.alloc (.cells #[.int .i64 0, .int .i64 t, .int .i64 lo, .int .i64 ub, .slice A1 ab.length c1] 30)) ((Below.refl _ _).alloc (Nat.le_refl _) _))
        case' inr => have f3 : 50 < (ab.length : Int) := by omega
        case' inr => have HL2 := Lib.hid (HL1.out.alloc wr.heap.size rfl 30 #[.int .i64 0, .int .i64 t, .int .i64 lo, .int .i64 ub, .slice (some ⟨b1, o1, none⟩) 50 c1])
        case' inr => have HN := Lib.hid (show 50 = ab2.length from f2.symm)
        case' inr => have HR2 := Lib.hid (HRF.out.call (w' := wr.alloc (.cells #[.int .i64 0, .int .i64 t, .int .i64 lo, .int .i64 ub, .slice (some ⟨b1, o1, none⟩) 50 c1] 30)) ((Below.refl _ _).alloc (Nat.le_refl _) _))
        all_goals clear HLA
        case inl =>
          go_wp2_with fail
          refine Iv.region (fun fl aa y => ∃ p0 v1, aa = ⟨#[.slice (some ⟨b0, off, none⟩) l.length cap, undef, u2, ptr w.heap.size, .slice Am M cm, .int .i64 (n : Int), .pointer (some ⟨wr.heap.size, 0, none⟩), so (fl 11) (.int .i64 V) u7, so (fl 12) (.int .i64 E) u8, u9, u10, u11, u12, u13, ptr w.heap.size, .bool true, .bool false, .bool false, ptr w.heap.size, .bool false, .bool false, .int .i64 (n : Int), .slice (some ⟨b0, off, none⟩) l.length cap, .int .i64 (l.length : Int), .bool true, .bool true, .int .i64 (n : Int), .bool true, .bool true, u29, u30, .slice (some ⟨b0, off, none⟩) l.length cap, .int .i64 (n : Int), .pointer (some ⟨b0, off + n * 5, none⟩), .agg #[.int .i64 0, .int .i64 t, .int .i64 lo, .int .i64 ub, .slice A1 ab.length c1], .pointer (some ⟨wr.heap.size, 4, none⟩), .slice A1 ab.length c1, .int .i64 (ab.length : Int), .bool (decide (50 < (ab.length : Int))), u39, u40, u41, u42, .pointer (some ⟨wr.heap.size, 0, none⟩), .int .i64 0, .bool true, so (fl 8) (Value.tuple #[.int .i64 V, .int .i64 E]) u46, so (fl 0) (ptr w.heap.size) u47, so (fl 1) (.pointer (some ⟨wr.heap.size, 2, none⟩)) u48, so (fl 2) (.agg #[.int .i64 lo, .int .i64 ub]) u49, so (fl 3) (.slice (some ⟨p0, 0, none⟩) 0 0) u50, so (fl 4) (.pointer (some ⟨wr.heap.size, 4, none⟩)) u51, so (fl 5) (.slice A1 ab.length c1) u52, so (fl 6) (v1) u53, so (fl 7) (Value.tuple #[.int .i64 V, .int .i64 E]) u54, so (fl 9) (.int .i64 V) u55, so (fl 10) (.int .i64 E) u56, u57, u58, u59, u60, u61, u62, u63, u64, u65, u66, u67, u68, u69, u70, u71, u72, u73, u74, u75, u76, u77, u78, u79, u80, u81, u82, u83, u84, u85, u86, u87, u88, u89, u90, u91, u92, u93, u94], []⟩ ∧ Ah w y [(wr.heap.size, 30, #[.int .i64 0, .int .i64 t, .int .i64 lo, .int .i64 ub, .slice A1 ab.length c1])] (wr.heap.size + 1) w.heap.size K (top 0 m2) Am cm m p0 v1 ab.length ab2 (fl 3) (fl 6) (fl 7)) (by kernel_rfl) (by kernel_rfl) ?_ ?_ ?_
          · exact ⟨0, undef, rfl, Ah.start (HL2.out.drewN 1) (HR2.out.call (drew_below _ 1)) (by simp) 0 undef _ ab2 _⟩
          · refine ⟨?_, ?_, ?_, ?_, ?_, ?_, ?_, ?_, ?_, ?_, ?_, ?_, ?_, trivial⟩
            · rintro fl a0 y Q' ⟨p0, v1, rfl, hw⟩ hi hd hQ
              replace hQ := Lib.hid hQ
              simp [Iv.depsB, Region.binds] at hd
              try simp only [hi, hd, sl_true, sl_false, so_true, so_false]
              try simp only [hi, sl_true, sl_false, so_true, so_false]
              go_wp2_with fail
              refine hQ.out _ _ ⟨p0, v1, ?_, ?_⟩
              · simp [Iv.upd, hi, hd, sl_true, sl_false, so_true, so_false]
              · simpa [Iv.upd, hi, hd] using hw
            · rintro fl a0 y Q' ⟨p0, v1, rfl, hw⟩ hi hd hQ
              replace hQ := Lib.hid hQ
              simp [Iv.depsB, Region.binds] at hd
              try simp only [hi, hd, sl_true, sl_false, so_true, so_false]
              try simp only [hi, sl_true, sl_false, so_true, so_false]
              go_wp2_with fail
              refine hQ.out _ _ ⟨p0, v1, ?_, ?_⟩
              · simp [Iv.upd, hi, hd, sl_true, sl_false, so_true, so_false]
              · simpa [Iv.upd, hi, hd] using hw
            · rintro fl a0 y Q' ⟨p0, v1, rfl, hw⟩ hi hd hQ
              replace hQ := Lib.hid hQ
              simp [Iv.depsB, Region.binds] at hd
              try simp only [hi, hd, sl_true, sl_false, so_true, so_false]
              try simp only [hi, sl_true, sl_false, so_true, so_false]
              obtain ⟨p0', p1, p2, p3, p4, pf, pl⟩ := whole_five (hw.lg.st.knows.at 0 rfl)
              go_wp2_with fail
              refine hQ.out _ _ ⟨p0, v1, ?_, ?_⟩
              · simp [Iv.upd, hi, hd, sl_true, sl_false, so_true, so_false]
              · simpa [Iv.upd, hi, hd] using hw
            · rintro fl a0 y Q' ⟨p0, v1, rfl, hw⟩ hi hd hQ
              replace hQ := Lib.hid hQ
              simp [Iv.depsB, Region.binds] at hd
              try simp only [hi, hd, sl_true, sl_false, so_true, so_false]
              try simp only [hi, sl_true, sl_false, so_true, so_false]
              have hw2 := hw
              rw [hi] at hw2
              go_wp2_with fail
              refine hQ.out _ _ ⟨y.heap.size, v1, ?_, ?_⟩
              · simp [Iv.upd, hi, hd, sl_true, sl_false, so_true, so_false]
              · simpa [Iv.upd, hi, hd] using hw2.made
            · rintro fl a0 y Q' ⟨p0, v1, rfl, hw⟩ hi hd hQ
              replace hQ := Lib.hid hQ
              simp [Iv.depsB, Region.binds] at hd
              try simp only [hi, hd, sl_true, sl_false, so_true, so_false]
              try simp only [hi, sl_true, sl_false, so_true, so_false]
              go_wp2_with fail
              refine hQ.out _ _ ⟨p0, v1, ?_, ?_⟩
              · simp [Iv.upd, hi, hd, sl_true, sl_false, so_true, so_false]
              · simpa [Iv.upd, hi, hd] using hw
            · rintro fl a0 y Q' ⟨p0, v1, rfl, hw⟩ hi hd hQ
              replace hQ := Lib.hid hQ
              simp [Iv.depsB, Region.binds] at hd
              try simp only [hi, hd, sl_true, sl_false, so_true, so_false]
              try simp only [hi, sl_true, sl_false, so_true, so_false]
              obtain ⟨p0', p1, p2, p3, p4, pf, pl⟩ := whole_five (hw.lg.st.knows.at 0 rfl)
              go_wp2_with fail
              refine hQ.out _ _ ⟨p0, v1, ?_, ?_⟩
              · simp [Iv.upd, hi, hd, sl_true, sl_false, so_true, so_false]
              · simpa [Iv.upd, hi, hd] using hw
            · rintro fl a0 y Q' ⟨p0, v1, rfl, hw⟩ hi hd hQ
              replace hQ := Lib.hid hQ
              simp [Iv.depsB, Region.binds] at hd
              try simp only [hi, hd, sl_true, sl_false, so_true, so_false]
              try simp only [hi, sl_true, sl_false, so_true, so_false]
              have ea : fl 3 = true := by simp [hd]
              have eb : fl 5 = true := by simp [hd]
              have hw2 := hw
              rw [hi, ea] at hw2
              have HW2 := Lib.hid hw2
              clear hw2
              try simp only [ea, eb, so_true, so_false]
              have HSE := Lib.hid (show Sees y w.heap.size 1 _ ab.length (ints ab2) from by have h0 := HRW.out.sees.below HW2.out.lg.st.below; rw [← HN.out] at h0; exact h0)
              refine wpList_appG rfl (.tmp 50) (.tmp 52) _ 2 _ 1 8 rfl info_i64 Try.underlying26 rfl (by decide) (wr.heap.size + 1) _ 0 [] rfl (HW2.out.own0 rfl rfl) w.heap.size _ _ c1 (ints ab2) rfl HSE.out hnil.out (ints_one ab2) (by omega) (by omega) HW2.out.low.2.1 ?_
              intro vn yn ho hg
              try rw [Nat.zero_add] at ho
              try rw [List.nil_append] at ho
              go_wp2_with fail
              refine hQ.out _ _ ⟨p0, vn, ?_, ?_⟩
              · simp [Iv.upd, hi, hd, sl_true, sl_false, so_true, so_false, ea, eb]
              · simpa [Iv.upd, hi, hd, ea, eb] using HW2.out.app ho hg
            · rintro fl a0 y Q' ⟨p0, v1, rfl, hw⟩ hi hd hQ
              replace hQ := Lib.hid hQ
              simp [Iv.depsB, Region.binds] at hd
              try simp only [hi, hd, sl_true, sl_false, so_true, so_false]
              try simp only [hi, sl_true, sl_false, so_true, so_false]
              have ea : fl 0 = true := by simp [hd]
              have eb : fl 2 = true := by simp [hd]
              have ec : fl 6 = true := by simp [hd]
              have hw2 := hw
              rw [hi, ec] at hw2
              have HW2 := Lib.hid hw2
              clear hw2
              have HO := Lib.hid (HW2.out.own1 rfl rfl)
              obtain ⟨A9, c9, rfl, -, -, -⟩ := own_slice0 HO.out
              have HRX := Lib.hid (rw_of_own HO.out HN.out.symm)
              try simp only [ea, eb, ec, so_true, so_false]
              go_wp2_with fail
              refine (hNX.out y A9 _ c9 HN.out HW2.out.lg.src HRX.out).mono ?_
              rintro e y1 ⟨rfl, hb, hk⟩
              go_wp2_with fail
              refine hQ.out _ _ ⟨p0, .slice A9 ab.length c9, ?_, ?_⟩
              · simp [Iv.upd, hi, hd, sl_true, sl_false, so_true, so_false, ea, eb, ec]
              · simpa [Iv.upd, hi, hd, ea, eb, ec] using HW2.out.next hb hk
            · rintro fl a0 y Q' ⟨p0, v1, rfl, hw⟩ hi hd hQ
              replace hQ := Lib.hid hQ
              simp [Iv.depsB, Region.binds] at hd
              try simp only [hi, hd, sl_true, sl_false, so_true, so_false]
              try simp only [hi, sl_true, sl_false, so_true, so_false]
              go_wp2_with fail
              refine hQ.out _ _ ⟨p0, v1, ?_, ?_⟩
              · simp [Iv.upd, hi, hd, sl_true, sl_false, so_true, so_false]
              · simpa [Iv.upd, hi, hd] using hw
            · rintro fl a0 y Q' ⟨p0, v1, rfl, hw⟩ hi hd hQ
              replace hQ := Lib.hid hQ
              simp [Iv.depsB, Region.binds] at hd
              try simp only [hi, hd, sl_true, sl_false, so_true, so_false]
              try simp only [hi, sl_true, sl_false, so_true, so_false]
              go_wp2_with fail
              refine hQ.out _ _ ⟨p0, v1, ?_, ?_⟩
              · simp [Iv.upd, hi, hd, sl_true, sl_false, so_true, so_false]
              · simpa [Iv.upd, hi, hd] using hw
            · rintro fl a0 y Q' ⟨p0, v1, rfl, hw⟩ hi hd hQ
              replace hQ := Lib.hid hQ
              simp [Iv.depsB, Region.binds] at hd
              try simp only [hi, hd, sl_true, sl_false, so_true, so_false]
              try simp only [hi, sl_true, sl_false, so_true, so_false]
              go_wp2_with fail
              refine hQ.out _ _ ⟨p0, v1, ?_, ?_⟩
              · simp [Iv.upd, hi, hd, sl_true, sl_false, so_true, so_false]
              · simpa [Iv.upd, hi, hd] using hw
            · rintro fl a0 y Q' ⟨p0, v1, rfl, hw⟩ hi hd hQ
              replace hQ := Lib.hid hQ
              simp [Iv.depsB, Region.binds] at hd
              try simp only [hi, hd, sl_true, sl_false, so_true, so_false]
              try simp only [hi, sl_true, sl_false, so_true, so_false]
              go_wp2_with fail
              refine hQ.out _ _ ⟨p0, v1, ?_, ?_⟩
              · simp [Iv.upd, hi, hd, sl_true, sl_false, so_true, so_false]
              · simpa [Iv.upd, hi, hd] using hw
            · rintro fl a0 y Q' ⟨p0, v1, rfl, hw⟩ hi hd hQ
              replace hQ := Lib.hid hQ
              simp [Iv.depsB, Region.binds] at hd
              try simp only [hi, hd, sl_true, sl_false, so_true, so_false]
              try simp only [hi, sl_true, sl_false, so_true, so_false]
              go_wp2_with fail
              refine hQ.out _ _ ⟨p0, v1, ?_, ?_⟩
              · simp [Iv.upd, hi, hd, sl_true, sl_false, so_true, so_false]
              · simpa [Iv.upd, hi, hd] using hw
          · rintro fl a0 y ⟨p0, v1, rfl, hw⟩ hall
            simp only [hall 0 (by decide), hall 1 (by decide), hall 2 (by decide), hall 3 (by decide), hall 4 (by decide), hall 5 (by decide), hall 6 (by decide), hall 7 (by decide), hall 8 (by decide), hall 9 (by decide), hall 10 (by decide), hall 11 (by decide), hall 12 (by decide), sl_true, ↓reduceIte, so_true, so_false] at hw ⊢
            clear hall
            have HL3 := Lib.hid hw.lg
            have HR3 := Lib.hid hw.row
            clear hw HL2 HR2
            obtain ⟨p0', p1, p2, p3, p4, pf, pl⟩ := whole_five (HL3.out.st.knows.at 0 rfl)
            go_wp2_with fail
            refine (hRN.out _ _ HN.out HR3.out.row (HRW.out.call HL3.out.st.below)).mono ?_
            rintro r w3 ⟨Am2, cm2, rfl, hb1, hr1, hA⟩
            replace HR3 := Lib.hid (HR3.out.next hb1 HL3.out.src.lt hr1 hA)
            replace HL3 := Lib.hid (HL3.out.call hb1)
            clear hb1 hr1 hA p0' p1 p2 p3 p4 pf pl
            go_wp2_with fail
            refine (last_any _ _ _ HL3.out.src).mono ?_
            rintro r w5 ⟨rfl, e5⟩
            subst w5
            go_wp2_with fail
            refine (rlast_any Am2 cm2 m2 _ HR3.out.row).mono ?_
            rintro r w5 ⟨rfl, e5⟩
            subst w5
            go_wp2_with fail
            go_roundw
            case rel => exact ⟨n + 1, m2, Am2, _, cm2, by omega, by omega, by go_num, rfl, rfl, by have := hlen.out; omega, hrng.out, HR3.out, HL3.out.few (fun r hr => by cases hr)⟩
            case measure => simp [intOf]; omega
        case inr =>
          go_wp2_with fail
          refine Iv.region (fun fl aa y => ∃ p0 v1, aa = ⟨#[.slice (some ⟨b0, off, none⟩) l.length cap, undef, u2, ptr w.heap.size, .slice Am M cm, .int .i64 (n : Int), .pointer (some ⟨wr.heap.size, 0, none⟩), so (fl 11) (.int .i64 V) u7, so (fl 12) (.int .i64 E) u8, u9, u10, u11, u12, u13, ptr w.heap.size, .bool true, .bool false, .bool false, ptr w.heap.size, .bool false, .bool false, .int .i64 (n : Int), .slice (some ⟨b0, off, none⟩) l.length cap, .int .i64 (l.length : Int), .bool true, .bool true, .int .i64 (n : Int), .bool true, .bool true, u29, u30, .slice (some ⟨b0, off, none⟩) l.length cap, .int .i64 (n : Int), .pointer (some ⟨b0, off + n * 5, none⟩), .agg #[.int .i64 0, .int .i64 t, .int .i64 lo, .int .i64 ub, .slice (some ⟨b1, o1, none⟩) ab.length c1], .pointer (some ⟨wr.heap.size, 4, none⟩), .slice (some ⟨b1, o1, none⟩) ab.length c1, .int .i64 (ab.length : Int), .bool true, .pointer (some ⟨wr.heap.size, 4, none⟩), .slice (some ⟨b1, o1, none⟩) ab.length c1, .slice (some ⟨b1, o1, none⟩) 50 c1, .pointer (some ⟨wr.heap.size, 4, none⟩), .pointer (some ⟨wr.heap.size, 0, none⟩), .int .i64 0, .bool true, so (fl 8) (Value.tuple #[.int .i64 V, .int .i64 E]) u46, so (fl 0) (ptr w.heap.size) u47, so (fl 1) (.pointer (some ⟨wr.heap.size, 2, none⟩)) u48, so (fl 2) (.agg #[.int .i64 lo, .int .i64 ub]) u49, so (fl 3) (.slice (some ⟨p0, 0, none⟩) 0 0) u50, so (fl 4) (.pointer (some ⟨wr.heap.size, 4, none⟩)) u51, so (fl 5) (.slice (some ⟨b1, o1, none⟩) 50 c1) u52, so (fl 6) (v1) u53, so (fl 7) (Value.tuple #[.int .i64 V, .int .i64 E]) u54, so (fl 9) (.int .i64 V) u55, so (fl 10) (.int .i64 E) u56, u57, u58, u59, u60, u61, u62, u63, u64, u65, u66, u67, u68, u69, u70, u71, u72, u73, u74, u75, u76, u77, u78, u79, u80, u81, u82, u83, u84, u85, u86, u87, u88, u89, u90, u91, u92, u93, u94], []⟩ ∧ Ah w y [(wr.heap.size, 30, #[.int .i64 0, .int .i64 t, .int .i64 lo, .int .i64 ub, .slice (some ⟨b1, o1, none⟩) 50 c1])] (wr.heap.size + 1) w.heap.size K (top 0 m2) Am cm m p0 v1 50 ab2 (fl 3) (fl 6) (fl 7)) (by kernel_rfl) (by kernel_rfl) ?_ ?_ ?_
          · exact ⟨0, undef, rfl, Ah.start (HL2.out.drewN 1) (HR2.out.call (drew_below _ 1)) (by simp) 0 undef _ ab2 _⟩
          · refine ⟨?_, ?_, ?_, ?_, ?_, ?_, ?_, ?_, ?_, ?_, ?_, ?_, ?_, trivial⟩
            · rintro fl a0 y Q' ⟨p0, v1, rfl, hw⟩ hi hd hQ
              replace hQ := Lib.hid hQ
              simp [Iv.depsB, Region.binds] at hd
              try simp only [hi, hd, sl_true, sl_false, so_true, so_false]
              try simp only [hi, sl_true, sl_false, so_true, so_false]
              go_wp2_with fail
              refine hQ.out _ _ ⟨p0, v1, ?_, ?_⟩
              · simp [Iv.upd, hi, hd, sl_true, sl_false, so_true, so_false]
              · simpa [Iv.upd, hi, hd] using hw
            · rintro fl a0 y Q' ⟨p0, v1, rfl, hw⟩ hi hd hQ
              replace hQ := Lib.hid hQ
              simp [Iv.depsB, Region.binds] at hd
              try simp only [hi, hd, sl_true, sl_false, so_true, so_false]
              try simp only [hi, sl_true, sl_false, so_true, so_false]
              go_wp2_with fail
              refine hQ.out _ _ ⟨p0, v1, ?_, ?_⟩
              · simp [Iv.upd, hi, hd, sl_true, sl_false, so_true, so_false]
              · simpa [Iv.upd, hi, hd] using hw
            · rintro fl a0 y Q' ⟨p0, v1, rfl, hw⟩ hi hd hQ
              replace hQ := Lib.hid hQ
              simp [Iv.depsB, Region.binds] at hd
              try simp only [hi, hd, sl_true, sl_false, so_true, so_false]
              try simp only [hi, sl_true, sl_false, so_true, so_false]
              obtain ⟨p0', p1, p2, p3, p4, pf, pl⟩ := whole_five (hw.lg.st.knows.at 0 rfl)
              go_wp2_with fail
              refine hQ.out _ _ ⟨p0, v1, ?_, ?_⟩
              · simp [Iv.upd, hi, hd, sl_true, sl_false, so_true, so_false]
              · simpa [Iv.upd, hi, hd] using hw
            · rintro fl a0 y Q' ⟨p0, v1, rfl, hw⟩ hi hd hQ
              replace hQ := Lib.hid hQ
              simp [Iv.depsB, Region.binds] at hd
              try simp only [hi, hd, sl_true, sl_false, so_true, so_false]
              try simp only [hi, sl_true, sl_false, so_true, so_false]
              have hw2 := hw
              rw [hi] at hw2
              go_wp2_with fail
              refine hQ.out _ _ ⟨y.heap.size, v1, ?_, ?_⟩
              · simp [Iv.upd, hi, hd, sl_true, sl_false, so_true, so_false]
              · simpa [Iv.upd, hi, hd] using hw2.made
            · rintro fl a0 y Q' ⟨p0, v1, rfl, hw⟩ hi hd hQ
              replace hQ := Lib.hid hQ
              simp [Iv.depsB, Region.binds] at hd
              try simp only [hi, hd, sl_true, sl_false, so_true, so_false]
              try simp only [hi, sl_true, sl_false, so_true, so_false]
              go_wp2_with fail
              refine hQ.out _ _ ⟨p0, v1, ?_, ?_⟩
              · simp [Iv.upd, hi, hd, sl_true, sl_false, so_true, so_false]
              · simpa [Iv.upd, hi, hd] using hw
            · rintro fl a0 y Q' ⟨p0, v1, rfl, hw⟩ hi hd hQ
              replace hQ := Lib.hid hQ
              simp [Iv.depsB, Region.binds] at hd
              try simp only [hi, hd, sl_true, sl_false, so_true, so_false]
              try simp only [hi, sl_true, sl_false, so_true, so_false]
              obtain ⟨p0', p1, p2, p3, p4, pf, pl⟩ := whole_five (hw.lg.st.knows.at 0 rfl)
              go_wp2_with fail
              refine hQ.out _ _ ⟨p0, v1, ?_, ?_⟩
              · simp [Iv.upd, hi, hd, sl_true, sl_false, so_true, so_false]
              · simpa [Iv.upd, hi, hd] using hw
            · rintro fl a0 y Q' ⟨p0, v1, rfl, hw⟩ hi hd hQ
              replace hQ := Lib.hid hQ
              simp [Iv.depsB, Region.binds] at hd
              try simp only [hi, hd, sl_true, sl_false, so_true, so_false]
              try simp only [hi, sl_true, sl_false, so_true, so_false]
              have ea : fl 3 = true := by simp [hd]
              have eb : fl 5 = true := by simp [hd]
              have hw2 := hw
              rw [hi, ea] at hw2
              have HW2 := Lib.hid hw2
              clear hw2
              try simp only [ea, eb, so_true, so_false]
              have HSE := Lib.hid (show Sees y w.heap.size 1 _ 50 (ints ab2) from by have h0 := HRW.out.sees.below HW2.out.lg.st.below; rw [← HN.out] at h0; exact h0)
              refine wpList_appG rfl (.tmp 50) (.tmp 52) _ 2 _ 1 8 rfl info_i64 Try.underlying26 rfl (by decide) (wr.heap.size + 1) _ 0 [] rfl (HW2.out.own0 rfl rfl) w.heap.size _ _ c1 (ints ab2) rfl HSE.out hnil.out (ints_one ab2) (by omega) (by omega) HW2.out.low.2.1 ?_
              intro vn yn ho hg
              try rw [Nat.zero_add] at ho
              try rw [List.nil_append] at ho
              go_wp2_with fail
              refine hQ.out _ _ ⟨p0, vn, ?_, ?_⟩
              · simp [Iv.upd, hi, hd, sl_true, sl_false, so_true, so_false, ea, eb]
              · simpa [Iv.upd, hi, hd, ea, eb] using HW2.out.app ho hg
            · rintro fl a0 y Q' ⟨p0, v1, rfl, hw⟩ hi hd hQ
              replace hQ := Lib.hid hQ
              simp [Iv.depsB, Region.binds] at hd
              try simp only [hi, hd, sl_true, sl_false, so_true, so_false]
              try simp only [hi, sl_true, sl_false, so_true, so_false]
              have ea : fl 0 = true := by simp [hd]
              have eb : fl 2 = true := by simp [hd]
              have ec : fl 6 = true := by simp [hd]
              have hw2 := hw
              rw [hi, ec] at hw2
              have HW2 := Lib.hid hw2
              clear hw2
              have HO := Lib.hid (HW2.out.own1 rfl rfl)
              obtain ⟨A9, c9, rfl, -, -, -⟩ := own_slice0 HO.out
              have HRX := Lib.hid (rw_of_own HO.out HN.out.symm)
              try simp only [ea, eb, ec, so_true, so_false]
              go_wp2_with fail
              refine (hNX.out y A9 _ c9 HN.out HW2.out.lg.src HRX.out).mono ?_
              rintro e y1 ⟨rfl, hb, hk⟩
              go_wp2_with fail
              refine hQ.out _ _ ⟨p0, .slice A9 50 c9, ?_, ?_⟩
              · simp [Iv.upd, hi, hd, sl_true, sl_false, so_true, so_false, ea, eb, ec]
              · simpa [Iv.upd, hi, hd, ea, eb, ec] using HW2.out.next hb hk
            · rintro fl a0 y Q' ⟨p0, v1, rfl, hw⟩ hi hd hQ
              replace hQ := Lib.hid hQ
              simp [Iv.depsB, Region.binds] at hd
              try simp only [hi, hd, sl_true, sl_false, so_true, so_false]
              try simp only [hi, sl_true, sl_false, so_true, so_false]
              go_wp2_with fail
              refine hQ.out _ _ ⟨p0, v1, ?_, ?_⟩
              · simp [Iv.upd, hi, hd, sl_true, sl_false, so_true, so_false]
              · simpa [Iv.upd, hi, hd] using hw
            · rintro fl a0 y Q' ⟨p0, v1, rfl, hw⟩ hi hd hQ
              replace hQ := Lib.hid hQ
              simp [Iv.depsB, Region.binds] at hd
              try simp only [hi, hd, sl_true, sl_false, so_true, so_false]
              try simp only [hi, sl_true, sl_false, so_true, so_false]
              go_wp2_with fail
              refine hQ.out _ _ ⟨p0, v1, ?_, ?_⟩
              · simp [Iv.upd, hi, hd, sl_true, sl_false, so_true, so_false]
              · simpa [Iv.upd, hi, hd] using hw
            · rintro fl a0 y Q' ⟨p0, v1, rfl, hw⟩ hi hd hQ
              replace hQ := Lib.hid hQ
              simp [Iv.depsB, Region.binds] at hd
              try simp only [hi, hd, sl_true, sl_false, so_true, so_false]
              try simp only [hi, sl_true, sl_false, so_true, so_false]
              go_wp2_with fail
              refine hQ.out _ _ ⟨p0, v1, ?_, ?_⟩
              · simp [Iv.upd, hi, hd, sl_true, sl_false, so_true, so_false]
              · simpa [Iv.upd, hi, hd] using hw
            · rintro fl a0 y Q' ⟨p0, v1, rfl, hw⟩ hi hd hQ
              replace hQ := Lib.hid hQ
              simp [Iv.depsB, Region.binds] at hd
              try simp only [hi, hd, sl_true, sl_false, so_true, so_false]
              try simp only [hi, sl_true, sl_false, so_true, so_false]
              go_wp2_with fail
              refine hQ.out _ _ ⟨p0, v1, ?_, ?_⟩
              · simp [Iv.upd, hi, hd, sl_true, sl_false, so_true, so_false]
              · simpa [Iv.upd, hi, hd] using hw
            · rintro fl a0 y Q' ⟨p0, v1, rfl, hw⟩ hi hd hQ
              replace hQ := Lib.hid hQ
              simp [Iv.depsB, Region.binds] at hd
              try simp only [hi, hd, sl_true, sl_false, so_true, so_false]
              try simp only [hi, sl_true, sl_false, so_true, so_false]
              go_wp2_with fail
              refine hQ.out _ _ ⟨p0, v1, ?_, ?_⟩
              · simp [Iv.upd, hi, hd, sl_true, sl_false, so_true, so_false]
              · simpa [Iv.upd, hi, hd] using hw
          · rintro fl a0 y ⟨p0, v1, rfl, hw⟩ hall
            simp only [hall 0 (by decide), hall 1 (by decide), hall 2 (by decide), hall 3 (by decide), hall 4 (by decide), hall 5 (by decide), hall 6 (by decide), hall 7 (by decide), hall 8 (by decide), hall 9 (by decide), hall 10 (by decide), hall 11 (by decide), hall 12 (by decide), sl_true, ↓reduceIte, so_true, so_false] at hw ⊢
            clear hall
            have HL3 := Lib.hid hw.lg
            have HR3 := Lib.hid hw.row
            clear hw HL2 HR2
            obtain ⟨p0', p1, p2, p3, p4, pf, pl⟩ := whole_five (HL3.out.st.knows.at 0 rfl)
            go_wp2_with fail
            refine (hRN.out _ _ HN.out HR3.out.row (HRW.out.call HL3.out.st.below)).mono ?_
            rintro r w3 ⟨Am2, cm2, rfl, hb1, hr1, hA⟩
            replace HR3 := Lib.hid (HR3.out.next hb1 HL3.out.src.lt hr1 hA)
            replace HL3 := Lib.hid (HL3.out.call hb1)
            clear hb1 hr1 hA p0' p1 p2 p3 p4 pf pl
            go_wp2_with fail
            refine (last_any _ _ _ HL3.out.src).mono ?_
            rintro r w5 ⟨rfl, e5⟩
            subst w5
            go_wp2_with fail
            refine (rlast_any Am2 cm2 m2 _ HR3.out.row).mono ?_
            rintro r w5 ⟨rfl, e5⟩
            subst w5
            go_wp2_with fail
            go_roundw
            case rel => exact ⟨n + 1, m2, Am2, _, cm2, by omega, by omega, by go_num, rfl, rfl, by have := hlen.out; omega, hrng.out, HR3.out, HL3.out.few (fun r hr => by cases hr)⟩
            case measure => simp [intOf]; omega
    · have hend : ((n : Int) < (l.length : Int) ∧ n = 40) ∨ (¬ (n : Int) < (l.length : Int)) := by omega
      rcases hend with ⟨i1, rfl⟩ | i1
      all_goals
        go_wp2_with fail
        go_ret
        exact ⟨rfl, HL1.out.st.below⟩

set_option maxRecDepth 100000 in
theorem lifted (os : Os) (started : os.Started) (H : Type) (enc : TypeId × Value → H) :
    ReturnsInHanded {} Try.checked os 3 .any (Rows.stampPlaysSpec.pre6 enc Try.prog Try.f3 Rows.stampPlaysRow.domain false) (Rows.stampPlaysSpec.post enc Try.prog Try.f3 false true false false) := by
  refine returnsInHanded_of_change (C := Try.checked) own started (by kernel_rfl) Try.func3
    (ChangeSpec.witness6 (enc := enc) (C := Try.checked) false ⟨#[], #[.slice none 0 0], []⟩ 8 (by kernel_rfl) (by kernel_rfl) (by kernel_rfl) (by kernel_rfl)) ?_
  intro W base args ds gs before hval0 hW hcnd _
  have hval : ∀ (j : Nat) t v, Try.f3.params[j]? = some t → args[j]? = some v → Value.okWide Try.prog W .any base t v := hval0
  have hW' := hW
  obtain ⟨p, q, hA0, hV, rfl, hfz, hnd⟩ := hW
  have hA : DataW.TrodAll enc Try.prog W 0 (fun _ => true) true Try.f3.params.toList args.toList ds p := hA0
  rw [Try.params3] at hA hval
  obtain ⟨v0, vs0, d0, ds0, p0, q0, hargs, rfl, rfl, h0, r0⟩ := trodAll_cons hA
  obtain ⟨rfl, rfl, rfl⟩ := trodAll_nil r0
  obtain rfl : args = #[v0] := by cases args; simp_all
  obtain ⟨rfl, rfl⟩ := trodVars_none hV
  obtain ⟨A0, len0, cap0, rfl⟩ := okWide_slice Try.underlying22 (hval 0 22 v0 rfl rfl)
  obtain ⟨l0, w0⟩ := open_calls h0
  have lt0 : ∀ x ∈ p0, x.block < W.heap.size := by obtain ⟨m, hm⟩ := h0; exact DataW.trod_lt m _ _ _ hm
  clear hA0 hval0
  simp only [List.append_nil] at hW'
  refine (walk A0 len0 cap0 l0 W w0).mono fun e W' ⟨he, bel⟩ => ?_
  subst he
  exact ⟨_, rfl, _, _, _, [], _, [], hW', trodAll_mk1 (shut_bool Try.underlying4 _), (trodAll_cons_mk (Below.trod laidOut (by kernel_rfl) (of_decide_eq_true (by kernel_rfl)) h0 bel lt0) trodAll_mk0), rfl, bel.frame _, fun h => by cases h⟩

theorem proved : Rows.StampPlaysSaid :=
  OpenClaim.holds_of_wide 3 Try.f3 rfl rfl rfl rfl rfl rfl rfl ⟨rfl, rfl, rfl, rfl, rfl⟩ rfl rfl rfl rfl rfl (by kernel_rfl) Try.func3 (by kernel_rfl)
    (of_decide_eq_true (by kernel_rfl)) (by unfold Func.isWrapper; first | (rw [if_pos (by decide +kernel)]; kernel_rfl) | (rw [if_neg (by decide +kernel)]; exact ⟨rfl, rfl⟩))
    (fun os started H enc _ => lifted os started H enc)
#print axioms proved
end Go.Proofs.Ytjpalcolhagpcaa.stampPlays
