/- Each stamp is above all that were given, kept and told ahead of it, and above all of its span; for every input, without conditions (of more calls the first 40 are made, of more numbers the first 50 told). -/
import Derived.Test.YtjpalcolhagpcaaStmpO
namespace Go.Proofs.Ytjpalcolhagpcaa.stampRises
open Go.ChangeShapes Go.WideShapes Go.ChangeAt Go.RowKit Go.Sp Go.Fl Go.Ck Go.Tp
set_option linter.unusedVariables false
set_option linter.unusedSimpArgs false

set_option maxHeartbeats 16000000 in
set_option maxRecDepth 100000 in
theorem walk (A : Option Addr) (len cap : Nat) (l : List Cl10) (w : World) (hL : IsR w A len cap 5 encC (GC w) l) :
    Calls Try.prog 5 #[.slice A len cap] w fun r w' => r = .returned (.bool true) ∧ Below w.heap.size w w' := by
  obtain ⟨hlen, hs, hc1, hc2, hnil, hg⟩ := hL
  subst hlen
  have HS := Lib.hid hs
  have HG := Lib.hid hg
  clear hs hg hnil
  go_enter Try.func5, Try.ntmps5
  go_wp2_with fail
  refine (snew_at _ w.heap.size rfl).mono ?_
  rintro r w1 ⟨rfl, hb1, k1⟩
  have H : Hid (Lg w w1 [] w.heap.size 0) := Lib.hid ⟨(St.start w).call hb1, k1, Nat.le_refl _, fun r hr => by cases hr⟩
  clear hb1 k1
  go_wp2_with fail
  refine (sawake_any _).mono ?_
  rintro r w2 ⟨rfl, hb1⟩
  replace H := Lib.hid (H.out.call hb1)
  clear hb1
  go_wp2_with fail
  go_loopw [4, 5] (fun la i wr => ∃ (n : Nat) (K : Int), n ≤ l.length ∧ n ≤ 40 ∧ i = .int .i64 (n : Int) ∧ la = .int .i64 K ∧ (0 ≤ K ∧ K ≤ 1125899906842624) ∧ Lg w wr [] w.heap.size K) (fun _ i _ => l.length - (intOf i).toNat)
  case atStart => exact ⟨0, 0, by omega, by omega, rfl, rfl, by omega, H.out⟩
  case round =>
    obtain ⟨n, K, hn1, hn2, rfl, rfl, hK, hl⟩ := hrel
    have HL1 := Lib.hid hl
    clear hl H
    by_cases hlt : n < l.length ∧ n < 40
    · obtain ⟨h1, h2⟩ := hlt
      obtain ⟨v, hv⟩ : ∃ v, l[n]? = some v := ⟨_, List.getElem?_eq_getElem h1⟩
      have gv := HG.out v (List.mem_of_getElem? hv)
      obtain ⟨b0, off, rfl, hb, hcc⟩ := (HS.out.below HL1.out.st.below).item encC_len (by omega) n v hv
      obtain ⟨k, t, lo, hi, A1, c1, ab⟩ := v
      obtain ⟨gk, gt, glo, ghi, grow⟩ := gv
      simp only at gk gt glo ghi grow
      obtain ⟨ab2, hle, hrw, hf⟩ := few_of grow
      have HRW := Lib.hid hrw
      have q0 := hcc 0 _ rfl
      have q1 := hcc 1 _ rfl
      have q2 := hcc 2 _ rfl
      have q3 := hcc 3 _ rfl
      have q4 := hcc 4 _ rfl
      rw [Nat.add_zero] at q0
      simp only at q0 q1 q2 q3 q4
      have i1 : (n : Int) < (l.length : Int) := by omega
      have i2 : (n : Int) < 40 := by omega
      have i3 : (n : Int) ≤ 39 := by omega
      have hKN := Lib.hid (fun w0 (h : Src w0 w.heap.size K) => keep_any w.heap.size K t w0 h)
      have hNX := Lib.hid (fun w0 (N : Nat) (hN : N = ab2.length) (h : Src w0 w.heap.size K) (hr : Rw w0 A1 c1 ab2) => next_anyL w.heap.size K lo hi hK glo ghi A1 c1 ab2 w0 N hN h hr)
      have hroom := grow.room
      have htop := grow.top
      have HLA := Lib.hid (HL1.out.alloc wr.heap.size rfl 30 #[.int .i64 k, .int .i64 t, .int .i64 lo, .int .i64 hi, .slice A1 ab.length c1])
      have hwr := HL1.out.st.below.size
      clear grow hrw hcc hv glo ghi
      by_cases hk0 : k = 0
      case neg =>
        clear hNX HRW
        have key : ∃ K2, (0 ≤ K2 ∧ K2 ≤ 1125899906842624) ∧ keepN K t = K2 ∧ ((keepE t = 0 ∧ K < t ∧ K2 = t) ∨ (keepE t = 0 ∧ t ≤ K ∧ K2 = K) ∨ (keepE t = 100 ∧ K2 = K)) := by
          rcases keep_cases K t with ⟨-, e1, e2, e3⟩ | ⟨-, e1, e2, e3⟩
          · rcases mx_cases K t with ⟨m1, m2⟩ | ⟨m1, m2⟩
            · exact ⟨t, by omega, by omega, .inl ⟨e2, m1, rfl⟩⟩
            · exact ⟨K, by omega, by omega, .inr (.inl ⟨e2, m1, rfl⟩)⟩
          · exact ⟨K, hK, e3, .inr (.inr ⟨e2, rfl⟩)⟩
        obtain ⟨K2, hK2, kN, kE⟩ := key
        rw [kN] at hKN
        have HK2 := Lib.hid hK2
        have HK := Lib.hid hK
        clear kN hK2 hK
        generalize keepE t = E at *
        rcases hf with ⟨f1, rfl⟩ | ⟨f1, f2, b1, o1, rfl⟩
        case' inl => have f3 : (ab2.length : Int) ≤ 50 := by omega
        case' inl => have HL2 := Lib.hid HLA.out
        case' inr => have f3 : 50 < (ab.length : Int) := by omega
        case' inr => have HL2 := Lib.hid (HL1.out.alloc wr.heap.size rfl 30 #[.int .i64 k, .int .i64 t, .int .i64 lo, .int .i64 hi, .slice (some ⟨b1, o1, none⟩) 50 c1])
        all_goals rcases kE with ⟨rfl, kl, rfl⟩ | ⟨rfl, kl, rfl⟩ | ⟨rfl, rfl⟩
        all_goals
          clear HLA
          go_wp2_with fail
          refine (hKN.out _ HL2.out.src).mono ?_
          rintro r w3 ⟨rfl, hb1, k1⟩
          replace HL2 := Lib.hid (HL2.out.turn hb1 k1)
          clear hb1 k1
          obtain ⟨p0, p1, p2, p3, p4, pf, pl⟩ := whole_five (HL2.out.st.knows.at 0 rfl)
          go_wp2_with fail
          go_roundw
          case rel => exact ⟨n + 1, _, by omega, by omega, by go_num, rfl, HK2.out, HL2.out.few (fun r hr => by cases hr)⟩
          case measure => simp [intOf]; omega
      case pos =>
        subst hk0
        clear hKN
        have key : (nextE K lo hi ab2 = 0 ∧ ∃ R : Int, (0 ≤ R ∧ R < 1125899906842624) ∧ K ≤ R ∧ hi ≤ R ∧ Hid (∀ x ∈ ab2, x ≤ R) ∧ nextV K lo hi ab2 = R + 1 ∧ nextN K lo hi ab2 = R + 1) ∨ ((nextE K lo hi ab2 = 100 ∨ nextE K lo hi ab2 = 101) ∧ nextN K lo hi ab2 = K) := by
          rcases next_cases K lo hi ab2 with ⟨e1, e2, e3, e4, e5⟩ | ⟨e1, e2, e3, e4, e5⟩ | ⟨e1, e3, e4, e5⟩
          · have hge := reach_ge K hi ab2
            exact .inl ⟨e3, reach K hi ab2, by omega, hge.1, hge.2, Lib.hid (fun x hx => reach_mem K hi ab2 x hx), e4, e5⟩
          · exact .inr ⟨.inr e3, e5⟩
          · exact .inr ⟨.inl e3, e5⟩
        generalize nextE K lo hi ab2 = E at *
        generalize nextV K lo hi ab2 = V at *
        generalize nextN K lo hi ab2 = K2 at *
        have HK := Lib.hid hK
        clear hK
        rcases hf with ⟨f1, hab⟩ | ⟨f1, f2, b1, o1, rfl⟩
        case' inl => have f3 : (ab.length : Int) ≤ 50 := by omega
        case' inl => have HL2 := Lib.hid HLA.out
        case' inl => have HN := Lib.hid (show ab.length = ab2.length by rw [hab])
        case' inr => have f3 : 50 < (ab.length : Int) := by omega
        case' inr => have HL2 := Lib.hid (HL1.out.alloc wr.heap.size rfl 30 #[.int .i64 0, .int .i64 t, .int .i64 lo, .int .i64 hi, .slice (some ⟨b1, o1, none⟩) 50 c1])
        case' inr => have HN := Lib.hid (show 50 = ab2.length from f2.symm)
        all_goals rcases key with ⟨rfl, R, hR, hKR, hhR, hmem, rfl, rfl⟩ | ⟨e3, rfl⟩
        all_goals try (rcases e3 with rfl | rfl)
        all_goals
          clear HLA
          go_wp2_with fail
          refine (hNX.out _ _ HN.out HL2.out.src (HRW.out.call HL2.out.st.below)).mono ?_
          rintro r w3 ⟨rfl, hb1, k1⟩
          replace HL2 := Lib.hid (HL2.out.turn hb1 k1)
          clear hb1 k1
          obtain ⟨p0, p1, p2, p3, p4, pf, pl⟩ := whole_five (HL2.out.st.knows.at 0 rfl)
          go_wp2_with fail
          try
            go_roundw
            case rel => exact ⟨n + 1, _, by omega, by omega, by go_num, rfl, HK.out, HL2.out.few (fun r hr => by cases hr)⟩
            case measure => simp [intOf]; omega
        all_goals
          go_loopw [9] (fun i wx => ∃ m : Nat, m ≤ ab2.length ∧ i = .int .i64 (m : Int) ∧ wx = w3) (fun i _ => ab2.length - (intOf i).toNat)
          case atStart => exact ⟨0, by omega, rfl, rfl⟩
          case round =>
            obtain ⟨m, hm1, rfl, e⟩ := hrel
            subst e
            have hnl := HN.out
            by_cases hml : m < ab2.length
            · obtain ⟨a, ha⟩ : ∃ a, ab2[m]? = some a := ⟨_, List.getElem?_eq_getElem hml⟩
              have har := hmem.out a (List.mem_of_getElem? ha)
              obtain ⟨b9, o9, hA9, hb9, g9⟩ := (HRW.out.call HL2.out.st.below).cell m a ha
              first
                | subst hA9
                | (injection hA9 with hA9; injection hA9 with h91 h92; subst h91 h92)
              have i4 : (m : Int) < (ab.length : Int) := by omega
              have i5 : (m : Int) < 50 := by omega
              clear ha hnl
              go_wp2_with fail
              go_roundw
              case rel => exact ⟨m + 1, by omega, by go_num, by first | rfl | trivial⟩
              case measure => simp [intOf]; omega
            · obtain rfl : m = ab2.length := by omega
              have i4 : ¬ (ab2.length : Int) < (ab.length : Int) ∨ True := .inr trivial
              first
                | (have i5 : ¬ (ab2.length : Int) < (50 : Int) := by omega)
                | (have i5 : ¬ (ab2.length : Int) < (ab.length : Int) := by omega)
              clear i4 hnl
              go_wp2_with fail
              go_roundw
              case rel => exact ⟨n + 1, _, by omega, by omega, by go_num, rfl, by omega, HL2.out.few (fun r hr => by cases hr)⟩
              case measure => simp [intOf]; omega
    · have hend : ((n : Int) < (l.length : Int) ∧ n = 40) ∨ (¬ (n : Int) < (l.length : Int)) := by omega
      rcases hend with ⟨i1, rfl⟩ | i1
      all_goals
        go_wp2_with fail
        refine (last_any _ K _ HL1.out.src).mono ?_
        rintro r w3 ⟨rfl, e3⟩
        subst w3
        go_wp2_with fail
        go_ret
        exact ⟨by first | rfl | (simp; done), HL1.out.st.below⟩

set_option maxRecDepth 100000 in
theorem lifted (os : Os) (started : os.Started) (H : Type) (enc : TypeId × Value → H) :
    ReturnsInHanded {} Try.checked os 5 .any (Rows.stampRisesSpec.pre6 enc Try.prog Try.f5 Rows.stampRisesRow.domain false) (Rows.stampRisesSpec.post enc Try.prog Try.f5 false true false false) := by
  refine returnsInHanded_of_change (C := Try.checked) own started (by kernel_rfl) Try.func5
    (ChangeSpec.witness6 (enc := enc) (C := Try.checked) false ⟨#[], #[.slice none 0 0], []⟩ 8 (by kernel_rfl) (by kernel_rfl) (by kernel_rfl) (by kernel_rfl)) ?_
  intro W base args ds gs before hval0 hW hcnd _
  have hval : ∀ (j : Nat) t v, Try.f5.params[j]? = some t → args[j]? = some v → Value.okWide Try.prog W .any base t v := hval0
  have hW' := hW
  obtain ⟨p, q, hA0, hV, rfl, hfz, hnd⟩ := hW
  have hA : DataW.TrodAll enc Try.prog W 0 (fun _ => true) true Try.f5.params.toList args.toList ds p := hA0
  rw [Try.params5] at hA hval
  obtain ⟨v0, vs0, d0, ds0, p0, q0, hargs, rfl, rfl, h0, r0⟩ := trodAll_cons hA
  obtain ⟨rfl, rfl, rfl⟩ := trodAll_nil r0
  obtain rfl : args = #[v0] := by cases args; simp_all
  obtain ⟨rfl, rfl⟩ := trodVars_none hV
  obtain ⟨A0, len0, cap0, rfl⟩ := okWide_slice Try.underlying22 (hval 0 22 v0 rfl rfl)
  obtain ⟨l0, w0⟩ := open_calls h0
  have lt0 : ∀ x ∈ p0, x.block < W.heap.size := by obtain ⟨m, hm⟩ := h0; exact DataW.trod_lt m _ _ _ hm
  clear hA0 hval0
  simp only [List.append_nil] at hW'
  refine (walk A0 len0 cap0 l0 W w0).mono fun e W' ⟨he, bel⟩ => ?_
  subst he
  exact ⟨_, rfl, _, _, _, [], _, [], hW', trodAll_mk1 (shut_bool Try.underlying4 _), (trodAll_cons_mk (Below.trod laidOut (by kernel_rfl) (of_decide_eq_true (by kernel_rfl)) h0 bel lt0) trodAll_mk0), rfl, bel.frame _, fun h => by cases h⟩

theorem proved : Rows.StampRisesSaid :=
  OpenClaim.holds_of_wide 5 Try.f5 rfl rfl rfl rfl rfl rfl rfl ⟨rfl, rfl, rfl, rfl, rfl⟩ rfl rfl rfl rfl rfl (by kernel_rfl) Try.func5 (by kernel_rfl)
    (of_decide_eq_true (by kernel_rfl)) (by unfold Func.isWrapper; first | (rw [if_pos (by decide +kernel)]; kernel_rfl) | (rw [if_neg (by decide +kernel)]; exact ⟨rfl, rfl⟩))
    (fun os started H enc _ => lifted os started H enc)
#print axioms proved
end Go.Proofs.Ytjpalcolhagpcaa.stampRises
