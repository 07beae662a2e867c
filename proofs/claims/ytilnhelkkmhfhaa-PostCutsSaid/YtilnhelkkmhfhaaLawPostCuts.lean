/- Of a node that is cut off, and to it, nothing is taken, all else is, and all when it isn't cut off any more: moietylaw09.PostCuts answers true. For every list of calls and number of eight bits; no conditions. -/
import Derived.Test.YtilnhelkkmhfhaaPostL
namespace Go.Proofs.Ytilnhelkkmhfhaa.postCuts
open Go.ChangeShapes Go.WideShapes Go.ChangeAt Go.RowKit Go.Po
set_option linter.unusedVariables false
set_option linter.unusedSimpArgs false

theorem cut_all (n : Nt (List UInt8)) (q : Int) (h : 0 ≤ q ∧ q ≤ 3) (hn : n.nodes = 4) (off : Bool) : n.cut q off = ({ n with off := fun y => if y = q then off else n.off y, puts := n.puts + 1 }, 0) := by
  unfold Nt.cut; rw [if_pos ⟨h.1, by rw [hn]; omega⟩]
/-- Does a letter touch the node? -/
def touch (q : Int) (l : Lt (List UInt8)) : Bool := decide (l.frm = q) || decide (l.to = q)
/-- Where it stands when the first c were asked for. -/
def asked (us : List (Lt (List UInt8))) (q : Int) (c : Nat) : List (Lt (List UInt8)) := (us.take c).filter (touch q) ++ us.drop c
theorem asked_len (us : List (Lt (List UInt8))) (q : Int) (c : Nat) (h : c ≤ us.length) : ((us.take c).filter (touch q)).length ≤ c := filter_le (touch q) us c
theorem asked_at {us : List (Lt (List UInt8))} {q : Int} {c : Nat} {y : Lt (List UInt8)} (hy : us[c]? = some y) : (asked us q c)[((us.take c).filter (touch q)).length]? = some y := by
  unfold asked
  rw [List.getElem?_append_right (Nat.le_refl _), Nat.sub_self, List.getElem?_drop, Nat.add_zero]; exact hy
theorem asked_stay {us : List (Lt (List UInt8))} {q : Int} {c : Nat} {y : Lt (List UInt8)} (hy : us[c]? = some y) (ht : touch q y = true) : asked us q (c + 1) = asked us q c := by
  obtain ⟨h1, h2⟩ := List.getElem?_eq_some_iff.1 hy
  unfold asked
  rw [filter_next (touch q) us c y hy, if_pos ht, List.drop_eq_getElem_cons h1, h2, List.append_assoc]; rfl
theorem asked_gone {us : List (Lt (List UInt8))} {q : Int} {c : Nat} {y : Lt (List UInt8)} (hy : us[c]? = some y) (ht : touch q y = false) :
    (asked us q c).take ((us.take c).filter (touch q)).length ++ (asked us q c).drop (((us.take c).filter (touch q)).length + 1) = asked us q (c + 1) := by
  obtain ⟨h1, h2⟩ := List.getElem?_eq_some_iff.1 hy
  unfold asked
  rw [filter_next (touch q) us c y hy, if_neg (by rw [ht]; decide), List.take_left, ← List.drop_drop, List.drop_left, List.drop_drop]
theorem asked_all (us : List (Lt (List UInt8))) (q : Int) : asked us q us.length = (us.take us.length).filter (touch q) := by unfold asked; rw [List.drop_length, List.append_nil]
/-- The net then. -/
def at9 (n : Nt (List UInt8)) (q : Int) (us : List (Lt (List UInt8))) (c : Nat) : Nt (List UInt8) := { n with under := asked us q c, off := fun y => if y = q then true else false, puts := n.puts + 1 }
theorem at9_stay (n : Nt (List UInt8)) {q : Int} {us : List (Lt (List UInt8))} {c : Nat} {y : Lt (List UInt8)} (hy : us[c]? = some y) (ht : touch q y = true) :
    (at9 n q us c).take (((us.take c).filter (touch q)).length : Int) = (at9 n q us (c + 1), none, 93) := by
  unfold Nt.take
  rw [show ((((us.take c).filter (touch q)).length : Int)).toNat = ((us.take c).filter (touch q)).length by omega, show (at9 n q us c).under[((us.take c).filter (touch q)).length]? = some y from asked_at hy]
  simp only []
  rw [if_neg (by omega), if_pos (by
    unfold touch at ht
    simp only [Bool.or_eq_true, decide_eq_true_eq] at ht
    unfold at9
    rcases ht with h | h <;> simp [h])]
  unfold at9
  rw [asked_stay hy ht]
theorem at9_gone (n : Nt (List UInt8)) {q : Int} {us : List (Lt (List UInt8))} {c : Nat} {y : Lt (List UInt8)} (hy : us[c]? = some y) (ht : touch q y = false) :
    (at9 n q us c).take (((us.take c).filter (touch q)).length : Int) = (at9 n q us (c + 1), some y, 0) := by
  unfold Nt.take
  rw [show ((((us.take c).filter (touch q)).length : Int)).toNat = ((us.take c).filter (touch q)).length by omega, show (at9 n q us c).under[((us.take c).filter (touch q)).length]? = some y from asked_at hy]
  simp only []
  rw [if_neg (by omega), if_neg (by
    unfold touch at ht
    simp only [Bool.or_eq_false_iff, decide_eq_false_iff_not] at ht
    unfold at9
    simp [ht.1, ht.2])]
  unfold at9 Nt.drop
  simp only [asked_gone hy ht]
theorem take_head (n : Nt (List UInt8)) (a : Nat) (h : n.under.length = a + 1) (ho : ∀ y, n.off y = false) : ∃ l, n.take 0 = (n.drop 0, some l, 0) ∧ (n.drop 0).under.length = a := by
  obtain ⟨l, hl⟩ : ∃ l, n.under[0]? = some l := ⟨_, List.getElem?_eq_getElem (by omega)⟩
  refine ⟨l, ?_, ?_⟩
  · unfold Nt.take
    rw [show ((0 : Int)).toNat = 0 from rfl, hl]
    simp [ho]
  · have := drop_len n 0 (by omega)
    omega
theorem take_none (n : Nt (List UInt8)) (h : n.under.length = 0) : n.take 0 = (n, none, 92) := by
  unfold Nt.take
  rw [show ((0 : Int)).toNat = 0 from rfl, List.getElem?_eq_none (by omega)]

set_option maxRecDepth 100000 in
set_option maxHeartbeats 4000000 in
theorem walk (A : Option Addr) (len cap : Nat) (l : List Oc) (a1 : Int) (wa1 : 0 ≤ a1 ∧ a1 ≤ 255) (w : World) (hL : IsR w A len cap 5 encC GC l) :
    Calls Try.prog 5 #[.slice A len cap, .int .u8 a1] w fun r w' => r = .returned (.bool true) ∧ Below w.heap.size w w' := by
  obtain ⟨hlen, hs, hc1, hc2, hn, hg⟩ := hL
  subst hlen
  have HS := Lib.hid hs
  have HG := Lib.hid hg
  clear hs hg hn
  go_enter Try.func5, Try.ntmps5
  go_wp2_with fail
  refine (snew_lp (St.start w) 4 (by omega)).mono ?_
  rintro e w1 ⟨g, rfl, hl⟩
  have H := Lib.hid hl
  clear hl
  go_wp2_with fail
  refine (awake_any _).mono ?_
  rintro e w2 ⟨rfl, hb⟩
  replace H := Lib.hid (H.out.call hb)
  clear hb
  go_wp2_with fail
  go_loopw [7] (fun i wr => ∃ (k : Nat) (n : Nt (List UInt8)), k ≤ l.length ∧ k ≤ 40 ∧ i = .int .i64 (k : Int) ∧ n.sent ≤ k ∧ n.nodes = 4 ∧ n.off = (fun _ => false) ∧ n.puts = 0 ∧ sLp w wr [] g n) (fun i _ => l.length - (intOf i).toNat)
  case atStart => exact ⟨0, _, by omega, by omega, rfl, Nat.le_refl _, rfl, rfl, rfl, H.out⟩
  case round =>
    obtain ⟨k, n, hk1, hk2, rfl, hsent, hnodes, hoff, hputs, hl⟩ := hrel
    replace H := Lib.hid hl
    have HND := Lib.hid hnodes
    have HOFF := Lib.hid hoff
    have HPT := Lib.hid hputs
    clear hl hnodes hoff hputs
    by_cases hlt : k < l.length ∧ k < 40
    · obtain ⟨h1, h2⟩ := hlt
      obtain ⟨v, hv⟩ : ∃ v, l[k]? = some v := ⟨_, List.getElem?_eq_getElem h1⟩
      have hga := HG.out v (List.mem_of_getElem? hv)
      have HGA := Lib.hid hga
      obtain ⟨b0, off, rfl, hb, hcc⟩ := (HS.out.below H.out.st.below).item encC_len (by omega) k v hv
      have q0 := hcc 0 _ rfl
      have q1 := hcc 1 _ rfl
      have q2 := hcc 2 _ rfl
      rw [Nat.add_zero] at q0
      clear hcc hv hga hb
      have i1 : (k : Int) < (l.length : Int) := by omega
      have i2 : (k : Int) < 40 := by omega
      by_cases hkd : v.kind = 0
      · rw [hkd] at q0
        go_wp2_with fail
        obtain ⟨C, hC, HCC⟩ := one_class wr
        refine region_inT 11 C hC (by kernel_rfl) (by kernel_rfl) ?_
        simp only [List.take_succ_cons, List.take_zero, List.drop_succ_cons, List.drop_zero]
        iterate 11
          (refine WQ.step (fun K hK => ?_)
           go_simp
           first
             | (refine hK _ ?_; clear hK K)
             | (apply Exists.intro
                refine ⟨fun x hx => ?_, hK _ ?_⟩
                · first
                    | rfl
                    | (rw [HCC.out _ hx]
                       go_simp
                       exact ⟨rfl, rfl⟩)
                    | (rw [HCC.out _ hx]
                       go_simp
                       rfl)
                clear hK K))
        refine WQ.nil ?_
        intro y hy
        rw [HCC.out _ hy]
        clear hy hC HCC C
        have H2 := Lib.hid (H.out.drewN 1)
        go_wp2_with fail
        refine (H2.out.ssend HGA.out.a HGA.out.b [120] (by omega)).mono ?_
        rintro e w6 ⟨rfl, hl⟩
        have H3 := Lib.hid hl
        have hsn := send_sent n v.a v.b [120]
        have HSA := Lib.hid (send_same n v.a v.b [120])
        clear hl
        go_wp2_with fail
        go_roundw
        case rel => exact ⟨k + 1, _, by omega, by omega, by go_num, by omega, HSA.out.1.trans HND.out, HSA.out.2.1.trans HOFF.out, HSA.out.2.2.trans HPT.out, H3.out⟩
        case measure => simp [intOf]; omega
      · generalize v.kind = kd at *
        go_wp2_with fail
        go_roundw
        case rel => exact ⟨k + 1, n, by omega, by omega, by go_num, by omega, HND.out, HOFF.out, HPT.out, H.out⟩
        case measure => simp [intOf]; omega
    · have hend : ((k : Int) < l.length ∧ k = 40) ∨ k = l.length := by omega
      rcases hend with ⟨h1, rfl⟩ | rfl
      all_goals
        go_wp2_with fail
        have hq9 := low_two a1 wa1
        generalize wrap64 (bits BinOp.and IntKind.u8 a1 3) = q at *
        have HC := Lib.hid (cut_all n q hq9 HND.out true)
        refine (H.out.scut (w64 q (by omega)) true (by rw [HPT.out]; decide)).mono ?_
        rintro e w3 ⟨rfl, hl⟩
        rw [HC.out] at hl ⊢
        obtain ⟨us, hus⟩ : ∃ us, n.under = us := ⟨_, rfl⟩
        have hn0 : ({ n with off := fun y => if y = q then true else n.off y, puts := n.puts + 1 } : Nt (List UInt8)) = at9 n q us 0 := by
          unfold at9 asked
          rw [← hus, HOFF.out]; simp
        rw [hn0] at hl
        have H1 := Lib.hid hl
        have hfew : us.length ≤ 1000 := by rw [← hus]; exact H.out.fine.few
        have hu0 : (at9 n q us 0).under = us := rfl
        have HU0 := Lib.hid hu0
        clear hl H hn0 hus hu0
        go_wp2_with fail
        refine H1.out.sletters.mono ?_
        rintro e w4 ⟨A1, cap1, R1, rfl, hca, hAa, htopa, hl, hown1, -, -⟩
        rw [HU0.out] at hca hown1 ⊢
        have H2 := Lib.hid hl
        have HO1 := Lib.hid hown1
        clear hl hown1 H1
        go_wp2_with fail
        go_loopw [10, 11] (fun a i wr => ∃ (c : Nat), c ≤ us.length ∧ i = .int .i64 (c : Int) ∧ a = .int .i64 ((((us.take c).filter (touch q)).length : Nat) : Int) ∧ sLp w wr R1 g (at9 n q us c)) (fun _ i _ => us.length - (intOf i).toNat)
        case atStart => exact ⟨0, by omega, rfl, by simp, by simpa using H2.out⟩
        case round =>
          obtain ⟨c, hcl, rfl, rfl, hl⟩ := hrel
          replace H2 := Lib.hid hl
          by_cases hlt : c < us.length
          · obtain ⟨y, hy⟩ : ∃ y, us[c]? = some y := ⟨_, List.getElem?_eq_getElem hlt⟩
            have HY := Lib.hid hy
            have HN := Lib.hid (filter_next (touch q) us c y hy)
            have hle := filter_le (touch q) us c
            have i1 : (c : Int) < (us.length : Int) := by omega
            clear hl hy
            cases ht : touch q y with
            | true =>
              have HTK := Lib.hid (at9_stay n HY.out ht)
              have hfq : y.frm = q ∨ (y.frm ≠ q ∧ y.to = q) := by
                unfold touch at ht
                simp only [Bool.or_eq_true, decide_eq_true_eq] at ht
                omega
              have HT := Lib.hid ht
              clear ht
              generalize hfl : ((us.take c).filter (touch q)).length = a at *
              have HFL := Lib.hid hfl
              clear hfl
              go_wp2_with fail
              refine (H2.out.stake (i := (a : Int)) (w64 _ (by omega))).mono ?_
              rintro e w5 ⟨rfl, hl⟩
              rw [HTK.out] at hl ⊢
              have H4 := Lib.hid (hl.alloc w5.heap.size rfl 47 #[.int .i64 0, .int .i64 0, .int .i64 0, .string ⟨#[]⟩])
              have ho1 := HO1.out _ (fun r hr => H4.out.knows r (List.mem_cons_of_mem _ hr))
              obtain ⟨b1, rfl⟩ := row_some ho1 (by omega)
              obtain ⟨⟨y0, y1, y2, y3⟩, -⟩ := own_letter ho1 HY.out
              clear hl ho1
              rw [show (encO none).toArray = #[.int .i64 0, .int .i64 0, .int .i64 0, .string ⟨#[]⟩] from rfl]
              rcases hfq with hfq | ⟨hfn, hfq⟩
              · rw [hfq] at y1
                go_wp2_with fail
                go_roundw
                case rel => exact ⟨c + 1, by omega, by go_num, by rw [HN.out, if_pos HT.out, List.length_append, HFL.out]; simp, H4.out.few (fun r hr => List.mem_cons_of_mem _ hr)⟩
                case measure => simp [intOf]; omega
              · rw [hfq] at y2
                generalize y.frm = yf at *
                go_wp2_with fail
                go_roundw
                case rel => exact ⟨c + 1, by omega, by go_num, by rw [HN.out, if_pos HT.out, List.length_append, HFL.out]; simp, H4.out.few (fun r hr => List.mem_cons_of_mem _ hr)⟩
                case measure => simp [intOf]; omega
            | false =>
              have HTK := Lib.hid (at9_gone n HY.out ht)
              have hfq : y.frm ≠ q ∧ y.to ≠ q := by
                unfold touch at ht
                simpa using ht
              obtain ⟨hfa, hfb⟩ := hfq
              have e1 : (y.frm == q) = false := by simpa using hfa
              have e2 : (y.to == q) = false := by simpa using hfb
              have e3 : decide (y.frm = q) = false := by simpa using hfa
              have e4 : decide (y.to = q) = false := by simpa using hfb
              have HT := Lib.hid ht
              clear ht
              generalize hfl : ((us.take c).filter (touch q)).length = a at *
              have HFL := Lib.hid hfl
              clear hfl
              go_wp2_with fail
              refine (H2.out.stake (i := (a : Int)) (w64 _ (by omega))).mono ?_
              rintro e w5 ⟨rfl, hl⟩
              rw [HTK.out] at hl ⊢
              have H4 := Lib.hid (hl.alloc w5.heap.size rfl 47 #[.int .i64 y.id, .int .i64 y.frm, .int .i64 y.to, .string (txt y.m)])
              have ho1 := HO1.out _ (fun r hr => H4.out.knows r (List.mem_cons_of_mem _ hr))
              obtain ⟨b1, rfl⟩ := row_some ho1 (by omega)
              obtain ⟨⟨y0, y1, y2, y3⟩, -⟩ := own_letter ho1 HY.out
              simp only [sP] at y3
              clear hl ho1
              rw [show (encO (some y)).toArray = #[.int .i64 y.id, .int .i64 y.frm, .int .i64 y.to, .string (txt y.m)] from rfl]
              have hsz : (w5.alloc (.cells #[.int .i64 y.id, .int .i64 y.frm, .int .i64 y.to, .string (txt y.m)] 47)).heap.size = w5.heap.size + 1 := by simp
              have hx := H4.out.knows (w5.heap.size, 47, #[.int .i64 y.id, .int .i64 y.frm, .int .i64 y.to, .string (txt y.m)]) (by simp)
              obtain ⟨x0, x1, x2, x3⟩ := (show _ ∧ _ ∧ _ ∧ _ from ⟨hx.cell 0, hx.cell 1, hx.cell 2, hx.cell 3⟩)
              clear hx
              go_wp2_with fail
              generalize w5.alloc (.cells #[.int .i64 y.id, .int .i64 y.frm, .int .i64 y.to, .string (txt y.m)] 47) = w6 at *
              obtain ⟨C, hC, HCC⟩ := one_class w6
              refine region_in C hC (by kernel_rfl) (by kernel_rfl) ?_
              iterate 10
                (refine WQ.step (fun K hK => ?_)
                 go_simp
                 first
                   | (refine hK _ ?_; clear hK K)
                   | (apply Exists.intro
                      refine ⟨fun x hx => ?_, hK _ ?_⟩
                      · first
                          | rfl
                          | (rw [HCC.out _ hx]
                             go_simp
                             exact ⟨rfl, rfl⟩)
                          | (rw [HCC.out _ hx]
                             go_simp
                             rfl)
                      clear hK K))
              refine WQ.nil ?_
              intro y hy
              rw [HCC.out _ hy]
              clear hy hC HCC C
              go_wp2_with fail
              go_roundw
              case rel => exact ⟨c + 1, by omega, by go_num, by rw [HN.out, if_neg (by rw [HT.out]; decide), HFL.out], (H4.out.few (fun r hr => List.mem_cons_of_mem _ hr)).drewN 1⟩
              case measure => simp [intOf]; omega
          · have hce : c = us.length := by omega
            subst hce
            have hle := filter_le (touch q) us us.length
            have HAL : Hid ((at9 n q us us.length).under.length = ((us.take us.length).filter (touch q)).length) := Lib.hid (congrArg List.length (asked_all us q))
            have HND2 : Hid ((at9 n q us us.length).nodes = 4) := Lib.hid HND.out
            have HPT2 : Hid ((at9 n q us us.length).puts = 1) := Lib.hid (by show n.puts + 1 = 1; rw [HPT.out])
            have HOF2 : Hid (∀ y, (if y = q then false else (at9 n q us us.length).off y) = false) := Lib.hid (fun y => by
              show (if y = q then false else (if y = q then true else false)) = false
              split <;> rfl)
            generalize at9 n q us us.length = n9 at *
            generalize ((us.take us.length).filter (touch q)).length = a at *
            have HC2 := Lib.hid (cut_all n9 q hq9 HND2.out false)
            clear hl
            go_wp2_with fail
            refine (H2.out.scut (w64 q (by omega)) false (by rw [HPT2.out]; decide)).mono ?_
            rintro e w5 ⟨rfl, hl⟩
            rw [HC2.out] at hl ⊢
            have H3 := Lib.hid hl
            clear hl
            go_wp2_with fail
            refine H3.out.sletters.mono ?_
            rintro e w6 ⟨A3, cap3, R3, rfl, hc3, hA3, htop3, hl, -, -, -⟩
            have H4 := Lib.hid (hl.few (L' := []) (fun r hr => by cases hr))
            have hlen9 : n9.under.length = a := HAL.out
            simp only [] at hc3
            rw [hlen9] at hc3 ⊢
            clear hl hlen9
            go_wp2_with fail
            go_loopw [10] (fun i wr => ∃ (b : Nat) (m : Nt (List UInt8)), b ≤ a ∧ i = .int .i64 (b : Int) ∧ m.under.length = b ∧ (∀ y, m.off y = false) ∧ sLp w wr [] g m) (fun i _ => (intOf i).toNat)
            case atStart => exact ⟨a, { n9 with off := fun y => if y = q then false else n9.off y, puts := n9.puts + 1 }, by omega, rfl, HAL.out, HOF2.out, H4.out⟩
            case round =>
              obtain ⟨b, m, hba, rfl, hmb, hmo, hl⟩ := hrel
              replace H4 := Lib.hid hl
              have HMO := Lib.hid hmo
              have HMB := Lib.hid hmb
              clear hl hmo hmb
              cases b with
              | succ b =>
                obtain ⟨y, hy1, hy2⟩ := take_head m b HMB.out HMO.out
                have HY1 := Lib.hid hy1
                have HY2 := Lib.hid hy2
                clear hy1 hy2
                go_wp2_with fail
                refine (H4.out.stake (w64 0 (by omega))).mono ?_
                rintro e w7 ⟨rfl, hl⟩
                rw [HY1.out] at hl ⊢
                have H5 := Lib.hid (hl.other (.cells #[.int .i64 y.id, .int .i64 y.frm, .int .i64 y.to, .string (txt y.m)] 47))
                rw [show (encO (some y)).toArray = #[.int .i64 y.id, .int .i64 y.frm, .int .i64 y.to, .string (txt y.m)] from rfl]
                clear hl
                go_wp2_with fail
                go_roundw
                case rel => exact ⟨b, _, by omega, by go_num, HY2.out, HMO.out, H5.out⟩
                case measure => first | (simp [intOf]; done) | (simp [intOf]; omega)
              | zero =>
                have HY1 := Lib.hid (take_none m HMB.out)
                go_wp2_with fail
                refine (H4.out.stake (w64 0 (by omega))).mono ?_
                rintro e w7 ⟨rfl, hl⟩
                rw [HY1.out] at hl ⊢
                have H5 := Lib.hid (hl.other (.cells #[.int .i64 0, .int .i64 0, .int .i64 0, .string ⟨#[]⟩] 47))
                rw [show (encO none).toArray = #[.int .i64 0, .int .i64 0, .int .i64 0, .string ⟨#[]⟩] from rfl]
                clear hl
                go_wp2_with fail
                go_ret
                exact ⟨rfl, H5.out.st.below⟩

set_option maxRecDepth 100000 in
theorem lifted (os : Os) (started : os.Started) (H : Type) (enc : TypeId × Value → H) :
    ReturnsInHanded {} Try.checked os 5 .any (Rows.postCutsSpec.pre6 enc Try.prog Try.f5 Rows.postCutsRow.domain false) (Rows.postCutsSpec.post enc Try.prog Try.f5 false true false false) := by
  refine returnsInHanded_of_change (C := Try.checked) own started (by kernel_rfl) Try.func5
    (ChangeSpec.witness6 (enc := enc) (C := Try.checked) false ⟨#[], #[.slice none 0 0, .int .u8 0], []⟩ 8 (by kernel_rfl) (by kernel_rfl) (by kernel_rfl) (by kernel_rfl)) ?_
  intro W base args ds gs before hval0 hW hcnd _
  have hval : ∀ (j : Nat) t v, Try.f5.params[j]? = some t → args[j]? = some v → Value.okWide Try.prog W .any base t v := hval0
  have hW' := hW
  obtain ⟨p, q, hA0, hV, rfl, hfz, hnd⟩ := hW
  have hA : DataW.TrodAll enc Try.prog W 0 (fun _ => true) true Try.f5.params.toList args.toList ds p := hA0
  rw [Try.params5] at hA hval
  obtain ⟨v0, vs0, d0, ds0, p0, q0, hargs, rfl, rfl, h0, r0⟩ := trodAll_cons hA
  obtain ⟨v1, vs1, d1, ds1, p1, q1, rfl, rfl, rfl, h1, r1⟩ := trodAll_cons r0
  obtain ⟨rfl, rfl, rfl⟩ := trodAll_nil r1
  obtain rfl : args = #[v0, v1] := by cases args; simp_all
  obtain ⟨rfl, rfl⟩ := trodVars_none hV
  obtain ⟨A0, len0, cap0, rfl⟩ := okWide_slice Try.underlying22 (hval 0 22 v0 rfl rfl)
  obtain ⟨l0, w0⟩ := open_posts h0
  have lt0 : ∀ x ∈ p0, x.block < W.heap.size := by obtain ⟨m, hm⟩ := h0; exact DataW.trod_lt m _ _ _ hm
  obtain ⟨a1, rfl⟩ := okWide_int Try.underlying5 (hval 1 5 v1 rfl rfl)
  have w1 : 0 ≤ a1 ∧ a1 ≤ 255 := by
    obtain ⟨m, hm⟩ := h1
    obtain ⟨s, hs, _, hl⟩ := DataW.trod_int Try.underlying5 hm
    simp [Value.cells] at hs
    rw [hs]; have := bounds_u8 hl; omega
  have lt1 : ∀ x ∈ p1, x.block < W.heap.size := by obtain ⟨m, hm⟩ := h1; exact DataW.trod_lt m _ _ _ hm
  clear hA0 hval0
  simp only [List.append_nil] at hW'
  refine (walk A0 len0 cap0 l0 a1 w1 W w0).mono fun e W' ⟨he, bel⟩ => ?_
  subst he
  exact ⟨_, rfl, _, _, _, [], _, [], hW', trodAll_mk1 (shut_bool Try.underlying4 _), (trodAll_cons_mk (Below.trod laidOut (by kernel_rfl) (of_decide_eq_true (by kernel_rfl)) h0 bel lt0) (trodAll_cons_mk (Below.trod laidOut (by kernel_rfl) (of_decide_eq_true (by kernel_rfl)) h1 bel lt1) trodAll_mk0)), rfl, bel.frame _, fun h => by cases h⟩

theorem proved : Rows.PostCutsSaid :=
  OpenClaim.holds_of_wide 5 Try.f5 rfl rfl rfl rfl rfl rfl rfl ⟨rfl, rfl, rfl, rfl, rfl⟩ rfl rfl rfl rfl rfl (by kernel_rfl) Try.func5 (by kernel_rfl)
    (of_decide_eq_true (by kernel_rfl)) (by unfold Func.isWrapper; first | (rw [if_pos (by decide +kernel)]; kernel_rfl) | (rw [if_neg (by decide +kernel)]; exact ⟨rfl, rfl⟩))
    (fun os started H enc _ => lifted os started H enc)
#print axioms proved
end Go.Proofs.Ytilnhelkkmhfhaa.postCuts
