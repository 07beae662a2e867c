/- Contracts of the reader's float, text and value. -/
import Derived.Test.YtmaeacklloaeaaaWireU
import Derived.Test.YtmaeacklloaeaaaWireV
namespace Go.Proofs.Ytmaeacklloaeaaa
open Go.RowKit Go.Fl Go.Wr
set_option linter.unusedVariables false
set_option linter.unusedSimpArgs false

theorem or_byte (n c : Nat) (hn : n < 72057594037927936) (hc : c < 256) : bits .or .u64 ((n : Int) * 256) (c : Int) = ((n * 256 + c : Nat) : Int) := by
  have e := u64_or_nat (n * 256) c (by omega) (by omega)
  rw [nat_join 8 (n * 256) c (Nat.mul_mod_left _ _) hc, Int.natCast_mul] at e
  exact e
theorem big_snoc (l : List UInt8) (c : UInt8) : big (l ++ [c]) = big l * 256 + c.toNat := by simp [big]

theorem readFloat (R B : Nat) (b : Option Addr) (cap : Nat) (bs : List UInt8) (pos : Nat) (beg : Int) (w : World) (h : Whole w R 54 #[.slice b bs.length cap, .int .i64 (pos : Int), .int .i64 beg])
    (hR : B ≤ R) (hs : Sees w B 1 b bs.length (Lib.byteCells bs)) (h1 : pos ≤ bs.length) (h2 : bs.length ≤ cap) (h3 : cap ≤ 9223372036854775807) :
    Calls Try.prog 43 #[.pointer (some ⟨R, 0, none⟩)] w (Reads (rdFloat (bs.drop pos)) (fun n => .float .f64 n) w R (.slice b bs.length cap) bs.length beg) := by
  have H := Lib.hid h
  have HS := Lib.hid hs
  have HL := h.lt
  clear h hs
  by_cases hend : pos + 8 ≤ bs.length
  · obtain ⟨bl, hbl⟩ : ∃ bl, bl = (bs.drop pos).take 8 := ⟨_, rfl⟩
    have hbll : bl.length = 8 := by rw [hbl, List.length_take, List.length_drop]; omega
    have hbig := big_lt bl
    rw [hbll] at hbig
    have HRD : Hid (rdFloat (bs.drop pos) = if usu (big bl) ≠ big bl then .err 25 else .ok (big bl) (bs.drop (pos + 8))) := by
      refine Lib.hid ?_
      unfold rdFloat
      rw [if_neg (by rw [List.length_drop]; omega), ← hbl, List.drop_drop]
    have HLL := Lib.hid hbll
    have HBG := Lib.hid hbig
    clear hbll hbig
    go_enter Try.func43, Try.ntmps43
    go_wp2_with fail
    refine (take_ok R B b cap bs pos 8 beg _ H.out hR HS.out (by omega) h2 h3).mono ?_
    rintro e w1 ⟨A, c', rfl, hc1, hc2, hsee, hwh, hgr⟩
    rw [← hbl] at hsee
    obtain ⟨b1, o1, rfl, hb1, hcs⟩ := hsee.2 (by omega)
    have HW1 := Lib.hid hwh
    have HG1 := Lib.hid hgr
    have HCS := Lib.hid hcs
    clear hwh hgr hcs hsee hbl
    go_wp2_with fail
    go_loop [3, 10] (fun n i => ∃ k : Nat, k ≤ 8 ∧ i = .int .i64 (k : Int) ∧ n = .int .u64 ((big (bl.take k) : Nat) : Int)) (fun _ i => (8 - intOf i).toNat)
    case atStart => exact ⟨0, by omega, rfl, rfl⟩
    case round =>
      obtain ⟨k, hk, rfl, rfl⟩ := hrel
      by_cases hlt : k < 8
      · have hkl : k < bl.length := by rw [HLL.out]; exact hlt
        have hcell := HCS.out k (.int .u8 (bl[k].toNat : Int)) (by unfold Lib.byteCells; rw [List.getElem?_map, List.getElem?_eq_getElem hkl]; rfl)
        have hcl := bl[k].toNat_lt
        have hb : big (bl.take k) < 72057594037927936 := by
          have := big_lt (bl.take k)
          rw [List.length_take, HLL.out] at this
          have h4 : 256 ^ min k 8 ≤ 256 ^ 7 := Nat.pow_le_pow_right (by omega) (by omega)
          simp only [Nat.reducePow] at h4
          omega
        have HSN : Hid (big (bl.take (k + 1)) = big (bl.take k) * 256 + bl[k].toNat) := Lib.hid (by rw [List.take_succ_eq_append_getElem hkl, big_snoc])
        generalize bl[k].toNat = ci at *
        generalize big (bl.take k) = n at *
        have HO := Lib.hid (or_byte n ci hb (by omega))
        go_wp2_with fail
        go_round
        case rel => exact ⟨k + 1, by omega, by go_num, by rw [HO.out, HSN.out]⟩
        case measure => simp [intOf]; omega
      · have hk8 : k = 8 := by omega
        subst hk8
        rw [List.take_of_length_le (by rw [HLL.out]; omega)]
        have hn : big bl < 18446744073709551616 := by simpa using HBG.out
        have HU := Lib.hid (usual_any (big bl) hn)
        have hu := usu_lt hn
        have HRD2 := Lib.hid HRD.out
        clear HRD HBG
        generalize big bl = n at *
        by_cases hq : usu n = n
        · have HR : Hid (rdFloat (bs.drop pos) = .ok n (bs.drop (pos + 8))) := Lib.hid (by rw [HRD2.out, if_neg (by simpa using hq)])
          rw [hq] at HU
          have hne : ((n : Int) != (n : Int)) = false := by simp
          clear hq hu
          go_wp2_with fail
          refine (HU.out _).mono ?_
          rintro e w2 ⟨rfl, rfl⟩
          go_wp2_with fail
          go_ret
          rw [HR.out]
          refine ⟨rfl, ?_, HG1.out⟩
          rw [List.length_drop, show bs.length - (bs.length - (pos + 8)) = pos + 8 by omega]; exact HW1.out
        · have HR : Hid (rdFloat (bs.drop pos) = .err 25) := Lib.hid (by rw [HRD2.out, if_pos (by simpa using hq)])
          have hne : (((usu n : Nat) : Int) != (n : Int)) = true := by simpa using (by omega : ¬ ((usu n : Nat) : Int) = (n : Int))
          clear hq
          generalize usu n = q at *
          go_wp2_with fail
          refine (HU.out _).mono ?_
          rintro e w2 ⟨rfl, rfl⟩
          go_wp2_with fail
          refine (fail_any R _ _ beg 25 _ HW1.out).mono ?_
          rintro e w3 ⟨rfl, rfl⟩
          go_wp2_with fail
          refine bodyPost_panic rfl ?_
          rw [HR.out]
          exact ⟨rfl, HG1.out⟩
  · have HR : Hid (rdFloat (bs.drop pos) = .err 22) := Lib.hid (rdFloat_cut (by rw [List.length_drop]; omega))
    go_enter Try.func43, Try.ntmps43
    go_wp2_with fail
    refine (take_short R b bs.length cap _ beg 8 _ H.out (by omega) (by omega) (by omega) (by omega) (by omega)).mono ?_
    rintro e w1 ⟨rfl, k, rfl⟩
    go_wp2_with fail
    refine bodyPost_panic rfl ?_
    rw [HR.out]
    exact ⟨rfl, grow_drewN (grow_refl _ _) k⟩

theorem conv_bytes (bl : List UInt8) (A : Option Addr) (c B : Nat) (w : World) (h : Sees w B 1 A bl.length (Lib.byteCells bl)) :
    (convert 25 9 (.slice A bl.length c)).run Try.prog w = .ok (.string ⟨bl.toArray⟩) w := by
  rcases Nat.eq_zero_or_pos bl.length with h0 | h0
  · obtain rfl : bl = [] := List.eq_nil_of_length_eq_zero h0
    cases A with
    | none => rw [run_convert_bytes_string w 25 9 5 none _ c Try.underlying25 Try.underlying5 Try.underlying9]; rfl
    | some a => exact run_convert_bytes_back w 25 9 5 a c [] Try.underlying25 Try.underlying5 Try.underlying9 (fun j hj => by simp at hj)
  · obtain ⟨b, off, rfl, hb, hc⟩ := h.2 h0
    refine run_convert_bytes_back w 25 9 5 ⟨b, off, none⟩ c bl Try.underlying25 Try.underlying5 Try.underlying9 fun j hj => ?_
    have := hc j (.int .u8 (bl[j].toNat : Int)) (by unfold Lib.byteCells; rw [List.getElem?_map, List.getElem?_eq_getElem hj]; rfl)
    rw [show (⟨b, off, none⟩ : Addr).add j = ⟨b, off + j, none⟩ by simp [Addr.add]]
    exact this

theorem rdNum_len (l : List UInt8) (n : Nat) (r : List UInt8) (h : rdNum 0 0 l = .ok n r) : r.length < l.length ∧ r = l.drop (l.length - r.length) := by
  obtain ⟨m, _, _, _, h4⟩ := rdNum_only l 0 0 n r (by omega) h
  have := rdNum_lt l 0 0 n r h
  refine ⟨this, ?_⟩
  have hl := congrArg List.length h4
  rw [List.length_append] at hl
  conv => rhs; rw [h4]
  rw [List.length_append, show (num m).length + r.length - r.length = (num m).length by omega, List.drop_left]

theorem readText (R B : Nat) (b : Option Addr) (cap : Nat) (bs : List UInt8) (pos : Nat) (beg : Int) (w : World) (h : Whole w R 54 #[.slice b bs.length cap, .int .i64 (pos : Int), .int .i64 beg])
    (hR : B ≤ R) (hs : Sees w B 1 b bs.length (Lib.byteCells bs)) (h1 : pos ≤ bs.length) (h2 : bs.length ≤ cap) (h3 : cap ≤ 9223372036854775807) :
    Calls Try.prog 44 #[.pointer (some ⟨R, 0, none⟩)] w (Reads (rdText (bs.drop pos)) (fun s => .string s) w R (.slice b bs.length cap) bs.length beg) := by
  have HL := h.lt
  have HN := Lib.hid (readNumber R B b cap bs pos beg w h hR hs h1 h2 h3)
  have HS := Lib.hid hs
  clear h hs
  cases hrd : rdNum 0 0 (bs.drop pos) with
  | err x =>
    have HR : Hid (rdText (bs.drop pos) = .err x) := Lib.hid (by unfold rdText; rw [hrd])
    rw [hrd] at HN
    clear hrd
    go_enter Try.func44, Try.ntmps44
    go_wp2_with fail
    refine (HN.out).mono ?_
    rintro e w1 ⟨rfl, hg⟩
    have HG := Lib.hid hg
    clear hg
    go_wp2_with fail
    refine bodyPost_panic rfl ?_
    rw [HR.out]
    exact ⟨rfl, HG.out⟩
  | ok n r =>
    have hlen := rdNum_len _ _ _ hrd
    rw [List.length_drop] at hlen
    obtain ⟨m, hm0, hm1, _, _⟩ := rdNum_only _ _ _ _ _ (by omega) hrd
    have hn : n < 18446744073709551616 := by simp at hm0 hm1; omega
    have HRD : Hid (rdText (bs.drop pos) = if 1000 < n then .err 24 else if r.length < n then .err 22 else .ok ⟨(r.take n).toArray⟩ (r.drop n)) := Lib.hid (by unfold rdText; rw [hrd])
    rw [hrd] at HN
    obtain ⟨p2, hp2⟩ : ∃ p2, p2 = bs.length - r.length := ⟨_, rfl⟩
    have hr : r = bs.drop p2 := by
      rw [hlen.2, List.drop_drop]; congr 1; omega
    have hp3 : p2 ≤ bs.length := by omega
    have hr2 : r.length = bs.length - p2 := by omega
    have HP2 := Lib.hid hp2
    have HRR := Lib.hid hr
    have HR2 := Lib.hid hr2
    clear hrd hm0 hm1 hlen hr hp2 hr2
    by_cases hbig : 1000 < n
    · have HR : Hid (rdText (bs.drop pos) = .err 24) := Lib.hid (by rw [HRD.out, if_pos hbig])
      clear HRD
      go_enter Try.func44, Try.ntmps44
      go_wp2_with fail
      refine (HN.out).mono ?_
      rintro e w1 ⟨rfl, hwh, hg⟩
      have HG := Lib.hid hg
      have HW1 := Lib.hid hwh
      clear hg hwh
      go_wp2_with fail
      refine (fail_any R _ _ beg 24 _ HW1.out).mono ?_
      rintro e w3 ⟨rfl, rfl⟩
      go_wp2_with fail
      refine bodyPost_panic rfl ?_
      rw [HR.out]
      exact ⟨rfl, HG.out⟩
    · have hw1 : IntKind.i64.wrap (n : Int) = (n : Int) := by rw [IntKind.wrap_i64]; omega
      by_cases hsh : r.length < n
      · have HR : Hid (rdText (bs.drop pos) = .err 22) := Lib.hid (by rw [HRD.out, if_neg hbig, if_pos hsh])
        have hsh2 : bs.length - p2 < n := by rw [HR2.out] at hsh; exact hsh
        clear HRD hsh
        go_enter Try.func44, Try.ntmps44
        go_wp2_with fail
        refine (HN.out).mono ?_
        rintro e w1 ⟨rfl, hwh, hg⟩
        rw [← HP2.out] at hwh
        have HG := Lib.hid hg
        have HW1 := Lib.hid hwh
        clear hg hwh
        go_wp2_with fail
        refine (take_short R b bs.length cap _ beg _ _ HW1.out (by omega) (by omega) (by omega) (by omega) (by omega)).mono ?_
        rintro e w2 ⟨rfl, k, rfl⟩
        go_wp2_with fail
        refine bodyPost_panic rfl ?_
        rw [HR.out]
        exact ⟨rfl, grow_drewN HG.out k⟩
      · have HR : Hid (rdText (bs.drop pos) = .ok ⟨(r.take n).toArray⟩ (r.drop n)) := Lib.hid (by rw [HRD.out, if_neg hbig, if_neg hsh])
        have hsh2 : p2 + n ≤ bs.length := by rw [HR2.out] at hsh; omega
        clear HRD hsh
        go_enter Try.func44, Try.ntmps44
        go_wp2_with fail
        refine (HN.out).mono ?_
        rintro e w1 ⟨rfl, hwh, hg⟩
        rw [← HP2.out] at hwh
        have HG := Lib.hid hg
        have HW1 := Lib.hid hwh
        have HS1 := Lib.hid (HS.out.grow hg hR (by omega))
        clear hg hwh
        go_wp2_with fail
        refine (take_ok R B b cap bs p2 n beg _ HW1.out hR HS1.out hsh2 h2 h3).mono ?_
        rintro e w2 ⟨A, c', rfl, hc1, hc2, hsee, hwh2, hgr⟩
        have hcv := conv_bytes ((bs.drop p2).take n) A c' B w2 (by
          rw [show ((bs.drop p2).take n).length = n by rw [List.length_take, List.length_drop]; omega]; exact hsee)
        rw [show ((bs.drop p2).take n).length = n by rw [List.length_take, List.length_drop]; omega, ← HRR.out] at hcv
        have HW2 := Lib.hid hwh2
        have HG2 := Lib.hid (grow_trans HG.out hgr)
        clear hwh2 hgr hsee
        generalize (⟨(r.take n).toArray⟩ : ByteArray) = str at *
        go_wp2_with fail
        go_ret
        rw [HR.out]
        refine ⟨rfl, ?_, HG2.out⟩
        rw [List.length_drop, HR2.out, show bs.length - (bs.length - p2 - n) = p2 + n by omega]; exact HW2.out
end Go.Proofs.Ytmaeacklloaeaaa
