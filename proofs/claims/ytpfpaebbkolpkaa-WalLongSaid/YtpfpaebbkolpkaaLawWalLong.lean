/- A load that is too long is refused, and changes nothing; there is no wal without a disk: moietylaw08.WalLong answers true. For every number of eight bits and text; no conditions. -/
import Derived.Test.YtpfpaebbkolpkaaWalB
namespace Go.Proofs.Ytpfpaebbkolpkaa.walLong
open Go.ChangeShapes Go.WideShapes Go.ChangeAt Go.RowKit Go.Dk Go.Fm Go.Wl
set_option linter.unusedVariables false
set_option linter.unusedSimpArgs false

theorem made_bytes (k : Nat) : madeCells #[.int .u8 0] (k * 1) = (Lib.byteCells (List.replicate k 0)).toArray := by
  have h := toList_madeCells_one (.int .u8 0) (k * 1)
  rw [← Array.toArray_toList (xs := madeCells #[.int .u8 0] (k * 1)), h, Nat.mul_one]
  unfold Lib.byteCells
  rw [List.map_replicate]
  rfl
/-- New bytes, all nought. -/
theorem make_bytes (k : Nat) (x : Int) (hx : x = k) (h : k ≤ 140737488355328) (w : World) : (Instr.makeSlice 52 (.int .i64 x) (.int .i64 x)).run Try.prog w = .ok (.slice (some ⟨w.heap.size, 0, none⟩) k k) (w.alloc (.cells (Lib.byteCells (List.replicate k 0)).toArray 5)) := by
  subst hx
  obtain ⟨i0, hi, hz0, hz1, hz2⟩ := info_parts info_byte
  have := run_make (P := Try.prog) w 52 5 i0 _ Try.underlying52 hi hz0 .i64 .i64 k k (by omega) (Int.le_refl _) (by rw [hz2]; omega) (by omega)
  rw [this, hz1, Int.toNat_natCast]
  have e := made_bytes k
  show Result.ok _ (w.alloc (.cells (madeCells #[.int .u8 0] (k * 1)) 5)) = _
  rw [e]
theorem inB_fresh (w : World) (Z : List UInt8) (hz : Z.length ≤ 9223372036854775807) : InB (w.alloc (.cells (Lib.byteCells Z).toArray 5)) (some ⟨w.heap.size, 0, none⟩) Z.length Z :=
  ⟨⟨w.heap.size + 1, by simp, seesB_whole (Whole.fresh w 5 _)⟩, Nat.le_refl _, hz, fun h => by cases h⟩
/-- Two loads, just built. -/
theorem shows_two {w : World} {b : Nat} {s Z : List UInt8} {a1 a2 : Addr} {c1 c2 : Nat} (h : Whole w b 52 #[.slice (some a1) s.length c1, .slice (some a2) Z.length c2]) (i1 : InB w (some a1) c1 s) (i2 : InB w (some a2) c2 Z) :
    ShowsL w w.heap.size (some ⟨b, 0, none⟩) [s, Z] ∧ ∀ (b' off k : Nat) l a c, (some ⟨b, 0, none⟩ : Option Addr) = some ⟨b', off, none⟩ → [s, Z][k]? = some l → w.cell? ⟨b', off + k, none⟩ = some (.slice a l.length c) → a = none → c = 0 := by
  have at_ : ∀ k l, [s, Z][k]? = some l → (k = 0 ∧ l = s) ∨ (k = 1 ∧ l = Z) := fun k l hl => by
    rcases k with _ | _ | k
    · exact .inl ⟨rfl, by simpa using hl.symm⟩
    · exact .inr ⟨rfl, by simpa using hl.symm⟩
    · simp at hl
  refine ⟨fun _ => ⟨b, 0, rfl, h.lt, fun k l hl => ?_⟩, fun b' off k l a c he hl hc hn => ?_⟩
  · rcases at_ k l hl with ⟨rfl, rfl⟩ | ⟨rfl, rfl⟩
    · obtain ⟨B, hB, hs⟩ := i1.sees
      exact ⟨_, _, h.cell 0, i1.room, i1.top, hs.more hB⟩
    · obtain ⟨B, hB, hs⟩ := i2.sees
      exact ⟨_, _, h.cell 1, i2.room, i2.top, hs.more hB⟩
  · injection he with he
    injection he with e1 e2
    subst e1 e2
    subst hn
    rcases at_ k l hl with ⟨rfl, rfl⟩ | ⟨rfl, rfl⟩
    · have := (h.cell 0).symm.trans hc
      simp at this
    · have := (h.cell 1).symm.trans hc
      simp at this
theorem fresh_long (v : Wv) (d : D) (ls : List (List UInt8)) (hd : v.dead = false) (h : ∃ l ∈ ls, 65536 < l.length) : v.fresh d ls = (d, v, 30) := by
  unfold Wv.fresh; rw [if_neg (by simp [hd]), if_pos h]
theorem append_long (v : Wv) (d : D) (l : List UInt8) (hd : v.dead = false) (h : 65536 < l.length) : v.append d l = (d, v, 30) := by
  unfold Wv.append; rw [if_neg (by simp [hd]), if_pos h]

set_option maxRecDepth 100000 in
set_option maxHeartbeats 8000000 in
theorem walk (a0 : Int) (ha : 0 ≤ a0 ∧ a0 ≤ 255) (l : List UInt8) (hl0 : l.length ≤ 9223372036854775807) (w : World) :
    Calls Try.prog 7 #[.int .u8 a0, .string (txt l)] w fun r w' => r = .returned (.bool true) ∧ Below w.heap.size w w' := by
  obtain ⟨r0, eo, es⟩ := new_runs 1 (by omega) (by omega) 0 (by omega)
  have hac0 : (D.new 1).acts = 0 := rfl
  have hah0 : (D.new 1).ahead = 0 := rfl
  have A0 := Lib.hid hac0
  have AH := Lib.hid hah0
  have R0 := Lib.hid r0
  have E0 := Lib.hid eo
  have S0 := Lib.hid es
  have HNEW := Lib.hid (fun (w : World) => new_lw (St.start w) 1 (by omega) (by omega))
  have HFEW := Lib.hid (few_text l hl0)
  obtain ⟨s, hs⟩ : ∃ s, s = l.take 1000 := ⟨_, rfl⟩
  have hsl : s.length ≤ 1000 := by rw [hs, List.length_take]; omega
  rw [← hs] at HFEW
  clear r0 eo es hac0 hah0 hs
  generalize D.new 1 = d0 at *
  go_enter Try.func7, Try.ntmps7
  go_wp2_with fail
  refine (HNEW.out _).mono ?_
  rintro e w1 ⟨g, rfl, hl⟩
  have H : Hid (Lw w w1 [] g d0) := Lib.hid hl
  clear hl HNEW
  go_wp2_with fail
  refine (H.out.wopen (w64 0 (by omega)) (by rw [A0.out]; omega) (by rw [E0.out])).mono ?_
  rintro e w2 ⟨p, h, R, rfl, hl, hp, hd, -, -⟩
  rw [S0.out, E0.out] at hl
  rw [S0.out]
  simp only [List.length_nil] at hl ⊢
  have HP : Hid (w.heap.size ≤ p) := Lib.hid (Nat.le_trans H.out.st.below.size hp)
  replace H : Hid (Lw w w2 [wrow p g ((⟨[], 0⟩ : Wk).wv 0)] g d0) := Lib.hid (hl.few (fun r hr => by rw [List.mem_singleton.1 hr]; exact List.mem_cons_self ..))
  clear hl hp hd
  have HD : Hid (∀ r ∈ ([] : List Row), r.1 ≠ p) := Lib.hid fun r hr => by cases hr
  go_wp2_with fail
  refine (open_no 0 _).mono ?_
  rintro e x ⟨rfl, ex⟩
  subst x
  go_wp2_with fail
  refine (awake_any _).mono ?_
  rintro e w3 ⟨rfl, hb⟩
  replace H := Lib.hid (H.out.call hb)
  clear hb
  go_wp2_with fail
  refine (HFEW.out _).mono ?_
  rintro e w4 ⟨rfl, hb⟩
  replace H := Lib.hid (H.out.call hb)
  clear hb HFEW
  obtain ⟨k, hk, hk3⟩ : ∃ k : Nat, (k : Int) = 65535 + a0 % 3 ∧ (k = 65535 ∨ k = 65536 ∨ k = 65537) := ⟨65535 + (a0 % 3).toNat, by omega, by omega⟩
  have mk1 := make_bytes k (65535 + a0 % 3) hk.symm (by omega)
  obtain ⟨Z, hZ⟩ : ∃ Z, Z = List.replicate k (0 : UInt8) := ⟨_, rfl⟩
  have HLZ : Hid (Z.length = k) := Lib.hid (by rw [hZ, List.length_replicate])
  rw [← hZ] at mk1
  clear hZ
  have HK := Lib.hid hk
  obtain ⟨c, w6, hcv, hin6, hb6⟩ : ∃ _ : Nat, ∃ _ : World, True ∧ True ∧ True := ⟨0, w4, trivial, trivial, trivial⟩
  clear c w6 hcv hin6 hb6
  have HZI := Lib.hid (fun w0 => inB_fresh w0 Z (by rw [HLZ.out]; omega))
  rw [HLZ.out] at HZI
  have hcase : k ≤ 65536 ∨ 65537 ≤ k := by omega
  have hk4 : k ≤ 65537 := by omega
  clear hk3
  rcases hcase with hsm | hbig
  · obtain ⟨d1, e1, r1, p1, -⟩ := R0.out.append (b := Z) (by rw [HLZ.out]; omega) (by rw [HLZ.out]; simp [frames]; omega) (by rw [AH.out]; omega)
    obtain ⟨d2, e2, r2, p2⟩ := r1.fresh (ls := [s, Z]) (fun x hx => by
      rcases List.mem_cons.1 hx with rfl | hx
      · omega
      · rw [List.mem_singleton.1 hx, HLZ.out]; omega) (by simp only [frames_cons, List.length_append, frame_length, HLZ.out]; simp [frames]; omega) (by rw [p1.ahead, AH.out]; omega)
    have E1 := Lib.hid e1
    have E2 := Lib.hid e2
    have A1 : Hid (d1.acts = 1) := Lib.hid (by rw [p1.acts, A0.out])
    have q1 : ¬ (65536 : Int) < 65535 + a0 % 3 := by omega
    have HC1 := Lib.hid ((H.out.other (.cells (Lib.byteCells Z).toArray 5)).wappend HP.out HD.out (w64 0 (by omega)) (by rw [A0.out]; omega) (by decide) (HZI.out w4 |> fun h => HLZ.out ▸ h))
    rw [HLZ.out, E1.out] at HC1
    clear e1 e2 r1 r2 p1 p2
    go_wp2_with fail
    refine HC1.out.mono ?_
    rintro e w5 ⟨rfl, hl⟩
    replace H := Lib.hid hl
    clear hl HC1
    obtain ⟨c, w6, hcv, hin6, hb6⟩ := text_bytes s (by omega) w5
    have HI6 := Lib.hid hin6
    have HB6 := Lib.hid hb6
    clear hin6 hb6
    have H8 := Lib.hid (((H.out.call HB6.out).other (.cells (Lib.byteCells Z).toArray 5)).other (.cells #[.slice (some ⟨w5.heap.size, 0, none⟩) s.length c, .slice (some ⟨w6.heap.size, 0, none⟩) Z.length k] 52))
    have hsh := shows_two (s := s) (Z := Z) (c1 := c) (c2 := k) (Whole.fresh (w6.alloc (.cells (Lib.byteCells Z).toArray 5)) 52 #[.slice (some ⟨w5.heap.size, 0, none⟩) s.length c, .slice (some ⟨w6.heap.size, 0, none⟩) Z.length k])
      ((HI6.out.call ((Below.refl _ _).alloc (Nat.le_refl _) (.cells (Lib.byteCells Z).toArray 5))).call ((Below.refl _ _).alloc (Nat.le_refl _) _)) ((HZI.out w6).call ((Below.refl _ _).alloc (Nat.le_refl _) _))
    have HC2 := Lib.hid (H8.out.wfresh (cap := 2) HP.out HD.out (w64 0 (by omega)) (by rw [A1.out]; omega) hsh.1 (Nat.le_refl _) (by simp) hsh.2)
    clear hsh H8
    rw [E2.out, HLZ.out] at HC2
    have hz6 : (w6.alloc (.cells (Lib.byteCells Z).toArray 5)).heap.size = w6.heap.size + 1 := by simp
    have hl2 : [s, Z].length = 2 := rfl
    rw [hz6, hl2] at HC2
    clear hz6 hl2
    go_wp2_with fail
    refine HC2.out.mono ?_
    rintro e w9 ⟨rfl, hl⟩
    replace H := Lib.hid hl
    clear hl HC2
    go_wp2_with fail
    refine H.out.wlen.mono ?_
    rintro e x ⟨rfl, ex⟩
    subst x
    go_wp2_with fail
    refine H.out.wsure.mono ?_
    rintro e x ⟨rfl, ex⟩
    subst x
    go_wp2_with fail
    go_ret
    exact ⟨rfl, H.out.st.below⟩
  · have hE1 : ((⟨[], 0⟩ : Wk).wv 0).append d0 Z = (d0, (⟨[], 0⟩ : Wk).wv 0, 30) := append_long _ _ _ rfl (by rw [HLZ.out]; omega)
    have hE2 : ((⟨[], 0⟩ : Wk).wv 0).fresh d0 [s, Z] = (d0, (⟨[], 0⟩ : Wk).wv 0, 30) := fresh_long _ _ _ rfl ⟨Z, by simp, by rw [HLZ.out]; omega⟩
    obtain ⟨d3, e3, r3, p3, -⟩ := R0.out.append (b := s) (by omega) (by simp [frames]; omega) (by rw [AH.out]; omega)
    have E1 := Lib.hid hE1
    have E2 := Lib.hid hE2
    have E3 := Lib.hid e3
    have q1 : (65536 : Int) < 65535 + a0 % 3 := by omega
    have HC1 := Lib.hid ((H.out.other (.cells (Lib.byteCells Z).toArray 5)).wappend HP.out HD.out (w64 0 (by omega)) (by rw [A0.out]; omega) (by decide) (HZI.out w4 |> fun h => HLZ.out ▸ h))
    rw [HLZ.out, E1.out] at HC1
    clear hE1 hE2 e3 r3 p3
    go_wp2_with fail
    refine HC1.out.mono ?_
    rintro e w5 ⟨rfl, hl⟩
    replace H := Lib.hid hl
    clear hl HC1
    obtain ⟨c, w6, hcv, hin6, hb6⟩ := text_bytes s (by omega) w5
    have HI6 := Lib.hid hin6
    have HB6 := Lib.hid hb6
    clear hin6 hb6
    have H8 := Lib.hid (((H.out.call HB6.out).other (.cells (Lib.byteCells Z).toArray 5)).other (.cells #[.slice (some ⟨w5.heap.size, 0, none⟩) s.length c, .slice (some ⟨w6.heap.size, 0, none⟩) Z.length k] 52))
    have hsh := shows_two (s := s) (Z := Z) (c1 := c) (c2 := k) (Whole.fresh (w6.alloc (.cells (Lib.byteCells Z).toArray 5)) 52 #[.slice (some ⟨w5.heap.size, 0, none⟩) s.length c, .slice (some ⟨w6.heap.size, 0, none⟩) Z.length k])
      ((HI6.out.call ((Below.refl _ _).alloc (Nat.le_refl _) (.cells (Lib.byteCells Z).toArray 5))).call ((Below.refl _ _).alloc (Nat.le_refl _) _)) ((HZI.out w6).call ((Below.refl _ _).alloc (Nat.le_refl _) _))
    have HC2 := Lib.hid (H8.out.wfresh (cap := 2) HP.out HD.out (w64 0 (by omega)) (by rw [A0.out]; omega) hsh.1 (Nat.le_refl _) (by simp) hsh.2)
    clear hsh H8
    rw [E2.out, HLZ.out] at HC2
    have hz6 : (w6.alloc (.cells (Lib.byteCells Z).toArray 5)).heap.size = w6.heap.size + 1 := by simp
    have hl2 : [s, Z].length = 2 := rfl
    rw [hz6, hl2] at HC2
    clear hz6 hl2
    go_wp2_with fail
    refine HC2.out.mono ?_
    rintro e w9 ⟨rfl, hl⟩
    replace H := Lib.hid hl
    clear hl HC2 hcv
    go_wp2_with fail
    refine H.out.wlen.mono ?_
    rintro e x ⟨rfl, ex⟩
    subst x
    obtain ⟨c9, w10, hcv9, hin9, hb9⟩ := text_bytes s (by omega) w9
    have HC3 := Lib.hid ((H.out.call hb9).wappend HP.out HD.out (w64 0 (by omega)) (by rw [A0.out]; omega) (by decide) hin9)
    rw [E3.out] at HC3
    clear hin9 hb9
    go_wp2_with fail
    refine HC3.out.mono ?_
    rintro e w11 ⟨rfl, hl⟩
    replace H := Lib.hid hl
    clear hl HC3
    go_wp2_with fail
    refine H.out.wlen.mono ?_
    rintro e x ⟨rfl, ex⟩
    subst x
    go_wp2_with fail
    go_ret
    exact ⟨rfl, H.out.st.below⟩

set_option maxRecDepth 100000 in
theorem lifted (os : Os) (started : os.Started) (H : Type) (enc : TypeId × Value → H) :
    ReturnsInHanded {} Try.checked os 7 .any (Rows.walLongSpec.pre6 enc Try.prog Try.f7 Rows.walLongRow.domain false) (Rows.walLongSpec.post enc Try.prog Try.f7 false true false false) := by
  refine returnsInHanded_of_change (C := Try.checked) own started (by kernel_rfl) Try.func7
    (ChangeSpec.witness6 (enc := enc) (C := Try.checked) false ⟨#[], #[.int .u8 0, .string ⟨#[]⟩], []⟩ 8 (by kernel_rfl) (by kernel_rfl) (by kernel_rfl) (by kernel_rfl)) ?_
  intro W base args ds gs before hval0 hW hcnd _
  have hval : ∀ (j : Nat) t v, Try.f7.params[j]? = some t → args[j]? = some v → Value.okWide Try.prog W .any base t v := hval0
  have hW' := hW
  obtain ⟨p, q, hA0, hV, rfl, hfz, hnd⟩ := hW
  have hA : DataW.TrodAll enc Try.prog W 0 (fun _ => true) true Try.f7.params.toList args.toList ds p := hA0
  rw [Try.params7] at hA hval
  obtain ⟨v0, vs0, d0, ds0, p0, q0, hargs, rfl, rfl, h0, r0⟩ := trodAll_cons hA
  obtain ⟨v1, vs1, d1, ds1, p1, q1, rfl, rfl, rfl, h1, r1⟩ := trodAll_cons r0
  obtain ⟨rfl, rfl, rfl⟩ := trodAll_nil r1
  obtain rfl : args = #[v0, v1] := by cases args; simp_all
  obtain ⟨rfl, rfl⟩ := trodVars_none hV
  obtain ⟨a0, rfl⟩ := okWide_int Try.underlying5 (hval 0 5 v0 rfl rfl)
  have w0 : 0 ≤ a0 ∧ a0 ≤ 255 := by
    obtain ⟨m, hm⟩ := h0
    obtain ⟨s, hs, _, hl⟩ := DataW.trod_int Try.underlying5 hm
    simp [Value.cells] at hs
    rw [hs]; have := bounds_u8 hl; omega
  have lt0 : ∀ x ∈ p0, x.block < W.heap.size := by obtain ⟨m, hm⟩ := h0; exact DataW.trod_lt m _ _ _ hm
  obtain ⟨a1, rfl⟩ := okWide_string Try.underlying9 (hval 1 9 v1 rfl rfl)
  have w1 : a1.size ≤ maxLen := by
    obtain ⟨m, hm⟩ := h1
    obtain ⟨s, hs, _, hl⟩ := DataW.trod_string Try.underlying9 hm
    simp [Value.cells] at hs
    rw [hs]; exact hl
  obtain ⟨l1, rfl⟩ : ∃ l, a1 = txt l := ⟨a1.data.toList, (txt_of _).symm⟩
  rw [txt_size] at w1; unfold maxLen at w1
  have lt1 : ∀ x ∈ p1, x.block < W.heap.size := by obtain ⟨m, hm⟩ := h1; exact DataW.trod_lt m _ _ _ hm
  clear hA0 hval0
  simp only [List.append_nil] at hW'
  refine (walk a0 w0 l1 w1 W ).mono fun e W' ⟨he, bel⟩ => ?_
  subst he
  exact ⟨_, rfl, _, _, _, [], _, [], hW', trodAll_mk1 (shut_bool Try.underlying4 _), (trodAll_cons_mk (Below.trod laidOut (by kernel_rfl) (of_decide_eq_true (by kernel_rfl)) h0 bel lt0) (trodAll_cons_mk (Below.trod laidOut (by kernel_rfl) (of_decide_eq_true (by kernel_rfl)) h1 bel lt1) trodAll_mk0)), rfl, bel.frame _, fun h => by cases h⟩

theorem proved : Rows.WalLongSaid :=
  OpenClaim.holds_of_wide 7 Try.f7 rfl rfl rfl rfl rfl rfl rfl ⟨rfl, rfl, rfl, rfl, rfl⟩ rfl rfl rfl rfl rfl (by kernel_rfl) Try.func7 (by kernel_rfl)
    (of_decide_eq_true (by kernel_rfl)) (by unfold Func.isWrapper; first | (rw [if_pos (by decide +kernel)]; kernel_rfl) | (rw [if_neg (by decide +kernel)]; exact ⟨rfl, rfl⟩))
    (fun os started H enc _ => lifted os started H enc)
#print axioms proved
end Go.Proofs.Ytpfpaebbkolpkaa.walLong
