/- A log takes as much as it may, to the last byte, and no more: moietylaw07.DiskFull answers true. For every number of eight bits and text; no conditions. -/
import Derived.Test.YtllbfoohhonmeaaDiskP
namespace Go.Proofs.Ytllbfoohhonmeaa.diskFull
open Go.ChangeShapes Go.WideShapes Go.ChangeAt Go.RowKit Go.Dk
set_option linter.unusedVariables false
set_option linter.unusedSimpArgs false

def one (b : List UInt8) (s : Nat) (i : Nat) : D := ⟨[⟨b, s⟩], i, false, 0, [0]⟩
theorem one_of (b : List UInt8) (s i : Nat) : (one b s i).of 0 = ⟨b, s⟩ := rfl
theorem one_check (b : List UInt8) (s i : Nat) : (one b s i).check 0 = 0 := rfl
theorem one_read (b : List UInt8) (s i : Nat) : (one b s i).read 0 = b := rfl
theorem new_one : D.new 1 = one [] 0 0 := rfl
theorem swap_fits (b0 : List UInt8) (s0 i : Nat) (b : List UInt8) (h : b.length ≤ 4194304) : (one b0 s0 i).swap 0 b = (one b b.length (i + 1), 0) := by
  unfold D.swap D.act
  rw [if_neg (show ¬ (one b0 s0 i).check 0 ≠ 0 by rw [one_check]; simp), if_neg (by omega), if_neg (show ¬ (one b0 s0 i).ahead = 1 from fun h => by cases h)]
  rfl
theorem swap_full (b0 : List UInt8) (s0 i : Nat) (b : List UInt8) (h : 4194304 < b.length) : (one b0 s0 i).swap 0 b = (one b0 s0 i, 72) := by
  unfold D.swap D.act
  rw [if_neg (show ¬ (one b0 s0 i).check 0 ≠ 0 by rw [one_check]; simp), if_pos h]
theorem append_fits (b0 : List UInt8) (s0 i : Nat) (b : List UInt8) (h : b0.length + b.length ≤ 4194304) : (one b0 s0 i).append 0 b = (one (b0 ++ b) s0 (i + 1), 0) := by
  unfold D.append D.act
  rw [if_neg (show ¬ (one b0 s0 i).check 0 ≠ 0 by rw [one_check]; simp), one_of, if_neg (by dsimp only; omega), if_neg (show ¬ (one b0 s0 i).ahead = 1 from fun h => by cases h)]
  rfl
theorem append_full (b0 : List UInt8) (s0 i : Nat) (b : List UInt8) (h : 4194304 < b0.length + b.length) : (one b0 s0 i).append 0 b = (one b0 s0 i, 72) := by
  unfold D.append D.act
  rw [if_neg (show ¬ (one b0 s0 i).check 0 ≠ 0 by rw [one_check]; simp), one_of, if_pos (by exact h)]
theorem made_bytes (k : Nat) : madeCells #[.int .u8 0] (k * 1) = (Lib.byteCells (List.replicate k 0)).toArray := by
  have h := toList_madeCells_one (.int .u8 0) (k * 1)
  rw [← Array.toArray_toList (xs := madeCells #[.int .u8 0] (k * 1)), h, Nat.mul_one]
  unfold Lib.byteCells
  rw [List.map_replicate]
  rfl
/-- New bytes, all nought. -/
theorem make_bytes (k : Nat) (x : Int) (hx : x = k) (h : k ≤ 140737488355328) (w : World) : (Instr.makeSlice 41 (.int .i64 x) (.int .i64 x)).run Try.prog w = .ok (.slice (some ⟨w.heap.size, 0, none⟩) k k) (w.alloc (.cells (Lib.byteCells (List.replicate k 0)).toArray 5)) := by
  subst hx
  obtain ⟨i0, hi, hz0, hz1, hz2⟩ := info_parts info_byte
  have := run_make (P := Try.prog) w 41 5 i0 _ Try.underlying41 hi hz0 .i64 .i64 k k (by omega) (Int.le_refl _) (by rw [hz2]; omega) (by omega)
  rw [this, hz1, Int.toNat_natCast]
  have e := made_bytes k
  show Result.ok _ (w.alloc (.cells (madeCells #[.int .u8 0] (k * 1)) 5)) = _
  rw [e]

set_option maxRecDepth 100000 in
set_option maxHeartbeats 8000000 in
theorem walk (a0 : Int) (ha : 0 ≤ a0 ∧ a0 ≤ 255) (l : List UInt8) (hl0 : l.length ≤ 9223372036854775807) (w : World) :
    Calls Try.prog 4 #[.int .u8 a0, .string (txt l)] w fun r w' => r = .returned (.bool true) ∧ Below w.heap.size w w' := by
  obtain ⟨n, rfl⟩ : ∃ n : Nat, a0 = n := ⟨a0.toNat, by omega⟩
  have hn255 : n ≤ 255 := by omega
  clear ha
  obtain ⟨k, hk⟩ : ∃ k : Nat, (k : Int) = 4194304 - (n : Int) := ⟨4194304 - n, by omega⟩
  obtain ⟨m, hm⟩ : ∃ m : Nat, (m : Int) = 4194305 + (n : Int) := ⟨4194305 + n, by omega⟩
  have mk1 := make_bytes k (4194304 - (n : Int)) hk.symm (by omega)
  have mk2 := make_bytes m (4194305 + (n : Int)) hm.symm (by omega)
  obtain ⟨Z1, hZ1⟩ : ∃ Z, Z = List.replicate k (0 : UInt8) := ⟨_, rfl⟩
  obtain ⟨Z2, hZ2⟩ : ∃ Z, Z = List.replicate m (0 : UInt8) := ⟨_, rfl⟩
  have HL1 : Hid (Z1.length = k) := Lib.hid (by rw [hZ1, List.length_replicate])
  have HL2 : Hid (Z2.length = m) := Lib.hid (by rw [hZ2, List.length_replicate])
  rw [← hZ1] at mk1
  rw [← hZ2] at mk2
  have HK := Lib.hid hk
  have HM := Lib.hid hm
  clear hZ1 hZ2 hk hm
  have hsz : (txt l).size = l.length := txt_size l
  have hlong : (600 : Int) < l.length ∨ ¬ (600 : Int) < l.length := by omega
  obtain ⟨s, hs⟩ : ∃ s, s = l.take 600 := ⟨_, rfl⟩
  have hsl : s.length ≤ 600 := by rw [hs, List.length_take]; omega
  have HEX : Hid ((txt l).extract 0 600 = txt s) := Lib.hid (by
    rw [hs]
    unfold txt
    apply ByteArray.ext
    simp)
  have HSM : Hid (¬ (600 : Int) < l.length → txt l = txt s ∧ l.length = s.length) := Lib.hid fun h => by
    rw [hs, List.take_of_length_le (by omega)]
    exact ⟨rfl, rfl⟩
  have hss : (txt s).size = s.length := txt_size s
  clear hs
  have hfull : (4194304 < k + s.length) ∨ ¬ (4194304 < k + s.length) := by omega
  rcases hlong with h1 | h1
  case' inl => have hex := HEX.out
  case' inr =>
    rw [(HSM.out h1).1]
    have h2 : ¬ (600 : Int) < s.length := by omega
  all_goals
    rcases hfull with hf | hf
    case' inl =>
      obtain ⟨D3, HD3⟩ : ∃ D3, Hid (D3 = one Z1 k 1) := ⟨_, Lib.hid rfl⟩
      have HA : Hid ((one Z1 k 1).append 0 s = (D3, 72)) := Lib.hid (by rw [HD3.out]; exact append_full Z1 k 1 s (by rw [HL1.out]; exact hf))
      have HR : Hid (D3.check 0 = 0 ∧ D3.read 0 = Z1 ∧ Z1.length = k ∧ D3.acts = 1 ∧ (D3.swap 0 Z2) = (D3, 72)) := Lib.hid (by
        rw [HD3.out]
        exact ⟨rfl, rfl, HL1.out, rfl, swap_full _ _ _ _ (by have := HL2.out; have := HM.out; omega)⟩)
      obtain ⟨T, HT⟩ : ∃ T, Hid (T = Z1) := ⟨_, Lib.hid rfl⟩
      rw [← HT.out] at HR
      have HTL : Hid (T.length = k) := Lib.hid (by rw [HT.out]; exact HL1.out)
      have k1 : (4194304 : Int) < 4194304 - (n : Int) + s.length := by have := HK.out; omega
    case' inr =>
      obtain ⟨D3, HD3⟩ : ∃ D3, Hid (D3 = one (Z1 ++ s) k 2) := ⟨_, Lib.hid rfl⟩
      have HA : Hid ((one Z1 k 1).append 0 s = (D3, 0)) := Lib.hid (by rw [HD3.out]; exact append_fits Z1 k 1 s (by rw [HL1.out]; omega))
      have HR : Hid (D3.check 0 = 0 ∧ D3.read 0 = Z1 ++ s ∧ (Z1 ++ s).length = k + s.length ∧ D3.acts = 2 ∧ (D3.swap 0 Z2) = (D3, 72)) := Lib.hid (by
        rw [HD3.out]
        exact ⟨rfl, rfl, by rw [List.length_append, HL1.out], rfl, swap_full _ _ _ _ (by have := HL2.out; have := HM.out; omega)⟩)
      obtain ⟨T, HT⟩ : ∃ T, Hid (T = Z1 ++ s) := ⟨_, Lib.hid rfl⟩
      rw [← HT.out] at HR
      have HTL : Hid (T.length = k + s.length) := Lib.hid (by rw [HT.out, List.length_append, HL1.out])
      have k1 : ¬ (4194304 : Int) < 4194304 - (n : Int) + s.length := by have := HK.out; omega
  all_goals
    obtain ⟨r1, r2, -, r4, r5⟩ := HR.out
    have HR1 := Lib.hid r1
    have HR2 := Lib.hid r2
    have HR4 := Lib.hid r4
    have HR5 := Lib.hid r5
    have hacts : D3.acts + 1 ≤ 9223372036854775807 := by omega
    have HAC := Lib.hid hacts
    have HF := Lib.hid hf
    clear HR r1 r2 r4 r5 HD3 hacts hf
    go_enter Try.func4, Try.ntmps4
    go_wp2_with fail
    refine (new_lw (St.start w) 1 (by omega) (by omega)).mono ?_
    rintro e w1 ⟨g, rfl, hl⟩
    rw [new_one] at hl
    have H := Lib.hid hl
    clear hl
    go_wp2_with fail
    refine (awake_any _).mono ?_
    rintro e w2 ⟨rfl, hb⟩
    replace H := Lib.hid (H.out.call hb)
    clear hb
    have HSW := Lib.hid ((H.out.other (.cells (Lib.byteCells Z1).toArray 5)).swap (w64 0 (by omega)) (by show 0 + 1 ≤ _; omega) (inB_mark w2 Z1 (0, 0) (by have := HL1.out; have := HK.out; omega)))
    rw [swap_fits _ _ _ _ (by have := HL1.out; have := HK.out; omega), HL1.out] at HSW
    go_wp2_with fail
    refine HSW.out.mono ?_
    rintro e w3 ⟨rfl, hl⟩
    replace H : Hid (Lw w w3 [] g (one Z1 k 1)) := Lib.hid hl
    clear hl HSW
    obtain ⟨tc, w4, htr, hin, htb⟩ := text_run s (by omega) w3
    have HAP := Lib.hid ((H.out.call htb).append (w64 0 (by omega)) (by omega) (by show 1 + 1 ≤ _; omega) hin)
    rw [HA.out] at HAP
    clear hin htb
    go_wp2_with fail
    refine HAP.out.mono ?_
    rintro e w5 ⟨rfl, hl⟩
    replace H := Lib.hid hl
    clear hl HAP htr
    go_wp2_with fail
    refine (H.out.read (w64 0 (by omega))).mono ?_
    rintro e w6 ⟨v, rfl, ho, hb⟩
    rw [HR1.out]
    rw [HR2.out] at ho
    obtain ⟨A5, cap5, rfl, -⟩ := OwnB.slice ho
    replace H := Lib.hid (H.out.call hb)
    rw [HTL.out]
    clear ho hb
    have HSW := Lib.hid ((H.out.other (.cells (Lib.byteCells Z2).toArray 5)).swap (w64 0 (by omega)) HAC.out (inB_mark w6 Z2 (0, 0) (by have := HL2.out; have := HM.out; omega)))
    rw [HR5.out, HL2.out] at HSW
    go_wp2_with fail
    refine HSW.out.mono ?_
    rintro e w7 ⟨rfl, hl⟩
    replace H := Lib.hid hl
    clear hl HSW
    have hk := HK.out
    go_wp2_with fail
    refine H.out.acts.mono ?_
    rintro e x ⟨rfl, ex⟩
    subst x
    rw [HR4.out]
    go_wp2_with fail
    go_ret
    exact ⟨rfl, H.out.st.below⟩

set_option maxRecDepth 100000 in
theorem lifted (os : Os) (started : os.Started) (H : Type) (enc : TypeId × Value → H) :
    ReturnsInHanded {} Try.checked os 4 .any (Rows.diskFullSpec.pre6 enc Try.prog Try.f4 Rows.diskFullRow.domain false) (Rows.diskFullSpec.post enc Try.prog Try.f4 false true false false) := by
  refine returnsInHanded_of_change (C := Try.checked) own started (by kernel_rfl) Try.func4
    (ChangeSpec.witness6 (enc := enc) (C := Try.checked) false ⟨#[], #[.int .u8 0, .string ⟨#[]⟩], []⟩ 8 (by kernel_rfl) (by kernel_rfl) (by kernel_rfl) (by kernel_rfl)) ?_
  intro W base args ds gs before hval0 hW hcnd _
  have hval : ∀ (j : Nat) t v, Try.f4.params[j]? = some t → args[j]? = some v → Value.okWide Try.prog W .any base t v := hval0
  have hW' := hW
  obtain ⟨p, q, hA0, hV, rfl, hfz, hnd⟩ := hW
  have hA : DataW.TrodAll enc Try.prog W 0 (fun _ => true) true Try.f4.params.toList args.toList ds p := hA0
  rw [Try.params4] at hA hval
  obtain ⟨v0, vs0, d0, ds0, p0, q0, hargs, rfl, rfl, h0, r0⟩ := trodAll_cons hA
  obtain ⟨v1, vs1, d1, ds1, p1, q1, rfl, rfl, rfl, h1, r1⟩ := trodAll_cons r0
  obtain ⟨rfl, rfl, rfl⟩ := trodAll_nil r1
  obtain rfl : args = #[v0, v1] := by cases args; simp_all
  obtain ⟨rfl, rfl⟩ := trodVars_none hV
  obtain ⟨a0, rfl⟩ := okWide_int Try.underlying5 (hval 0 5 v0 rfl rfl)
  have w0 : 0 ≤ a0 ∧ a0 ≤ 255 := by
    obtain ⟨m, hm⟩ := h0
    obtain ⟨s, hs, _, hl⟩ := DataW.trod_int Try.underlying5 hm
    simp [Value.cells] at hs
    rw [hs]; have := bounds_u8 hl; omega
  have lt0 : ∀ x ∈ p0, x.block < W.heap.size := by obtain ⟨m, hm⟩ := h0; exact DataW.trod_lt m _ _ _ hm
  obtain ⟨a1, rfl⟩ := okWide_string Try.underlying9 (hval 1 9 v1 rfl rfl)
  have w1 : a1.size ≤ maxLen := by
    obtain ⟨m, hm⟩ := h1
    obtain ⟨s, hs, _, hl⟩ := DataW.trod_string Try.underlying9 hm
    simp [Value.cells] at hs
    rw [hs]; exact hl
  obtain ⟨l1, rfl⟩ : ∃ l, a1 = txt l := ⟨a1.data.toList, (txt_of _).symm⟩
  rw [txt_size] at w1; unfold maxLen at w1
  have lt1 : ∀ x ∈ p1, x.block < W.heap.size := by obtain ⟨m, hm⟩ := h1; exact DataW.trod_lt m _ _ _ hm
  clear hA0 hval0
  simp only [List.append_nil] at hW'
  refine (walk a0 w0 l1 w1 W ).mono fun e W' ⟨he, bel⟩ => ?_
  subst he
  exact ⟨_, rfl, _, _, _, [], _, [], hW', trodAll_mk1 (shut_bool Try.underlying4 _), (trodAll_cons_mk (Below.trod laidOut (by kernel_rfl) (of_decide_eq_true (by kernel_rfl)) h0 bel lt0) (trodAll_cons_mk (Below.trod laidOut (by kernel_rfl) (of_decide_eq_true (by kernel_rfl)) h1 bel lt1) trodAll_mk0)), rfl, bel.frame _, fun h => by cases h⟩

theorem proved : Rows.DiskFullSaid :=
  OpenClaim.holds_of_wide 4 Try.f4 rfl rfl rfl rfl rfl rfl rfl ⟨rfl, rfl, rfl, rfl, rfl⟩ rfl rfl rfl rfl rfl (by kernel_rfl) Try.func4 (by kernel_rfl)
    (of_decide_eq_true (by kernel_rfl)) (by unfold Func.isWrapper; first | (rw [if_pos (by decide +kernel)]; kernel_rfl) | (rw [if_neg (by decide +kernel)]; exact ⟨rfl, rfl⟩))
    (fun os started H enc _ => lifted os started H enc)
#print axioms proved
end Go.Proofs.Ytllbfoohhonmeaa.diskFull
