/- Contracts of the program's calls at layer 7: the faces. -/
import Derived.Test.YtlfigbgcackimaaDiskB
namespace Go.Proofs.Ytlfigbgcackimaa
open Go.RowKit Go.Dk
set_option linter.unusedVariables false
set_option linter.unusedSimpArgs false
set_option maxRecDepth 100000

@[go_sem] theorem field_bytes (A : Option Addr) (n c : Nat) (m : Int) (w : World) : (Instr.field 94 (.agg #[.slice A n c, .int .i64 m]) 0).run Try.prog w = .ok (.slice A n c) w := by rfl
@[go_sem] theorem field_sure (A : Option Addr) (n c : Nat) (m : Int) (w : World) : (Instr.field 94 (.agg #[.slice A n c, .int .i64 m]) 1).run Try.prog w = .ok (.int .i64 m) w := by rfl
theorem of_slice (g h k : Nat) (vs : Nat → Value) (d : D) (F : Nat → Prop) (log : Int) (hlog : W64 log) (w : World) (x : Dx w g h k vs d F) : ∃ (A0 : Option Addr) (cap0 : Nat), (d.of log).all.length ≤ cap0 ∧ cap0 ≤ 9223372036854775807 ∧ (A0 = none → cap0 = 0) ∧
    (∀ w0, Dx w0 g h k vs d F → InB w0 A0 cap0 (d.of log).all) ∧ ∀ w0, Dx w0 g h k vs d F → Calls Try.prog 42 #[ptr g, .int .i64 log] w0 fun e w' => e = .returned (.agg #[.slice A0 (d.of log).all.length cap0, .int .i64 (d.of log).sure]) ∧ Below w0.heap.size w0 w' := by
  rcases d.number log with hn | ⟨i, c, rfl, hi⟩
  · refine ⟨none, 0, ?_, by omega, fun _ => rfl, fun w0 x0 => ?_, fun w0 x0 => (of_any g h k vs d F log hlog w0 x0).mono ?_⟩
    · rw [D.of_out hn]; exact Nat.le_refl _
    · rw [D.of_out hn]; exact ⟨⟨0, Nat.zero_le _, Sees.nothing _ _ _ _⟩, Nat.le_refl _, by omega, fun _ => rfl⟩
    · rintro e w' ⟨rfl, hb⟩
      rw [if_neg hn, D.of_out hn]
      exact ⟨rfl, hb⟩
  · obtain ⟨A0, cap0, hv, h1, h2, h3⟩ := x.slice hi
    have hlt := at_lt hi
    refine ⟨A0, cap0, by rw [D.of_in hi]; exact h1, h2, h3, fun w0 x0 => ?_, fun w0 x0 => (of_any g h k vs d F i hlog w0 x0).mono ?_⟩
    · rw [D.of_in hi]
      have ho := x0.own i c hi
      rw [hv] at ho
      exact ⟨⟨w0.heap.size, Nat.le_refl _, ho.sees rfl⟩, h1, h2, h3⟩
    · rintro e w' ⟨rfl, hb⟩
      rw [if_pos ⟨by omega, by omega⟩, show ((i : Int)).toNat = i by omega, hv, D.of_in hi]
      exact ⟨rfl, hb⟩

/-- The worlds behind steps that change nothing old. -/
theorem Dx.class {w : World} {g h k : Nat} {vs : Nat → Value} {d : D} {F : Nat → Prop} (x : Dx w g h k vs d F) :
    ∃ C : World → Prop, C w.drew ∧ Hid (∀ a b, C a → Below a.heap.size a b → C b) ∧ Hid (∀ a, C a → Dx a g h k vs d F ∧ Below w.heap.size w a) :=
  ⟨fun a => Dx a g h k vs d F ∧ Below w.heap.size w a, ⟨x.drewN 1, below_drewN (Below.refl _ _) 1⟩, Lib.hid fun a b ha hb => ⟨ha.1.call hb, ha.2.trans (hb.mono ha.2.size)⟩, Lib.hid fun a ha => ha⟩

theorem Moved.before {F : Nat → Prop} {w w1 w' : World} {g : Nat} {d' : D} (hb : Below w.heap.size w w1) (hm : Moved F w1 w' g d') : Moved F w w' g d' := by
  obtain ⟨ho, F', hF, hd⟩ := hm
  refine ⟨(Off.of hb F).trans ho, F', fun b hf => ?_, hd⟩
  rcases hF b hf with h | h
  · exact .inl h
  · exact .inr (Nat.le_trans hb.size h)

set_option maxHeartbeats 1000000 in
theorem append_any (g : Nat) (d : D) (F : Nat → Prop) (log : Int) (hlog : W64 log) (A : Option Addr) (cap : Nat) (bs : List UInt8) (hbs : bs.length ≤ 140737488355328) (hacts : d.acts + 1 ≤ 9223372036854775807) (w : World) (x0 : Dsk w g d F) (hin : InB w A cap bs) :
    Calls Try.prog 23 #[ptr g, .int .i64 log, .slice A bs.length cap] w fun e w' => e = .returned (.int .i64 (d.append log bs).2) ∧ Moved F w w' g (d.append log bs).1 := by
  obtain ⟨h, k, vs, x⟩ := x0
  have hofok := okay_of x.ok log
  obtain ⟨A0, cap0, h1, h2, h3, -, hof⟩ := of_slice g h k vs d F log hlog w x
  have HOF := Lib.hid hof
  have hl := hofok.2
  have HACT := Lib.hid (fun (w1 : World) (x1 : Dx w1 g h k vs d F) (hb1 : Whole w1 w.heap.size 52 #[.slice A bs.length cap]) (hin1 : InB w1 A cap bs) =>
    act_any 43 (enters Try.func43 (by kernel_rfl) rfl) #[ptr w.heap.size] g h k vs d F log hlog ((d.of log).all.length + bs.length) (by omega) ⟨(d.of log).all ++ bs, (d.of log).sure⟩
      (fun _ hs => ⟨by have := hofok.1; simp; omega, by simpa using hs⟩) hacts w1 x1 (fun i c hlg hi hs => by
        subst hlg
        rw [D.of_in hi] at hs ⊢
        exact appends_any g h k vs d F i c hi w.heap.size A cap bs w1 x1 hb1 hin1 hs))
  have HB : Hid (Whole (w.alloc (.cells #[.slice A bs.length cap] 52)) w.heap.size 52 #[.slice A bs.length cap]) := Lib.hid (Whole.fresh w _ _)
  have x1 := x.alloc (.cells #[.slice A bs.length cap] 52)
  have HIN := Lib.hid (hin.call ((Below.refl w.heap.size w).alloc (Nat.le_refl _) (.cells #[.slice A bs.length cap] 52)))
  have hmf : ∀ (fn : Fn) (first cap : Array Value) (w : World), (Instr.makeFunc fn first cap).run Try.prog w = .ok (.func fn first cap) w := fun _ _ _ _ => rfl
  have e1 : IntKind.i64.wrap (((d.of log).all.length : Int) + (bs.length : Int)) = (((d.of log).all.length + bs.length : Nat) : Int) := by rw [IntKind.wrap_i64]; omega
  have HE1 := Lib.hid e1
  have HR : Hid (d.append log bs = d.act log ((d.of log).all.length + bs.length) ⟨(d.of log).all ++ bs, (d.of log).sure⟩) := Lib.hid rfl
  obtain ⟨C, hC, HCc, HCf⟩ := x1.class
  clear x x1 hin hofok hof e1
  generalize (d.of log).all.length = n at *
  go_enter Try.func23, Try.ntmps23
  go_wp2_with fail
  refine region_inT 11 C hC (by kernel_rfl) (by kernel_rfl) ?_
  simp only [List.take_succ_cons, List.take_zero, List.drop_succ_cons, List.drop_zero]
  iterate 11
    (refine WQ.step (fun K hK => ?_)
     go_simp
     first
       | (refine hK _ ?_; clear hK K)
       | (apply Exists.intro
          refine ⟨fun y hy => ?_, hK _ ?_⟩
          · first
              | rfl
              | (go_at_call 42; refine (HOF.out _ (HCf.out _ hy).1).mono ?_; rintro e x1 ⟨rfl, hb⟩; exact ⟨rfl, HCc.out _ _ hy hb⟩)
              | (have hw1 := HB.out.below (HCf.out _ hy).2 HB.out.lt
                 have hc1 := hw1.cell 0
                 clear hw1
                 go_simp
                 first | rfl | exact ⟨rfl, rfl⟩)
          clear hK K))
  refine WQ.nil ?_
  intro y hy
  obtain ⟨x1, hb1⟩ := HCf.out _ hy
  have HX1 := Lib.hid x1
  have HB1 := Lib.hid hb1
  have HW := Lib.hid (HB.out.below hb1 HB.out.lt)
  have HIN1 := Lib.hid (HIN.out.call hb1)
  have HAY := Lib.hid (HACT.out y x1 HW.out HIN1.out)
  clear hy hC HCc HCf C x1 hb1 HACT HOF
  try rw [HE1.out]
  have HBW : Hid (Below w.heap.size w y) := Lib.hid (((Below.refl w.heap.size w).alloc (Nat.le_refl _) _).trans (HB1.out.mono (by simp)))
  generalize D.act d log (n + bs.length) ⟨(d.of log).all ++ bs, (d.of log).sure⟩ = R at *
  go_wp2_with fail
  refine HAY.out.mono ?_
  rintro e w1 ⟨rfl, hm⟩
  have HM := Lib.hid (hm.before HBW.out)
  clear hm
  go_wp2_with fail
  go_ret
  rw [HR.out]
  exact ⟨rfl, HM.out⟩

set_option maxHeartbeats 1000000 in
theorem sync_any (g : Nat) (d : D) (F : Nat → Prop) (log : Int) (hlog : W64 log) (hacts : d.acts + 1 ≤ 9223372036854775807) (w : World) (x0 : Dsk w g d F) :
    Calls Try.prog 52 #[ptr g, .int .i64 log] w fun e w' => e = .returned (.int .i64 (d.sync log).2) ∧ Moved F w w' g (d.sync log).1 := by
  obtain ⟨h, k, vs, x⟩ := x0
  have hofok := okay_of x.ok log
  have hl := hofok.2
  obtain ⟨A0, cap0, h1, h2, h3, -, hof⟩ := of_slice g h k vs d F log hlog w x
  have HOF := Lib.hid (hof w x)
  have HX := Lib.hid x
  have HACT := Lib.hid (fun (w1 : World) (x1 : Dx w1 g h k vs d F) =>
    act_any 65 (enters Try.func65 (by kernel_rfl) rfl) #[] g h k vs d F log hlog (d.of log).all.length (by omega) ⟨(d.of log).all, (d.of log).all.length⟩
      (fun _ hs => ⟨Nat.le_refl _, hs⟩) hacts w1 x1 (fun i c hlg hi hs => by
        subst hlg
        rw [D.of_in hi]
        exact syncs_any g h k vs d F i c hi w1 x1))
  have HR : Hid (d.sync log = d.act log (d.of log).all.length ⟨(d.of log).all, (d.of log).all.length⟩) := Lib.hid rfl
  clear x hofok hof
  generalize (d.of log).all.length = n at *
  go_enter Try.func52, Try.ntmps52
  go_wp2_with fail
  refine HOF.out.mono ?_
  rintro e w1 ⟨rfl, hb1⟩
  have HB1 := Lib.hid hb1
  have HAY := Lib.hid (HACT.out w1 (HX.out.call hb1))
  clear hb1 HACT HOF HX
  generalize D.act d log n ⟨(d.of log).all, n⟩ = R at *
  go_wp2_with fail
  refine HAY.out.mono ?_
  rintro e w2 ⟨rfl, hm⟩
  have HM := Lib.hid (hm.before HB1.out)
  clear hm
  go_wp2_with fail
  go_ret
  rw [HR.out]
  exact ⟨rfl, HM.out⟩

set_option maxHeartbeats 1000000 in
theorem swap_any (g : Nat) (d : D) (F : Nat → Prop) (log : Int) (hlog : W64 log) (A : Option Addr) (cap : Nat) (bs : List UInt8) (hacts : d.acts + 1 ≤ 9223372036854775807) (w : World) (x0 : Dsk w g d F) (hin : InB w A cap bs) :
    Calls Try.prog 56 #[ptr g, .int .i64 log, .slice A bs.length cap] w fun e w' => e = .returned (.int .i64 (d.swap log bs).2) ∧ Moved F w w' g (d.swap log bs).1 := by
  obtain ⟨h, k, vs, x⟩ := x0
  have htop := hin.top
  have hroom := hin.room
  have HACT := Lib.hid (fun (w1 : World) (x1 : Dx w1 g h k vs d F) (hb1 : Whole w1 w.heap.size 52 #[.slice A bs.length cap]) (hin1 : InB w1 A cap bs) =>
    act_any 67 (enters Try.func67 (by kernel_rfl) rfl) #[ptr w.heap.size] g h k vs d F log hlog bs.length (by omega) ⟨bs, bs.length⟩
      (fun _ hs => ⟨Nat.le_refl _, hs⟩) hacts w1 x1 (fun i c hlg hi hs => by
        subst hlg
        exact swaps_any g h k vs d F i c hi w.heap.size A cap bs w1 x1 hb1 hin1 hs))
  have HAY := Lib.hid (HACT.out _ (x.alloc (.cells #[.slice A bs.length cap] 52)) (Whole.fresh w _ _) (hin.call ((Below.refl w.heap.size w).alloc (Nat.le_refl _) (.cells #[.slice A bs.length cap] 52))))
  have q0 := (Whole.fresh w 52 #[.slice A bs.length cap]).cell 0
  have HBW : Hid (Below w.heap.size w (w.alloc (.cells #[.slice A bs.length cap] 52))) := Lib.hid ((Below.refl w.heap.size w).alloc (Nat.le_refl _) _)
  have hmf : ∀ (fn : Fn) (first cap : Array Value) (w : World), (Instr.makeFunc fn first cap).run Try.prog w = .ok (.func fn first cap) w := fun _ _ _ _ => rfl
  have HR : Hid (d.swap log bs = d.act log bs.length ⟨bs, bs.length⟩) := Lib.hid rfl
  clear x hin HACT
  generalize D.act d log bs.length ⟨bs, bs.length⟩ = R at *
  go_enter Try.func56, Try.ntmps56
  go_wp2_with fail
  refine HAY.out.mono ?_
  rintro e w2 ⟨rfl, hm⟩
  have HM := Lib.hid (hm.before HBW.out)
  clear hm
  go_wp2_with fail
  go_ret
  rw [HR.out]
  exact ⟨rfl, HM.out⟩

/-- What is read of a log. -/
def _root_.Go.Dk.D.read (d : D) (log : Int) : List UInt8 := if d.check log = 0 then (d.of log).all else []
set_option maxHeartbeats 1000000 in
theorem read_any (g : Nat) (d : D) (F : Nat → Prop) (log : Int) (hlog : W64 log) (w : World) (x0 : Dsk w g d F) :
    Calls Try.prog 26 #[ptr g, .int .i64 log] w fun e w' => ∃ v, e = .returned (.tuple #[v, .int .i64 (d.check log)]) ∧ OwnB w' w.heap.size v (d.read log) ∧ Below w.heap.size w w' := by
  obtain ⟨h, k, vs, x⟩ := x0
  have HCH := Lib.hid (check_any g h k vs d F log hlog w x)
  by_cases h0 : d.check log = 0
  case neg =>
    have HR : Hid (d.read log = []) := Lib.hid (by unfold D.read; rw [if_neg h0])
    have q9 : (d.check log != 0) = true := by simpa using h0
    clear x h0
    generalize d.check log = E at *
    go_enter Try.func26, Try.ntmps26
    go_wp2_with fail
    refine HCH.out.mono ?_
    rintro e w1 ⟨rfl, e1⟩
    subst w1
    go_wp2_with fail
    go_ret2
    exact ⟨_, rfl, HR.out ▸ OwnB.none_ _ _, Below.refl _ _⟩
  case pos =>
    have HR : Hid (d.read log = (d.of log).all) := Lib.hid (by unfold D.read; rw [if_pos h0])
    rw [h0] at HCH ⊢
    have hl := (okay_of x.ok log).2
    obtain ⟨A0, cap0, h1, h2, h3, hin, hof⟩ := of_slice g h k vs d F log hlog w x
    have HOF := Lib.hid (hof w x)
    have HX := Lib.hid x
    have HIN := Lib.hid hin
    have HCL := Lib.hid (fun (w1 : World) (x1 : Dx w1 g h k vs d F) => by
      obtain ⟨B, hB, hs⟩ := (hin w1 x1).sees
      exact clone_any B A0 cap0 (d.of log).all w1 hs hB h1 h2 h3 (by omega))
    clear x h0 hin hof
    generalize (d.of log).all = l at *
    go_enter Try.func26, Try.ntmps26
    go_wp2_with fail
    refine HCH.out.mono ?_
    rintro e w1 ⟨rfl, e1⟩
    subst w1
    go_wp2_with fail
    refine HOF.out.mono ?_
    rintro e w1 ⟨rfl, hb1⟩
    have HB1 := Lib.hid hb1
    have HCC := Lib.hid (HCL.out w1 (HX.out.call hb1))
    clear hb1
    go_wp2_with fail
    refine HCC.out.mono ?_
    rintro e w2 ⟨v, rfl, ho, hb2⟩
    have HO := Lib.hid ho
    have HB2 := Lib.hid hb2
    clear ho hb2
    go_wp2_with fail
    go_ret2
    exact ⟨v, rfl, HR.out ▸ HO.out.less HB1.out.size, HB1.out.trans (HB2.out.mono HB1.out.size)⟩

theorem down_any (g : Nat) (d : D) (F : Nat → Prop) (w : World) (x0 : Dsk w g d F) :
    Calls Try.prog 20 #[ptr g] w fun e w' => e = .returned (.bool d.down) ∧ w' = w := by
  obtain ⟨h, k, vs, x⟩ := x0
  obtain ⟨c0, c1, c2, c3, c4⟩ := x.cells
  clear x
  go_enter Try.func20, Try.ntmps20
  go_wp2_with fail
  go_ret
  exact ⟨rfl, rfl⟩
theorem acts_any (g : Nat) (d : D) (F : Nat → Prop) (w : World) (x0 : Dsk w g d F) :
    Calls Try.prog 21 #[ptr g] w fun e w' => e = .returned (.int .i64 d.acts) ∧ w' = w := by
  obtain ⟨h, k, vs, x⟩ := x0
  obtain ⟨c0, c1, c2, c3, c4⟩ := x.cells
  clear x
  go_enter Try.func21, Try.ntmps21
  go_wp2_with fail
  go_ret
  exact ⟨rfl, rfl⟩
theorem up_any (g : Nat) (d : D) (F : Nat → Prop) (w : World) (x0 : Dsk w g d F) :
    Calls Try.prog 13 #[ptr g] w fun e w' => e = .returned (.tuple #[]) ∧ Moved F w w' g d.up := by
  obtain ⟨h, k, vs, x⟩ := x0
  have x1 := x.setFace 2 (.bool false) (d' := d.up) rfl rfl x.ok.up (by simp [D.up])
  have HX1 := Lib.hid x1
  have HM := Lib.hid x.mine.1
  obtain ⟨c0, c1, c2, c3, c4⟩ := x.cells
  obtain ⟨f1, f2, f3⟩ := x.free
  clear x x1
  go_enter Try.func13, Try.ntmps13
  go_wp2_with fail
  go_end0
  exact ⟨rfl, (Off.refl F w).set (p := ⟨g, 2, none⟩) (.inl HM.out) _, F, fun b hb => .inl hb, h, k, vs, HX1.out⟩
theorem sure_any (g : Nat) (d : D) (F : Nat → Prop) (log : Int) (hlog : W64 log) (w : World) (x0 : Dsk w g d F) :
    Calls Try.prog 28 #[ptr g, .int .i64 log] w fun e w' => e = .returned (.int .i64 (d.of log).sure) ∧ Below w.heap.size w w' := by
  obtain ⟨h, k, vs, x⟩ := x0
  obtain ⟨A0, cap0, h1, h2, h3, -, hof⟩ := of_slice g h k vs d F log hlog w x
  have HOF := Lib.hid (hof w x)
  clear x hof
  go_enter Try.func28, Try.ntmps28
  go_wp2_with fail
  refine HOF.out.mono ?_
  rintro e w1 ⟨rfl, hb1⟩
  have HB1 := Lib.hid hb1
  clear hb1
  go_wp2_with fail
  go_ret
  exact ⟨rfl, HB1.out⟩
theorem crash_any (g : Nat) (d : D) (F : Nat → Prop) (B : Nat) (A : Option Addr) (cap : Nat) (keep : List Int) (w : World) (x0 : Dsk w g d F) (hs : Sees w B 1 A keep.length (ints keep)) (hB : B ≤ w.heap.size)
    (hA : 0 < keep.length → ∀ a, A = some a → ¬ F a.block) (hr : ∀ n ∈ keep, W64 n) (hl : keep.length ≤ 9223372036854775807) :
    Calls Try.prog 32 #[ptr g, .slice A keep.length cap] w fun e w' => e = .returned (.tuple #[]) ∧ Moved F w w' g (d.crash keep) := by
  obtain ⟨h, k, vs, x⟩ := x0
  have HX := Lib.hid x
  have HL := Lib.hid (lose_any g h k vs d F B A cap keep w x hs hB (fun h0 a ha e => hA h0 a ha (e ▸ x.mine.2.1)) hr hl)
  obtain ⟨c0, c1, c2, c3, c4⟩ := x.cells
  clear x hs hA hr
  cases hd : d.down with
  | true =>
    have HR : Hid (d.crash keep = d) := Lib.hid (by unfold D.crash; rw [if_pos hd])
    rw [hd] at c2
    go_enter Try.func32, Try.ntmps32
    go_wp2_with fail
    (try simp only [Exit.inBlock, Exit.then])
    refine bodyPost_ret (results_none rfl _ _ _) rfl ?_
    rw [HR.out]
    exact ⟨rfl, Off.refl _ _, F, fun b hb => .inl hb, h, k, vs, HX.out⟩
  | false =>
    have HR : Hid (d.crash keep = d.lose keep) := Lib.hid (by unfold D.crash; rw [if_neg (by simp [hd])])
    rw [hd] at c2
    go_enter Try.func32, Try.ntmps32
    go_wp2_with fail
    refine HL.out.mono ?_
    rintro e w1 ⟨rfl, ⟨vs1, x1⟩, ho⟩
    have HX1 := Lib.hid x1
    have HO := Lib.hid ho
    clear x1 ho
    go_wp2_with fail
    go_end0
    rw [HR.out]
    exact ⟨rfl, HO.out, F, fun b hb => .inl hb, h, k, vs1, HX1.out⟩

theorem ints_take (l : List Int) (n : Nat) : (ints l).take n = ints (l.take n) := by unfold ints; rw [List.map_take]
/-- What is copied onto noughts. -/
theorem copy_ints (w : World) (k n : Nat) (B : Nat) (A : Option Addr) (cap : Nat) (keep : List Int) (h : Whole w k 3 (List.replicate n (Value.int .i64 0)).toArray) (hs : Sees w B 1 A keep.length (ints keep)) (ty : TypeId) (c : Nat) :
    ∃ m, (Builtin.copy_ #[28, 28] ty #[.slice (some ⟨k, 0, none⟩) n c, .slice A keep.length cap]).run Try.prog w = .ok m (w.setRow k (ints (keep.take n ++ List.replicate (n - keep.length) 0)).toArray) := by
  have hi : (Try.prog.info? 3).map (fun i => i.size) = some 1 := by kernel_rfl
  rcases Nat.eq_zero_or_pos keep.length with h0 | h0
  · obtain rfl : keep = [] := List.eq_nil_of_length_eq_zero h0
    refine ⟨goInt 0, (run_copy_none w 28 28 ty 3 (some ⟨k, 0, none⟩) A n c 0 cap Try.underlying28 hi (by simp)).trans ?_⟩
    rw [show (ints (List.take n [] ++ List.replicate (n - [].length) 0)).toArray = (List.replicate n (Value.int .i64 0)).toArray by simp [ints]]
    rw [setRow_self w k _ 3 (0, 0) h]
  · obtain ⟨b, off, rfl, hb, hc⟩ := hs.2 h0
    have hl : (ints (keep.take n)).length = Nat.min keep.length n := by rw [ints_length, List.length_take]; exact Nat.min_comm _ _
    have := run_copy_row (P := Try.prog) w 28 28 ty 3 k 0 n c ⟨b, off, none⟩ keep.length cap (List.replicate n (Value.int .i64 0)).toArray 3 (ints (keep.take n)) Try.underlying28 hi h hl
      (fun j v hj => by rw [add_at]; exact hc j v (by rw [← ints_take, List.getElem?_take] at hj; split at hj; exact hj; cases hj)) (by rw [hl]; simp; exact Nat.min_le_right _ _)
      (fun v hv => by unfold ints at hv; obtain ⟨x, _, rfl⟩ := List.mem_map.1 hv; rfl)
    refine ⟨goInt ((ints (keep.take n)).length : Int), this.trans ?_⟩
    congr 2
    rw [hl]
    have e2 : n - Nat.min keep.length n = n - keep.length := by
      have : Nat.min keep.length n = min keep.length n := rfl
      omega
    simp only [List.take_zero, List.nil_append, Nat.zero_add, List.drop_replicate, e2]
    unfold ints
    rw [List.map_append, List.map_replicate]

set_option maxHeartbeats 1000000 in
theorem arm_any (g : Nat) (d : D) (F : Nat → Prop) (B : Nat) (A : Option Addr) (cap : Nat) (n : Int) (hn : W64 n) (keep : List Int) (w : World) (x0 : Dsk w g d F) (hs : Sees w B 1 A keep.length (ints keep)) (hB : B ≤ w.heap.size)
    (hA : 0 < keep.length → ∀ a, A = some a → ¬ F a.block) (hr : ∀ m ∈ keep, W64 m) :
    Calls Try.prog 31 #[ptr g, .int .i64 n, .slice A keep.length cap] w fun e w' => e = .returned (.tuple #[]) ∧ Moved F w w' g (d.arm n keep) := by
  obtain ⟨h, k, vs, x⟩ := x0
  have HX := Lib.hid x
  have HD := Lib.hid (disarm_any g h k vs d F w x)
  have HS := Lib.hid hs
  have HA := Lib.hid hA
  have HN := Lib.hid hn
  have HRR := Lib.hid hr
  clear x hs hA hr hn
  by_cases h1 : n < 1
  · have HR : Hid (d.arm n keep = d.disarm) := Lib.hid (by unfold D.arm; rw [if_pos h1])
    go_enter Try.func31, Try.ntmps31
    go_wp2_with fail
    refine HD.out.mono ?_
    rintro e w1 ⟨rfl, x1, ho⟩
    have HX1 := Lib.hid x1
    have HO := Lib.hid ho
    clear x1 ho
    go_wp2_with fail
    (try simp only [Exit.inBlock, Exit.then])
    refine bodyPost_ret (results_none rfl _ _ _) rfl ?_
    rw [HR.out]
    exact ⟨rfl, HO.out, F, fun b hb => .inl hb, h, k, vs, HX1.out⟩
  · have HR : Hid (d.arm n keep = { d with ahead := n.toNat, keep := keep.take d.logs.length ++ List.replicate (d.logs.length - keep.length) 0 }) := Lib.hid (by unfold D.arm; rw [if_neg h1])
    go_enter Try.func31, Try.ntmps31
    go_wp2_with fail
    refine HD.out.mono ?_
    rintro e w1 ⟨rfl, x1, ho⟩
    have x2 := x1.setFace 3 (.int .i64 n) (d' := { d.disarm with ahead := n.toNat }) rfl rfl ⟨x1.ok.some, x1.ok.few, x1.ok.logs, by have := HN.out.2; show n.toNat ≤ _; omega, x1.ok.keep, x1.ok.range⟩ (by simp; omega)
    have ho2 := ho.set (p := ⟨g, 3, none⟩) (.inl x1.mine.1) (.int .i64 n)
    have hk := x2.kept
    rw [show ints d.disarm.keep = List.replicate d.logs.length (.int .i64 0) from zeros_ints _] at hk
    have hcp := fun ty c => copy_ints _ k d.logs.length B A cap keep hk (HS.out.offF ho2 hB HA.out) ty c
    have HX2 := Lib.hid x2
    have HO2 := Lib.hid ho2
    obtain ⟨c0, c1, c2, c3, c4⟩ := x1.cells
    obtain ⟨f1, f2, f3⟩ := x1.free
    obtain ⟨d0, d1, d2, d3, d4⟩ := x2.cells
    rw [show ({ d.disarm with ahead := n.toNat } : D).logs.length = d.logs.length from rfl] at d4
    clear x1 ho x2 ho2 hk c0 c4 d0 d1 d2 d3
    obtain ⟨m, hcp2⟩ := hcp 3 d.logs.length
    go_wp2_with fail
    go_end0
    rw [HR.out]
    refine ⟨rfl, HO2.out.setRow (.inl HX2.out.mine.2.2.1) _, F, fun b hb => .inl hb, h, k, vs, ?_⟩
    have x := HX2.out
    obtain ⟨cs, r1, r2⟩ := x.row
    have hok : Ok ({ d with ahead := n.toNat, keep := keep.take d.logs.length ++ List.replicate (d.logs.length - keep.length) 0 } : D) := HR.out ▸ HX.out.ok.arm HN.out HRR.out
    exact ⟨hok, x.face.rowAway x.gk _, ⟨cs, r1.rowAway x.hk _, r2⟩, x.kept.setRow _, fun i c hi => (x.own i c hi).at fun b hb => setRow_other _ k b _ (x.bytes hi hb).2.2, x.apart, x.mine, fun b hb => by simpa using x.low b hb⟩

theorem new_no (n : Int) (hn : W64 n) (hr : n < 1 ∨ 16 < n) (w : World) :
    Calls Try.prog 9 #[.int .i64 n] w fun e w' => e = .returned (.tuple #[.pointer none, .int .i64 70]) ∧ w' = w := by
  rcases hr with h | h
  · go_enter Try.func9, Try.ntmps9
    go_wp2_with fail
    go_ret2
    exact ⟨rfl, rfl⟩
  · have h2 : ¬ n < 1 := by omega
    go_enter Try.func9, Try.ntmps9
    go_wp2_with fail
    go_ret2
    exact ⟨rfl, rfl⟩

theorem info_log : (Try.prog.info? 94).map (fun i => (i.zero, i.size, i.bytes)) = some (some (.agg #[.slice none 0 0, .int .i64 0]), 2, 32) := by kernel_rfl
theorem info_int : (Try.prog.info? 3).map (fun i => (i.zero, i.size, i.bytes)) = some (some (.int .i64 0), 1, 8) := by kernel_rfl
/-- New rows of so many logs, and of so many numbers. -/
theorem make_logs (n : Nat) (h : n ≤ 16) (w : World) : (Instr.makeSlice 75 (.int .i64 n) (.int .i64 n)).run Try.prog w = .ok (.slice (some ⟨w.heap.size, 0, none⟩) n n) (w.alloc (.cells (madeCells #[.slice none 0 0, .int .i64 0] (n * 2)) 94)) := by
  obtain ⟨i0, hi, hz0, hz1, hz2⟩ := info_parts info_log
  have := run_make (P := Try.prog) w 75 94 i0 _ Try.underlying75 hi hz0 .i64 .i64 n n (by omega) (Int.le_refl _) (by rw [hz2]; omega) (by omega)
  rw [this, hz1]
  rfl
theorem make_ints (n : Nat) (h : n ≤ 16) (w : World) : (Instr.makeSlice 28 (.int .i64 n) (.int .i64 n)).run Try.prog w = .ok (.slice (some ⟨w.heap.size, 0, none⟩) n n) (w.alloc (.cells (madeCells #[.int .i64 0] (n * 1)) 3)) := by
  obtain ⟨i0, hi, hz0, hz1, hz2⟩ := info_parts info_int
  have := run_make (P := Try.prog) w 28 3 i0 _ Try.underlying28 hi hz0 .i64 .i64 n n (by omega) (Int.le_refl _) (by rw [hz2]; omega) (by omega)
  rw [this, hz1]
  rfl
theorem made_logs (n i : Nat) (h : i < n) : (madeCells #[.slice none 0 0, .int .i64 0] (n * 2))[i * 2]? = some (Value.slice none 0 0) ∧ (madeCells #[.slice none 0 0, .int .i64 0] (n * 2))[i * 2 + 1]? = some (Value.int .i64 0) := by
  unfold madeCells
  refine ⟨?_, ?_⟩
  · simp [show i * 2 < n * 2 by omega]
  · simp [show i * 2 + 1 < n * 2 by omega, show (i * 2 + 1) % 2 = 1 by omega]
/-- What New makes. -/
theorem Dx.made {w : World} {g h k n : Nat} (h1 : 1 ≤ n) (h2 : n ≤ 16) (B : Nat) (hg : Whole w g 77 #[.slice (some ⟨h, 0, none⟩) n n, .int .i64 0, .bool false, .int .i64 0, .slice (some ⟨k, 0, none⟩) n n])
    (hh : Whole w h 94 (madeCells #[.slice none 0 0, .int .i64 0] (n * 2))) (hk : Whole w k 3 (madeCells #[.int .i64 0] (n * 1))) : Dsk w g (D.new n) (fun b => b = g ∨ b = h ∨ b = k) := by
  have hl : (D.new n).logs.length = n := by simp [D.new]
  have new : ∀ i c, (D.new n).logs[i]? = some c → c = ⟨[], 0⟩ ∧ i < n := fun i c hi => by
    have := at_lt hi
    rw [hl] at this
    refine ⟨?_, this⟩
    simp only [D.new] at hi
    rw [List.getElem?_replicate, if_pos this] at hi
    injection hi with hi; exact hi.symm
  refine ⟨h, k, fun _ => .slice none 0 0, Ok.new h1 h2, by rw [hl]; exact hg, ⟨_, hh, fun i c hi => ?_⟩, ?_, fun i c hi => ?_, fun i j b _ _ hb => ?_, ⟨.inl rfl, .inr (.inl rfl), .inr (.inr rfl), fun i b _ hb => ?_⟩, fun b hb => ?_⟩
  · obtain ⟨rfl, hin⟩ := new i c hi
    exact made_logs n i hin
  · have e : ints (D.new n).keep = (madeCells #[.int .i64 0] (n * 1)).toList := by
      rw [toList_madeCells_one, Nat.mul_one]; exact zeros_ints n
    rw [e]
    simpa using hk
  · obtain ⟨rfl, hi⟩ := new i c hi
    exact OwnB.none_ _ _
  · simp [Value.ownBlock] at hb
  · simp [Value.ownBlock] at hb
  · rcases hb with rfl | rfl | rfl
    · exact hg.lt
    · exact hh.lt
    · exact hk.lt

set_option maxHeartbeats 1000000 in
theorem new_any (n : Nat) (h1 : 1 ≤ n) (h2 : n ≤ 16) (w : World) :
    Calls Try.prog 9 #[.int .i64 n] w fun e w' => ∃ g F, e = .returned (.tuple #[ptr g, .int .i64 0]) ∧ Below w.heap.size w w' ∧ (∀ b, F b → w.heap.size ≤ b) ∧ Dsk w' g (D.new n) F := by
  have a1 : ¬ (n : Int) < 1 := by omega
  have a2 : ¬ (16 : Int) < n := by omega
  have m1 := make_logs n h2
  have m2 := make_ints n h2
  have HM := Lib.hid (fun (w : World) (g h k : Nat) => Dx.made (w := w) (g := g) (h := h) (k := k) h1 h2 0)
  generalize madeCells #[.slice none 0 0, .int .i64 0] (n * 2) = Z1 at *
  generalize madeCells #[.int .i64 0] (n * 1) = Z2 at *
  go_enter Try.func9, Try.ntmps9
  go_wp2_with fail
  go_region
  · go_wp2_with fail
    go_ret2
    have st := (((St.start w).alloc w.heap.size rfl 94 Z1).alloc (w.heap.size + 1) (by simp) 3 Z2).alloc (w.heap.size + 1 + 1) (by simp) 77 #[.slice (some ⟨w.heap.size, 0, none⟩) n n, .int .i64 0, .bool false, .int .i64 0, .slice (some ⟨w.heap.size + 1, 0, none⟩) n n]
    refine ⟨w.heap.size + 1 + 1, _, rfl, (st.drewN 1).below, fun b hb => ?_, HM.out _ _ (w.heap.size) (w.heap.size + 1) ((st.drewN 1).knows.at 0 rfl) ((st.drewN 1).knows.at 2 rfl) ((st.drewN 1).knows.at 1 rfl)⟩
    rcases hb with rfl | rfl | rfl <;> omega
  · go_wp2_with fail
    go_ret2
    have st := (((St.start w).alloc w.heap.size rfl 3 Z2).alloc (w.heap.size + 1) (by simp) 94 Z1).alloc (w.heap.size + 1 + 1) (by simp) 77 #[.slice (some ⟨w.heap.size + 1, 0, none⟩) n n, .int .i64 0, .bool false, .int .i64 0, .slice (some ⟨w.heap.size, 0, none⟩) n n]
    refine ⟨w.heap.size + 1 + 1, _, rfl, (st.drewN 1).below, fun b hb => ?_, HM.out _ _ (w.heap.size + 1) (w.heap.size) ((st.drewN 1).knows.at 0 rfl) ((st.drewN 1).knows.at 1 rfl) ((st.drewN 1).knows.at 2 rfl)⟩
    rcases hb with rfl | rfl | rfl <;> omega
end Go.Proofs.Ytlfigbgcackimaa
