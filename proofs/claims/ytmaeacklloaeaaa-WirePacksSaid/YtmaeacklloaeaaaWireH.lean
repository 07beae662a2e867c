/- Contract of the reader's list. -/
import Derived.Test.YtmaeacklloaeaaaWireG
import Derived.Test.YtmaeacklloaeaaaWireK
namespace Go.Proofs.Ytmaeacklloaeaaa
open Go.RowKit Go.Fl Go.Wr
set_option linter.unusedVariables false
set_option linter.unusedSimpArgs false

theorem info_value : (Try.prog.info? 36).map (fun i => (i.zero, i.size, i.bytes)) = some (some (.agg #[.int .i64 0, .int .u64 0, .int .i64 0, .float .f64 0, .string ⟨#[]⟩]), 5, 48) := by kernel_rfl

/-- The values l are the call's own, in a block from B on. -/
def OwnV (w : World) (B : Nat) (v : Value) (l : List Val) : Prop := w.ownsRow B 36 5 v l.length (rowV l)
theorem OwnV.slice {w : World} {B : Nat} {v : Value} {l : List Val} (h : OwnV w B v l) : ∃ a c, v = .slice a l.length c ∧ l.length ≤ c ∧ c ≤ maxLen := by
  rcases h.2 with ⟨h, h0⟩ | ⟨g, c, cur, h, _, _, h1, h2, _⟩
  · exact ⟨none, 0, by rw [h, h0], by omega, by unfold maxLen; omega⟩
  · exact ⟨_, c, h, h1, h2⟩
theorem OwnV.keep {w w' : World} {B R : Nat} {v : Value} {l : List Val} (h : OwnV w B v l) (k : w.grownBy w' (some R)) (hB : R < B) : OwnV w' B v l := by
  refine ⟨h.1, ?_⟩
  rcases h.2 with hn | ⟨g, cap, cur, rfl, hb, hg, r⟩
  · exact .inl hn
  · exact .inr ⟨g, cap, cur, rfl, hb, (k.block g (Array.getElem?_eq_some_iff.1 hg).1 (by intro e; injection e with e; omega)).trans hg, r⟩
theorem OwnV.below {w w' : World} {B B' : Nat} {v : Value} {l : List Val} (h : OwnV w B v l) (k : Below B' w w') (hB : w.heap.size ≤ B') : OwnV w' B v l := by
  refine ⟨h.1, ?_⟩
  rcases h.2 with hn | ⟨g, cap, cur, rfl, hb, hg, r⟩
  · exact .inl hn
  · exact .inr ⟨g, cap, cur, rfl, hb, (k.block g (Nat.lt_of_lt_of_le (Array.getElem?_eq_some_iff.1 hg).1 hB)).trans hg, r⟩

theorem cellsV_one (v : Val) : ∀ u ∈ cellsV v, u.oneCell' = true := by
  intro u hu
  simp only [cellsV, List.mem_cons, List.not_mem_nil, or_false] at hu
  rcases hu with rfl | rfl | rfl | rfl | rfl <;> rfl

/-- append(l, v): one value more. -/
theorem wpList_appV {ops : Array Oper} {rest : List Oper} {o : Oper} {a : Act} {Q : Exit → Act → World → Prop} {w : World} (hgd : o.guard = none) (s x : Operand)
    (ho : o.op = .call { callee := .builtin .append, args := #[s, x], argTypes := #[22, 22] })
    (B : Nat) (v : Value) (l : List Val) (hs : a.eval s = v) (hown : OwnV w B v l) (c : Val) (g : Nat) (hx : a.eval x = .slice (some ⟨g, 0, none⟩) 1 1) (hgs : g = w.heap.size)
    (hB : B ≤ w.heap.size) (hlen : l.length ≤ 2000)
    (h : ∀ v' w', OwnV w' B v' (l ++ [c]) → Below B w w' → wpList Try.prog ops Q rest (a.put o.dst v') w') :
    wpList Try.prog ops Q (o :: rest) a (w.alloc (.cells #[.int .i64 c.k, .int .u64 c.u, .int .i64 c.i, .float .f64 c.f, .string c.s] 36)) := by
  subst hgs
  obtain ⟨i0, hi, hz0, hz1, hz2⟩ := info_parts info_value
  refine wpList_append_own _ hgd s x 22 ho B 36 i0 _ 5 48 Try.underlying22 hi hz0 hz1 hz2 rfl (by decide) v l.length (rowV l) hs (hown.alloc _)
    ⟨w.heap.size, 0, none⟩ 1 1 (cellsV c) hx rfl ?_ (cellsV_one c) (by unfold maxLen; omega) (by omega) (by simp; omega) ?_
  · intro j u hu
    have : (w.alloc (.cells #[.int .i64 c.k, .int .u64 c.u, .int .i64 c.i, .float .f64 c.f, .string c.s] 36)).cell? ⟨w.heap.size, j, none⟩ = (cellsV c).toArray[j]? := (Whole.fresh w 36 _).cell j
    rw [show (⟨w.heap.size, 0, none⟩ : Addr).add j = ⟨w.heap.size, j, none⟩ by unfold Addr.add; split <;> simp_all, this]
    simpa using hu
  · intro v' w' hown' hg _
    refine h v' w' ?_ ?_
    · unfold OwnV
      rw [show rowV (l ++ [c]) = rowV l ++ cellsV c by simp [rowV], List.length_append]; exact hown'
    · exact ((Below.refl B w).alloc hB _).grown hg (by simp; omega) fun k hk => (hown.lt k hk).1

theorem rdNum_err (l : List UInt8) : ∀ j acc x, rdNum j acc l = .err x → x ≠ 0 := by
  induction l with
  | nil => intro j acc x h; simp [rdNum] at h; omega
  | cons c t ih =>
    intro j acc x h
    unfold rdNum at h
    split at h
    · injection h with h; omega
    · split at h
      · cases h
      · exact ih _ _ _ h
theorem rdVal_err {l : List UInt8} {x : Int} (h : rdVal l = .err x) : x ≠ 0 := by
  cases l with
  | nil => simp [rdVal] at h; omega
  | cons c t =>
    simp only [rdVal] at h
    split at h
    · cases hn : rdNum 0 0 t <;> rw [hn] at h <;> simp at h
      subst h; exact rdNum_err _ _ _ _ hn
    · split at h
      · cases hn : rdNum 0 0 t <;> rw [hn] at h <;> simp at h
        subst h; exact rdNum_err _ _ _ _ hn
      · split at h
        · cases hn : rdFloat t <;> rw [hn] at h <;> simp at h
          subst h
          unfold rdFloat at hn
          (repeat' split at hn) <;> simp at hn <;> omega
        · split at h
          · cases hn : rdText t <;> rw [hn] at h <;> simp at h
            subst h
            unfold rdText at hn
            split at hn
            · rename_i h1; simp at hn; subst hn; exact rdNum_err _ _ _ _ h1
            · (repeat' split at hn) <;> simp at hn <;> omega
          · simp at h; omega

theorem grow_setR {a w : World} {R : Nat} (h : a.grownBy w (some R)) (i : Nat) (u : Value) : a.grownBy (w.setCell ⟨R, i, none⟩ u) (some R) :=
  ⟨h.os, h.tape, h.output, by simpa [World.setCell] using h.size, fun j hj hne => (Below.heap_setCell w ⟨R, i, none⟩ u j (fun e => hne (by rw [e]))).trans (h.block j hj hne)⟩

theorem grow_then {a w w' : World} {r : Option Nat} (h : a.grownBy w r) (k : Below a.heap.size w w') : a.grownBy w' r :=
  ⟨k.os.trans h.os, k.tape.trans h.tape, k.output.trans h.output, Nat.le_trans h.size k.size, fun i hi hne => (k.block i hi).trans (h.block i hi hne)⟩

/-- How many items a slice has. -/
def lenOf : Value → Nat
  | .slice _ n _ => n
  | _ => 0

/-- What is left to be read, put behind what was read. -/
def Rest (bs : List UInt8) (ls : List Val) (pos : Nat) : Prop :=
  rdAll 0 0 bs = if (rdAll ls.length pos (bs.drop pos)).2.2 = 0 then (ls ++ (rdAll ls.length pos (bs.drop pos)).1, (rdAll ls.length pos (bs.drop pos)).2.1, 0)
    else ([], (rdAll ls.length pos (bs.drop pos)).2.1, (rdAll ls.length pos (bs.drop pos)).2.2)
theorem rest_start (bs : List UInt8) : Rest bs [] 0 := by
  have := rdAll_encs [] 0 0 bs (fun v hv => by simp at hv) (by simp)
  simpa [Rest, encs] using this
theorem rest_end {bs : List UInt8} {ls : List Val} {pos : Nat} (h : Rest bs ls pos) (hp : bs.length ≤ pos) : rdAll 0 0 bs = (ls, 0, 0) := by
  unfold Rest at h
  rw [List.drop_eq_nil_of_le hp, rdAll_nil] at h
  simpa using h
theorem rest_many {bs : List UInt8} {ls : List Val} {pos : Nat} (h : Rest bs ls pos) (hp : pos < bs.length) (hl : ls.length = 1000) : rdAll 0 0 bs = ([], pos, 20) := by
  unfold Rest at h
  rw [hl, rdAll_many _ _ (by rw [Ne, List.drop_eq_nil_iff]; omega)] at h
  simpa using h
theorem rest_err {bs : List UInt8} {ls : List Val} {pos : Nat} {x : Int} (h : Rest bs ls pos) (hp : pos < bs.length) (hl : ls.length ≠ 1000) (hv : rdVal (bs.drop pos) = .err x) : rdAll 0 0 bs = ([], pos, x) ∧ x ≠ 0 := by
  have hx := rdVal_err hv
  unfold Rest at h
  rw [rdAll_err hl (by rw [Ne, List.drop_eq_nil_iff]; omega) hv] at h
  simp only [if_neg hx] at h
  exact ⟨h, hx⟩
theorem rest_ok {bs : List UInt8} {ls : List Val} {pos : Nat} {v : Val} {r : List UInt8} (h : Rest bs ls pos) (hp : pos < bs.length) (hl : ls.length ≠ 1000) (hv : rdVal (bs.drop pos) = .ok v r) :
    Rest bs (ls ++ [v]) (bs.length - r.length) ∧ pos < bs.length - r.length := by
  have hlt := rdVal_lt hv
  obtain ⟨_, _, _, hd⟩ := rdVal_only hv
  have hr : r = bs.drop (bs.length - r.length) := by
    have h2 := congrArg List.length hd
    rw [List.length_append] at h2
    have h3 : r = bs.drop (pos + (enc v).length) := by rw [← List.drop_drop, hd, List.drop_left]
    have hlen : (bs.drop pos).length = bs.length - pos := List.length_drop
    rw [show bs.length - r.length = pos + (enc v).length by omega]
    exact h3
  have hlen : (bs.drop pos).length = bs.length - pos := List.length_drop
  refine ⟨?_, by omega⟩
  unfold Rest at h ⊢
  rw [rdAll_ok hl hv, show pos + ((bs.drop pos).length - r.length) = bs.length - r.length by omega] at h
  rw [← hr, List.length_append, List.length_singleton]
  generalize rdAll (ls.length + 1) (bs.length - r.length) r = X at *
  obtain ⟨a, q, e⟩ := X
  by_cases he : e = 0
  · subst he; simpa using h
  · simpa [he] using h

/-- What reading a whole list leads to. -/
def Listed (w : World) (R : Nat) (bs : List UInt8) (e : Ending) (w' : World) : Prop :=
  ((rdAll 0 0 bs).2.2 = 0 ∧ ∃ v, e = .returned v ∧ OwnV w' w.heap.size v (rdAll 0 0 bs).1 ∧ (rdAll 0 0 bs).2.1 = 0 ∧ w.grownBy w' (some R)) ∨
  ((rdAll 0 0 bs).2.2 ≠ 0 ∧ e = .panicked (fault ((rdAll 0 0 bs).2.1 : Nat) (rdAll 0 0 bs).2.2) ∧ w.grownBy w' (some R))

theorem readList (R B : Nat) (b : Option Addr) (cap : Nat) (bs : List UInt8) (w : World) (h : Whole w R 54 #[.slice b bs.length cap, .int .i64 0, .int .i64 0])
    (hR : B ≤ R) (hs : Sees w B 1 b bs.length (Lib.byteCells bs)) (h2 : bs.length ≤ cap) (h3 : cap ≤ 9223372036854775807) :
    Calls Try.prog 25 #[.pointer (some ⟨R, 0, none⟩)] w (Listed w R bs) := by
  have H := Lib.hid h
  have HS := Lib.hid hs
  have HL := h.lt
  clear h hs
  go_enter Try.func25, Try.ntmps25
  go_wp2_with fail
  go_loopw [3] (fun l wr => ∃ (ls : List Val) (pos : Nat) (beg : Int), pos ≤ bs.length ∧ ls.length ≤ 1000 ∧ OwnV wr w.heap.size l ls ∧ Whole wr R 54 #[.slice b bs.length cap, .int .i64 (pos : Int), .int .i64 beg] ∧
      w.grownBy wr (some R) ∧ Rest bs ls pos) (fun l _ => 1001 - lenOf l)
  case atStart => exact ⟨[], 0, 0, by omega, by simp, World.ownsRow_nil _ _ _ _, H.out, grow_refl _ _, rest_start bs⟩
  case round =>
    obtain ⟨ls, pos, beg, hp, hl, hown, hwh, hg, hrest⟩ := hrel
    obtain ⟨A, c, rfl, hcap1, hcap2⟩ := hown.slice
    have HO := Lib.hid hown
    have HW := Lib.hid hwh
    have HG := Lib.hid hg
    have HR := Lib.hid hrest
    have hgs := hg.size
    have g0 : _ = some (Value.slice b bs.length cap) := hwh.cell 0
    have g1 : _ = some (Value.int .i64 (pos : Int)) := hwh.cell 1
    have g2 : _ = some (Value.int .i64 beg) := hwh.cell 2
    have f2 := hwh.free 2
    clear hown hwh hg hrest
    by_cases hend : pos < bs.length
    · have hend' : (pos : Int) < (bs.length : Int) := by omega
      have HSr := Lib.hid (HS.out.grow HG.out hR (by omega))
      by_cases hfull : ls.length = 1000
      · have hf : ((ls.length : Int) == 1000) = true := by simpa using (by omega : (ls.length : Int) = 1000)
        have HM := Lib.hid (rest_many HR.out hend hfull)
        clear hfull
        go_wp2_with fail
        go_quiet (fail)
        go_wp2_with fail
        refine (fail_any R _ pos pos 20 _ ((HW.out.drewN _).set 2 _)).mono ?_
        rintro e w2 ⟨rfl, rfl⟩
        go_wp2_with fail
        refine bodyPost_panic rfl (.inr ?_)
        rw [HM.out]
        exact ⟨by simp, rfl, grow_setR (grow_drewN HG.out _) _ _⟩
      · have hf : ((ls.length : Int) == 1000) = false := by simpa using (by omega : ¬ (ls.length : Int) = 1000)
        cases hrv : rdVal (bs.drop pos) with
        | err x =>
          have HM := Lib.hid (rest_err HR.out hend hfull hrv)
          clear hfull
          go_wp2_with fail
          go_quiet (fail)
          go_wp2_with fail
          refine (readValue R B b cap bs pos pos _ ((HW.out.drewN _).set 2 _) hR ((HSr.out.drewN _).set (p := ⟨R, 2, none⟩) hR _) hend h2 h3).mono ?_
          rw [hrv]
          rintro e w2 ⟨rfl, hg2⟩
          have HG2 := Lib.hid (grow_trans (grow_setR (grow_drewN HG.out _) _ _) hg2)
          clear hg2 hrv
          go_wp2_with fail
          refine bodyPost_panic rfl (.inr ?_)
          rw [HM.out.1]
          exact ⟨HM.out.2, rfl, HG2.out⟩
        | ok v r =>
          have HM := Lib.hid (rest_ok HR.out hend hfull hrv)
          have hlt : ls.length ≤ 999 := by omega
          clear hfull
          go_wp2_with fail
          go_quiet (fail)
          go_wp2_with fail
          refine (readValue R B b cap bs pos pos _ ((HW.out.drewN _).set 2 _) hR ((HSr.out.drewN _).set (p := ⟨R, 2, none⟩) hR _) hend h2 h3).mono ?_
          rw [hrv]
          rintro e w2 ⟨rfl, hwh2, hg2⟩
          have hgg := grow_trans (grow_setR (grow_drewN HG.out _) _ _) hg2
          have HG2 := Lib.hid hgg
          have HO2 := Lib.hid (HO.out.keep (grow_trans (grow_setR (grow_drewN (grow_refl wr _) _) _ _) hg2) HL)
          have HW2 := Lib.hid hwh2
          have hz2 := hgg.size
          clear hg2 hrv hwh2 hgg
          go_wp2_with (at_builtin; refine wpList_appV rfl (.tmp 26) (.tmp 29) rfl w.heap.size _ ls rfl HO2.out v _ rfl (by simp) hz2 (by omega) ?_)
          intro v' w3 hown3 hb3
          have HO3 := Lib.hid hown3
          have HW3 := Lib.hid (HW2.out.below hb3 HL)
          have HG3 := Lib.hid (grow_then HG2.out hb3)
          obtain ⟨A', c', hv', hx1, hx2⟩ := hown3.slice
          rw [List.length_append, List.length_singleton] at hv'
          have HV' := Lib.hid hv'
          clear hown3 hb3 hv'
          go_wp2
          go_roundw
          case rel => exact ⟨ls ++ [v], bs.length - r.length, pos, by omega, by rw [List.length_append, List.length_singleton]; omega, HO3.out, HW3.out, HG3.out, HM.out.1⟩
          case measure => rw [HV'.out]; simp [lenOf]; omega
    · have hend' : (bs.length : Int) ≤ (pos : Int) := by omega
      have HM := Lib.hid (rest_end HR.out (by omega))
      go_wp2_with fail
      go_quiet (fail)
      go_wp2_with fail
      go_ret
      refine .inl ?_
      rw [HM.out]
      exact ⟨rfl, _, rfl, HO.out, rfl, grow_drewN HG.out _⟩
end Go.Proofs.Ytmaeacklloaeaaa
