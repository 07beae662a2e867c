/- Contracts of the program's calls at layer 7: what an act does; Append, Sync, Swap. -/
import Derived.Test.YtlfigbgcackimaaDiskA
namespace Go.Proofs.Ytlfigbgcackimaa
open Go.RowKit Go.Dk
set_option linter.unusedVariables false
set_option linter.unusedSimpArgs false
set_option maxRecDepth 100000

/-- wpList_appG, that tells where the new slice lies. -/
theorem wpList_appAt {ops : Array Oper} {rest : List Oper} {o : Oper} {a : Act} {Q : Exit → Act → World → Prop} {w : World} (hgd : o.guard = none) (s x : Operand) (t e : TypeId) (z : Value) (size bytes : Nat)
    (ho : o.op = .call { callee := .builtin .append, args := #[s, x], argTypes := #[t, t] }) (hinfo : (Try.prog.info? e).map (fun i => (i.zero, i.size, i.bytes)) = some (some z, size, bytes))
    (ht : Try.prog.underlying t = some (.slice e)) (hzs : z.cells.size = size) (hsz : 0 < size)
    (B : Nat) (v : Value) (n : Nat) (xs : List Value) (hs : a.eval s = v) (hown : w.ownsRow B e size v n xs) (B2 : Nat) (A : Option Addr) (m c : Nat) (news : List Value) (hx : a.eval x = .slice A m c) (hsee : Sees w B2 size A m news)
    (hc0 : A = none → c = 0) (h1 : ∀ u ∈ news, u.oneCell' = true) (h63 : n + m ≤ 9223372036854775807) (hbytes : (n + m) * bytes ≤ 140737488355328) (hB : B ≤ w.heap.size)
    (h : ∀ v' w', w'.ownsRow B e size v' (n + m) (xs ++ news) → w.grownBy w' v.ownBlock → (v'.ownBlock = v.ownBlock ∨ v'.ownBlock = some w.heap.size) → wpList Try.prog ops Q rest (a.put o.dst v') w') :
    wpList Try.prog ops Q (o :: rest) a w := by
  obtain ⟨i0, hi, hz0, hz1, hz2⟩ := info_parts hinfo
  cases A with
  | none =>
    have hm : m = 0 := by
      rcases Nat.eq_zero_or_pos m with h0 | h0
      · exact h0
      · obtain ⟨b, off, hA, _⟩ := hsee.2 h0
        cases hA
    subst hm
    have hn : news = [] := List.eq_nil_of_length_eq_zero (by simpa using hsee.1)
    subst hn
    obtain rfl := hc0 rfl
    refine wpList_append_own_none hgd s x t ho B e i0 size ht hi v n xs hs hown hx ?_
    exact h v w (by simpa using hown) ⟨rfl, rfl, rfl, Nat.le_refl _, fun _ _ _ => rfl⟩ (.inl rfl)
  | some ad =>
    refine wpList_append_own_at w hgd s x t ho B e i0 z size bytes ht hi hz0 hz1 hz2 hzs hsz v n xs hs hown ad m c news hx hsee.1 ?_ h1 (by unfold maxLen; exact h63) hbytes hB ?_
    · intro j u hu
      rcases Nat.eq_zero_or_pos m with h0 | h0
      · subst h0
        have hn : news = [] := List.eq_nil_of_length_eq_zero (by simpa using hsee.1)
        subst hn
        simp at hu
      · obtain ⟨b, off, hA, _, hc⟩ := hsee.2 h0
        injection hA with hA
        subst hA
        rw [add_at]; exact hc j u hu
    · intro v' w' hown' hg _ hat
      exact h v' w' hown' hg hat
/-- Log i's own slice stays; how many are sure is set. -/
theorem syncs_any (g h k : Nat) (vs : Nat → Value) (d : D) (F : Nat → Prop) (i : Nat) (c : Lg) (hi : d.logs[i]? = some c) (w : World) (x : Dx w g h k vs d F) :
    Calls Try.prog 65 #[.pointer (some ⟨h, i * 2, none⟩)] w fun e w' => e = .returned (.tuple #[]) ∧ Put F w w' g h k d i ⟨c.all, c.all.length⟩ := by
  have HX := Lib.hid x
  have HI := Lib.hid hi
  have ok := x.ok.logs c (List.mem_of_getElem? hi)
  have HOK : Hid ((⟨c.all, c.all.length⟩ : Lg).okay) := Lib.hid ⟨Nat.le_refl _, ok.2⟩
  obtain ⟨A, cap, hv, h1, h2, h3⟩ := x.slice hi
  have HV := Lib.hid hv
  obtain ⟨l0, l1, f0, f1⟩ := x.log hi
  rw [hv] at l0
  clear x hi ok hv
  go_enter Try.func65, Try.ntmps65
  go_wp2_with fail
  go_end0
  have x := HX.out
  have hv := HV.out
  have hown := x.own i c HI.out
  refine ⟨rfl, (Off.refl _ _).set (p := ⟨h, i * 2 + 1, none⟩) (.inl x.mine.2.1) _, upd vs i (vs i), F, fun b hb => .inl hb, ?_⟩
  refine x.setLog HI.out _ _ HOK.out (by simp) (fun b hb => hb) (fun b hb => by simpa using x.low b hb) (fun cs hw => ?_) (fun b hb hne _ => Below.heap_setCell w ⟨h, i * 2 + 1, none⟩ _ b hne) ?_ (fun b hb => ⟨x.mine.2.2.2 i b (at_lt HI.out) hb, .inl hb⟩)
  · have hw2 := (hw.set (i * 2 + 1) (.int .i64 (c.all.length : Int)))
    obtain ⟨cs', c1, c2⟩ := x.row
    have he : cs' = cs := by
      have := (show w.heap[h]? = _ from c1).symm.trans hw
      injection this with this
      injection this
    subst he
    have hself : cs'.setIfInBounds (i * 2) (vs i) = cs' := by
      have := (c2 i c HI.out).1
      obtain ⟨hlt, hat⟩ := Array.getElem?_eq_some_iff.1 this
      apply Array.ext
      · simp
      · intro j h1 h2
        rw [Array.getElem_setIfInBounds]
        split
        · rename_i e
          subst e
          exact hat.symm
        · rfl
    rw [hself]
    exact hw2
  · exact hown.at fun b hb => Below.heap_setCell w ⟨h, i * 2 + 1, none⟩ _ b (x.bytes HI.out hb).2.1

/-- What a slice of bytes handed in is like: it shows them, in a block that lies there. -/
structure InB (w : World) (A : Option Addr) (cap : Nat) (bs : List UInt8) : Prop where
  sees : ∃ B, B ≤ w.heap.size ∧ Sees w B 1 A bs.length (Lib.byteCells bs)
  room : bs.length ≤ cap
  top : cap ≤ 9223372036854775807
  nil : A = none → cap = 0
theorem InB.call {w w' : World} {A : Option Addr} {cap : Nat} {bs : List UInt8} (h : InB w A cap bs) (k : Below w.heap.size w w') : InB w' A cap bs := by
  obtain ⟨B, hB, hs⟩ := h.sees
  exact ⟨⟨B, Nat.le_trans hB k.size, hs.below (k.mono hB)⟩, h.room, h.top, h.nil⟩

/-- Worlds round an operation that yields v (a), which is stored then (b). -/
structure Ap (w y : World) (o : World → Value → Prop) (st : World → Value → World) (v : Value) (a b : Bool) : Prop where
  off : a = false → y = w.drew ∧ b = false
  mid : a = true → b = false → o y v
  fin : b = true → a = true ∧ ∃ y0, o y0 v ∧ y = st y0 v
theorem Ap.start (w : World) (o : World → Value → Prop) (st : World → Value → World) (v : Value) : Ap w w.drew o st v false false := ⟨fun _ => ⟨rfl, rfl⟩, fun h => (by cases h), fun h => by cases h⟩
theorem Ap.made {w y : World} {o : World → Value → Prop} {st : World → Value → World} {v : Value} (h : o y v) : Ap w y o st v true false := ⟨fun h => (by cases h), fun _ _ => h, fun h => by cases h⟩
theorem Ap.stored {w y : World} {o : World → Value → Prop} {st : World → Value → World} {v : Value} (h : o y v) : Ap w (st y v) o st v true true := ⟨fun h => (by cases h), fun _ h => (by cases h), fun _ => ⟨rfl, y, h, rfl⟩⟩

set_option maxHeartbeats 2000000 in
theorem appends_any (g h k : Nat) (vs : Nat → Value) (d : D) (F : Nat → Prop) (i : Nat) (c : Lg) (hi : d.logs[i]? = some c) (b : Nat) (A : Option Addr) (cap : Nat) (bs : List UInt8) (w : World) (x : Dx w g h k vs d F)
    (hb : Whole w b 52 #[.slice A bs.length cap]) (hin : InB w A cap bs) (hsz : c.all.length + bs.length ≤ 4194304) :
    Calls Try.prog 43 #[.pointer (some ⟨h, i * 2, none⟩), ptr b] w fun e w' => e = .returned (.tuple #[]) ∧ Put F w w' g h k d i ⟨c.all ++ bs, c.sure⟩ := by
  have HX := Lib.hid x
  have HI := Lib.hid hi
  have ok := x.ok.logs c (List.mem_of_getElem? hi)
  have HOK : Hid ((⟨c.all ++ bs, c.sure⟩ : Lg).okay) := Lib.hid ⟨by have := ok.1; simp; omega, by simpa using hsz⟩
  obtain ⟨A0, cap0, hv, h1, h2, h3⟩ := x.slice hi
  have HV := Lib.hid hv
  have hown := x.own i c hi
  rw [hv] at hown
  have HO := Lib.hid hown
  obtain ⟨l0, l1, f0, f1⟩ := x.log hi
  rw [hv] at l0
  have q0 := hb.cell 0
  obtain ⟨B2, hB2, hsee⟩ := hin.sees
  have HS := Lib.hid hsee
  have hn := hin.nil
  have HLEN : Hid ((c.all ++ bs).length = c.all.length + bs.length) := Lib.hid List.length_append
  have HCELLS : Hid (Lib.byteCells (c.all ++ bs) = Lib.byteCells c.all ++ Lib.byteCells bs) := Lib.hid (by unfold Lib.byteCells; rw [List.map_append])
  have HLT := Lib.hid (x.row.elim fun cs hcs => hcs.1.lt)
  have HNE : Hid (some h ≠ (Value.slice A0 c.all.length cap0).ownBlock) := Lib.hid fun e => by
    rw [← hv] at e
    exact (x.bytes hi e.symm).2.1 rfl
  clear x hi ok hv hown hb hin hsee
  go_enter Try.func43, Try.ntmps43
  go_wp2_with fail
  -- REGION
  refine Iv.region (fun f aa y => ∃ v1, aa = ⟨#[.pointer (some ⟨h, i * 2, none⟩), ptr b, undef, sl (f 0) (.pointer (some ⟨h, i * 2, none⟩)), sl (f 1) (.pointer (some ⟨h, i * 2, none⟩)), sl (f 2) (.pointer (some ⟨h, i * 2, none⟩)), sl (f 3) (.pointer (some ⟨h, i * 2, none⟩)), sl (f 4) (.slice A0 c.all.length cap0), sl (f 5) (.slice A bs.length cap), sl (f 6) (v1), sl (f 7) (.pointer (some ⟨h, i * 2, none⟩)), sl (f 8) (.pointer (some ⟨h, i * 2, none⟩))], []⟩ ∧ Ap w y (fun y v => y.ownsRow 0 5 1 v (c.all.length + bs.length) (Lib.byteCells c.all ++ Lib.byteCells bs) ∧ w.grownBy y (Value.slice A0 c.all.length cap0).ownBlock ∧ (v.ownBlock = (Value.slice A0 c.all.length cap0).ownBlock ∨ v.ownBlock = some w.heap.size)) (fun y v => y.setCell ⟨h, i * 2, none⟩ v) v1 (f 6) (f 9) ∧ (f 6 = true → f 4 = true ∧ f 5 = true)) (by kernel_rfl) (by kernel_rfl) ?_ ?_ ?_
  · exact ⟨undef, rfl, Ap.start _ _ _ _, fun h => by cases h⟩
  · refine ⟨?_, ?_, ?_, ?_, ?_, ?_, ?_, ?_, ?_, ?_, trivial⟩
    · rintro f a0 y Q' ⟨v1, rfl, hw⟩ hi hd hQ
      replace hQ := Lib.hid hQ
      simp [Iv.depsB, Region.binds] at hd
      try simp only [hi, hd, sl_true, sl_false]
      try simp only [hi, sl_true, sl_false]
      go_wp2_with fail
      refine hQ.out _ _ ⟨v1, ?_, ?_⟩
      · simp [Iv.upd, hi, hd, sl_true, sl_false]
      · simpa [Iv.upd, hi, hd] using hw
    · rintro f a0 y Q' ⟨v1, rfl, hw⟩ hi hd hQ
      replace hQ := Lib.hid hQ
      simp [Iv.depsB, Region.binds] at hd
      try simp only [hi, hd, sl_true, sl_false]
      try simp only [hi, sl_true, sl_false]
      go_wp2_with fail
      refine hQ.out _ _ ⟨v1, ?_, ?_⟩
      · simp [Iv.upd, hi, hd, sl_true, sl_false]
      · simpa [Iv.upd, hi, hd] using hw
    · rintro f a0 y Q' ⟨v1, rfl, hw⟩ hi hd hQ
      replace hQ := Lib.hid hQ
      simp [Iv.depsB, Region.binds] at hd
      try simp only [hi, hd, sl_true, sl_false]
      try simp only [hi, sl_true, sl_false]
      go_wp2_with fail
      refine hQ.out _ _ ⟨v1, ?_, ?_⟩
      · simp [Iv.upd, hi, hd, sl_true, sl_false]
      · simpa [Iv.upd, hi, hd] using hw
    · rintro f a0 y Q' ⟨v1, rfl, hw⟩ hi hd hQ
      replace hQ := Lib.hid hQ
      simp [Iv.depsB, Region.binds] at hd
      try simp only [hi, hd, sl_true, sl_false]
      try simp only [hi, sl_true, sl_false]
      go_wp2_with fail
      refine hQ.out _ _ ⟨v1, ?_, ?_⟩
      · simp [Iv.upd, hi, hd, sl_true, sl_false]
      · simpa [Iv.upd, hi, hd] using hw
    · rintro f a0 y Q' ⟨v1, rfl, hw⟩ hi hd hQ
      replace hQ := Lib.hid hQ
      simp [Iv.depsB, Region.binds] at hd
      try simp only [hi, hd, sl_true, sl_false]
      try simp only [hi, sl_true, sl_false]
      have h6 : f 6 = false := by
        cases e6 : f 6 with
        | false => rfl
        | true => have := hw.2 e6; simp [hi] at this
      obtain ⟨e1, e9⟩ := hw.1.off h6
      subst e1
      go_wp2_with fail
      refine hQ.out _ _ ⟨v1, ?_, ?_⟩
      · simp [Iv.upd, hi, hd, h6, sl_true, sl_false]
      · simpa [Iv.upd, hi, hd, h6] using hw.1
    · rintro f a0 y Q' ⟨v1, rfl, hw⟩ hi hd hQ
      replace hQ := Lib.hid hQ
      simp [Iv.depsB, Region.binds] at hd
      try simp only [hi, hd, sl_true, sl_false]
      try simp only [hi, sl_true, sl_false]
      have h6 : f 6 = false := by
        cases e6 : f 6 with
        | false => rfl
        | true => have := hw.2 e6; simp [hi] at this
      obtain ⟨e1, e9⟩ := hw.1.off h6
      subst e1
      go_wp2_with fail
      refine hQ.out _ _ ⟨v1, ?_, ?_⟩
      · simp [Iv.upd, hi, hd, h6, sl_true, sl_false]
      · simpa [Iv.upd, hi, hd, h6] using hw.1
    · rintro f a0 y Q' ⟨v1, rfl, hw⟩ hi hd hQ
      replace hQ := Lib.hid hQ
      simp [Iv.depsB, Region.binds] at hd
      try simp only [hi, hd, sl_true, sl_false]
      try simp only [hi, sl_true, sl_false]
      obtain ⟨e1, e9⟩ := hw.1.off hi
      subst e1
      have d4 : f 4 = true := by simp [hd]
      have d5 : f 5 = true := by simp [hd]
      try simp only [d4, d5, sl_true]
      refine wpList_appAt rfl (.tmp 7) (.tmp 8) _ 5 _ 1 1 rfl info_byte Try.underlying52 rfl (by decide) 0 _ c.all.length (Lib.byteCells c.all) (by rfl) HO.out B2 A bs.length cap (Lib.byteCells bs) (by rfl) HS.out hn (byte_one _) (by omega) (by omega) (Nat.zero_le _) ?_
      intro v2 w2 ho hg hat
      go_wp2_with fail
      refine hQ.out _ _ ⟨v2, ?_, ?_⟩
      · simp [Iv.upd, hi, hd, d4, d5, sl_true, sl_false]
      · simpa [Iv.upd, hi, hd, e9, d4, d5] using Ap.made ⟨ho, ⟨hg.os, hg.tape, hg.output, hg.size, hg.block⟩, hat⟩
    · rintro f a0 y Q' ⟨v1, rfl, hw⟩ hi hd hQ
      replace hQ := Lib.hid hQ
      simp [Iv.depsB, Region.binds] at hd
      try simp only [hi, hd, sl_true, sl_false]
      try simp only [hi, sl_true, sl_false]
      go_wp2_with fail
      refine hQ.out _ _ ⟨v1, ?_, ?_⟩
      · simp [Iv.upd, hi, hd, sl_true, sl_false]
      · simpa [Iv.upd, hi, hd] using hw
    · rintro f a0 y Q' ⟨v1, rfl, hw⟩ hi hd hQ
      replace hQ := Lib.hid hQ
      simp [Iv.depsB, Region.binds] at hd
      try simp only [hi, hd, sl_true, sl_false]
      try simp only [hi, sl_true, sl_false]
      go_wp2_with fail
      refine hQ.out _ _ ⟨v1, ?_, ?_⟩
      · simp [Iv.upd, hi, hd, sl_true, sl_false]
      · simpa [Iv.upd, hi, hd] using hw
    · rintro f a0 y Q' ⟨v1, rfl, hw⟩ hi hd hQ
      replace hQ := Lib.hid hQ
      simp [Iv.depsB, Region.binds] at hd
      try simp only [hi, hd, sl_true, sl_false]
      try simp only [hi, sl_true, sl_false]
      have d6 : f 6 = true := by simp [hd]
      have hm := hw.1.mid d6 hi
      have d8 : f 8 = true := by simp [hd]
      try simp only [d6, d8, sl_true]
      have hk2 := hm.2.1.block h HLT.out HNE.out
      have t0 : y.cell? ⟨h, i * 2, none⟩ = some (.slice A0 c.all.length cap0) := (World.cell?_of_block (a := ⟨h, i * 2, none⟩) hk2).trans l0
      have t1 : y.frozen? ⟨h, i * 2, none⟩ = false := (World.frozen?_of_block (a := ⟨h, i * 2, none⟩) hk2).trans f0
      obtain ⟨A2, cap2, e2, -, -, -⟩ := own_slice0 hm.1
      subst e2
      clear hk2
      have HM := Lib.hid hm
      clear hm
      go_wp2_with fail
      refine hQ.out _ _ ⟨.slice A2 (c.all.length + bs.length) cap2, ?_, ?_⟩
      · simp [Iv.upd, hi, hd, d6, d8, sl_true, sl_false]
      · simpa [Iv.upd, hi, hd, d6] using (show _ ∧ _ from ⟨Ap.stored (w := w) (o := fun y v => y.ownsRow 0 5 1 v (c.all.length + bs.length) (Lib.byteCells c.all ++ Lib.byteCells bs) ∧ w.grownBy y (Value.slice A0 c.all.length cap0).ownBlock ∧ (v.ownBlock = (Value.slice A0 c.all.length cap0).ownBlock ∨ v.ownBlock = some w.heap.size)) (st := fun y v => y.setCell ⟨h, i * 2, none⟩ v) HM.out, hw.2⟩)
  · rintro f a0 y ⟨v1, rfl, hw⟩ hall
    simp only [hall 0 (by decide), hall 1 (by decide), hall 2 (by decide), hall 3 (by decide), hall 4 (by decide), hall 5 (by decide), hall 6 (by decide), hall 7 (by decide), hall 8 (by decide), hall 9 (by decide), sl_true, ↓reduceIte] at hw ⊢
    clear hall
    obtain ⟨-, y0, ⟨ho, hg, hat⟩, rfl⟩ := hw.1.fin rfl
    have HG := Lib.hid hg
    have HOO := Lib.hid ho
    clear hw ho hg
    go_wp2_with fail
    go_end0
    have x := HX.out
    have hv := HV.out
    have hb : (Value.slice A0 c.all.length cap0).ownBlock = (vs i).ownBlock := by rw [hv]
    rw [hb] at hat
    have hg := HG.out
    rw [hb] at hg
    have hlt := at_lt HI.out
    refine ⟨rfl, ?_, upd vs i v1, fun b => F b ∨ b = w.heap.size ∧ b < y0.heap.size, fun b hb => ?_, ?_⟩
    · exact ((Off.refl F w).grown hg fun b hb => .inl (x.mine.2.2.2 i b hlt hb)).set (p := ⟨h, i * 2, none⟩) (.inl x.mine.2.1) _
    · rcases hb with hb | hb
      · exact .inl hb
      · exact .inr (by omega)
    · refine x.setLog HI.out v1 _ HOK.out (by simpa using hg.size) (fun b hb => .inl hb) (fun b hb => ?_) (fun cs hw => ?_) (fun b hb hne hv2 => ?_) ?_ (fun b hb => ?_)
      · rcases hb with hb | hb
        · have := x.low b hb
          have := hg.size
          simp; omega
        · simpa using hb.2
      · have hw2 := hw.grown hg (fun e => (x.bytes HI.out e.symm).2.1 rfl)
        obtain ⟨cs', c1, c2⟩ := x.row
        have he : cs' = cs := by
          have := (show w.heap[h]? = _ from c1).symm.trans hw
          injection this with this
          injection this
        subst he
        have hself : (cs'.setIfInBounds (i * 2) v1).setIfInBounds (i * 2 + 1) (.int .i64 c.sure) = cs'.setIfInBounds (i * 2) v1 := by
          have := (c2 i c HI.out).2
          obtain ⟨hlt, hat⟩ := Array.getElem?_eq_some_iff.1 this
          apply Array.ext
          · simp
          · intro j h1 h2
            rw [Array.getElem_setIfInBounds]
            split
            · rename_i e
              subst e
              rw [Array.getElem_setIfInBounds, if_neg (by omega)]
              exact hat.symm
            · rfl
        rw [hself]
        exact hw2.set (i * 2) v1
      · rw [Below.heap_setCell _ ⟨h, i * 2, none⟩ _ b hne]
        exact hg.block b (x.low b hb) (fun e => hv2 e.symm)
      · have ho : OwnB y0 0 v1 (c.all ++ bs) := by
          unfold OwnB
          rw [HLEN.out, HCELLS.out]
          exact HOO.out
        refine ho.at fun b hb => Below.heap_setCell _ ⟨h, i * 2, none⟩ _ b fun e => ?_
        subst e
        rcases hat with e | e
        · rw [e] at hb
          exact (x.bytes HI.out hb).2.1 rfl
        · rw [hb] at e
          injection e with e
          have := HLT.out
          omega
      · rcases hat with e | e
        · rw [e] at hb
          exact ⟨.inl (x.mine.2.2.2 i b hlt hb), .inl hb⟩
        · rw [e] at hb
          injection hb with hb
          subst hb
          exact ⟨.inr ⟨rfl, (HOO.out.lt w.heap.size e).2⟩, .inr (Nat.le_refl _)⟩
  -- END

set_option maxHeartbeats 1000000 in
theorem swaps_any (g h k : Nat) (vs : Nat → Value) (d : D) (F : Nat → Prop) (i : Nat) (c : Lg) (hi : d.logs[i]? = some c) (b : Nat) (A : Option Addr) (cap : Nat) (bs : List UInt8) (w : World) (x : Dx w g h k vs d F)
    (hb : Whole w b 52 #[.slice A bs.length cap]) (hin : InB w A cap bs) (hsz : bs.length ≤ 4194304) :
    Calls Try.prog 67 #[.pointer (some ⟨h, i * 2, none⟩), ptr b] w fun e w' => e = .returned (.tuple #[]) ∧ Put F w w' g h k d i ⟨bs, bs.length⟩ := by
  have HX := Lib.hid x
  have HI := Lib.hid hi
  have HOK : Hid ((⟨bs, bs.length⟩ : Lg).okay) := Lib.hid ⟨Nat.le_refl _, hsz⟩
  obtain ⟨l0, l1, f0, f1⟩ := x.log hi
  have q0 := hb.cell 0
  have HCL : Hid (∀ w0, Below w.heap.size w w0 → Calls Try.prog 49 #[.slice A bs.length cap] w0 fun e w' => ∃ v, e = .returned v ∧ OwnB w' w0.heap.size v bs ∧ Below w0.heap.size w0 w') := Lib.hid fun w0 hb0 => by
    obtain ⟨B, hB, hs⟩ := (hin.call hb0).sees
    exact clone_any B A cap bs w0 hs hB hin.room hin.top hin.nil (by omega)
  have HLT := Lib.hid (x.row.elim fun cs hcs => hcs.1.lt)
  have HBL := Lib.hid hb.lt
  clear x hi hb hin
  go_enter Try.func67, Try.ntmps67
  go_wp2_with fail
  -- REGION2
  refine Iv.region (fun f aa y => ∃ v1, aa = ⟨#[.pointer (some ⟨h, i * 2, none⟩), ptr b, undef, sl (f 0) (.pointer (some ⟨h, i * 2, none⟩)), sl (f 1) (.slice A bs.length cap), sl (f 2) (v1), sl (f 3) (.slice A bs.length cap), sl (f 4) (.int .i64 (bs.length : Int)), sl (f 5) (.agg #[v1, .int .i64 (bs.length : Int)]), sl (f 6) (.pointer (some ⟨h, i * 2, none⟩))], []⟩ ∧ Ap w y (fun y v => OwnB y w.heap.size v bs ∧ Below w.heap.size w y) (fun y v => (y.setCell ⟨h, i * 2, none⟩ v).setCell ⟨h, i * 2 + 1, none⟩ (.int .i64 (bs.length : Int))) v1 (f 2) (f 7) ∧ (f 5 = true → f 2 = true) ∧ (f 7 = true → f 1 = true ∧ f 3 = true ∧ f 5 = true)) (by kernel_rfl) (by kernel_rfl) ?_ ?_ ?_
  · exact ⟨undef, rfl, Ap.start _ _ _ _, (fun h => by cases h), fun h => by cases h⟩
  · refine ⟨?_, ?_, ?_, ?_, ?_, ?_, ?_, ?_, trivial⟩
    · rintro f a0 y Q' ⟨v1, rfl, hw⟩ hi hd hQ
      replace hQ := Lib.hid hQ
      simp [Iv.depsB, Region.binds] at hd
      try simp only [hi, hd, sl_true, sl_false]
      try simp only [hi, sl_true, sl_false]
      go_wp2_with fail
      refine hQ.out _ _ ⟨v1, ?_, ?_⟩
      · simp [Iv.upd, hi, hd, sl_true, sl_false]
      · simpa [Iv.upd, hi, hd] using hw
    · rintro f a0 y Q' ⟨v1, rfl, hw⟩ hi hd hQ
      replace hQ := Lib.hid hQ
      simp [Iv.depsB, Region.binds] at hd
      try simp only [hi, hd, sl_true, sl_false]
      try simp only [hi, sl_true, sl_false]
      have e7 : f 7 = false := by
        cases e7 : f 7 with
        | false => rfl
        | true => have := hw.2.2 e7; simp [hi] at this
      have hbw : Below w.heap.size w y := by
        cases e2 : f 2 with
        | false => obtain ⟨e1, -⟩ := hw.1.off e2; rw [e1]; exact below_drewN (Below.refl _ _) 1
        | true => exact (hw.1.mid e2 e7).2
      have t0 : y.cell? ⟨b, 0, none⟩ = some (.slice A bs.length cap) := (World.cell?_of_block (a := ⟨b, 0, none⟩) (hbw.block b HBL.out)).trans q0
      clear hbw
      go_wp2_with fail
      refine hQ.out _ _ ⟨v1, ?_, ?_⟩
      · simp [Iv.upd, hi, hd, sl_true, sl_false]
      · simpa [Iv.upd, hi, hd, e7] using (show _ ∧ _ from ⟨hw.1, hw.2.1⟩)
    · rintro f a0 y Q' ⟨v1, rfl, hw⟩ hi hd hQ
      replace hQ := Lib.hid hQ
      simp [Iv.depsB, Region.binds] at hd
      try simp only [hi, hd, sl_true, sl_false]
      try simp only [hi, sl_true, sl_false]
      obtain ⟨e1, e9⟩ := hw.1.off hi
      subst e1
      have e5 : f 5 = false := by
        cases e5 : f 5 with
        | false => rfl
        | true => have := hw.2.1 e5; simp [hi] at this
      have d1 : f 1 = true := by simp [hd]
      try simp only [d1, sl_true]
      go_wp2_with fail
      refine (HCL.out _ (below_drewN (Below.refl _ _) 1)).mono ?_
      rintro e w2 ⟨v2, rfl, ho, hb2⟩
      go_wp2_with fail
      refine hQ.out _ _ ⟨v2, ?_, ?_⟩
      · simp [Iv.upd, hi, hd, d1, e5, sl_true, sl_false]
      · have hk : Ap w w2 (fun y v => OwnB y w.heap.size v bs ∧ Below w.heap.size w y) (fun y v => (y.setCell ⟨h, i * 2, none⟩ v).setCell ⟨h, i * 2 + 1, none⟩ (.int .i64 (bs.length : Int))) v2 true false := Ap.made ⟨ho, ⟨hb2.os, hb2.tape, hb2.output, hb2.size, hb2.block⟩⟩
        simpa [Iv.upd, hi, hd, e9, d1, e5] using hk
    · rintro f a0 y Q' ⟨v1, rfl, hw⟩ hi hd hQ
      replace hQ := Lib.hid hQ
      simp [Iv.depsB, Region.binds] at hd
      try simp only [hi, hd, sl_true, sl_false]
      try simp only [hi, sl_true, sl_false]
      have e7 : f 7 = false := by
        cases e7 : f 7 with
        | false => rfl
        | true => have := hw.2.2 e7; simp [hi] at this
      have hbw : Below w.heap.size w y := by
        cases e2 : f 2 with
        | false => obtain ⟨e1, -⟩ := hw.1.off e2; rw [e1]; exact below_drewN (Below.refl _ _) 1
        | true => exact (hw.1.mid e2 e7).2
      have t0 : y.cell? ⟨b, 0, none⟩ = some (.slice A bs.length cap) := (World.cell?_of_block (a := ⟨b, 0, none⟩) (hbw.block b HBL.out)).trans q0
      clear hbw
      go_wp2_with fail
      refine hQ.out _ _ ⟨v1, ?_, ?_⟩
      · simp [Iv.upd, hi, hd, sl_true, sl_false]
      · simpa [Iv.upd, hi, hd, e7] using (show _ ∧ _ from ⟨hw.1, hw.2.1⟩)
    · rintro f a0 y Q' ⟨v1, rfl, hw⟩ hi hd hQ
      replace hQ := Lib.hid hQ
      simp [Iv.depsB, Region.binds] at hd
      try simp only [hi, hd, sl_true, sl_false]
      try simp only [hi, sl_true, sl_false]
      go_wp2_with fail
      refine hQ.out _ _ ⟨v1, ?_, ?_⟩
      · simp [Iv.upd, hi, hd, sl_true, sl_false]
      · simpa [Iv.upd, hi, hd] using hw
    · rintro f a0 y Q' ⟨v1, rfl, hw⟩ hi hd hQ
      replace hQ := Lib.hid hQ
      simp [Iv.depsB, Region.binds] at hd
      try simp only [hi, hd, sl_true, sl_false]
      try simp only [hi, sl_true, sl_false]
      have d2 : f 2 = true := by simp [hd]
      have d4 : f 4 = true := by simp [hd]
      have e7 : f 7 = false := by
        cases e7 : f 7 with
        | false => rfl
        | true => have := hw.2.2 e7; simp [hi] at this
      have hm1 := (hw.1.mid d2 e7).1
      obtain ⟨A2, cap2, e2, -, -⟩ := OwnB.slice hm1
      subst e2
      clear hm1
      try simp only [d2, d4, sl_true]
      go_wp2_with fail
      refine hQ.out _ _ ⟨.slice A2 bs.length cap2, ?_, ?_⟩
      · simp [Iv.upd, hi, hd, d2, d4, sl_true, sl_false]
      · simpa [Iv.upd, hi, hd, d2, e7] using hw.1
    · rintro f a0 y Q' ⟨v1, rfl, hw⟩ hi hd hQ
      replace hQ := Lib.hid hQ
      simp [Iv.depsB, Region.binds] at hd
      try simp only [hi, hd, sl_true, sl_false]
      try simp only [hi, sl_true, sl_false]
      go_wp2_with fail
      refine hQ.out _ _ ⟨v1, ?_, ?_⟩
      · simp [Iv.upd, hi, hd, sl_true, sl_false]
      · simpa [Iv.upd, hi, hd] using hw
    · rintro f a0 y Q' ⟨v1, rfl, hw⟩ hi hd hQ
      replace hQ := Lib.hid hQ
      simp [Iv.depsB, Region.binds] at hd
      try simp only [hi, hd, sl_true, sl_false]
      try simp only [hi, sl_true, sl_false]
      have d2 : f 2 = true := by simp [hd]
      have d5 : f 5 = true := by simp [hd]
      have d6 : f 6 = true := by simp [hd]
      have hm := hw.1.mid d2 hi
      try simp only [d2, d5, d6, sl_true]
      have hk2 := hm.2.block h HLT.out
      have t0 : y.cell? ⟨h, i * 2, none⟩ = some (vs i) := (World.cell?_of_block (a := ⟨h, i * 2, none⟩) hk2).trans l0
      have t1 : y.frozen? ⟨h, i * 2, none⟩ = false := (World.frozen?_of_block (a := ⟨h, i * 2, none⟩) hk2).trans f0
      have t2 : y.cell? ⟨h, i * 2 + 1, none⟩ = some (.int .i64 c.sure) := (World.cell?_of_block (a := ⟨h, i * 2 + 1, none⟩) hk2).trans l1
      have t3 : y.frozen? ⟨h, i * 2 + 1, none⟩ = false := (World.frozen?_of_block (a := ⟨h, i * 2 + 1, none⟩) hk2).trans f1
      have hm1 := hm.1
      obtain ⟨A2, cap2, e2, -, -⟩ := OwnB.slice hm1
      subst e2
      clear hk2 hm1
      have HM := Lib.hid hm
      clear hm
      go_wp2_with fail
      refine hQ.out _ _ ⟨.slice A2 bs.length cap2, ?_, ?_⟩
      · simp [Iv.upd, hi, hd, d2, d5, d6, sl_true, sl_false]
      · simpa [Iv.upd, hi, hd, d2] using (show _ ∧ _ from ⟨Ap.stored (w := w) (o := fun y v => OwnB y w.heap.size v bs ∧ Below w.heap.size w y) (st := fun y v => (y.setCell ⟨h, i * 2, none⟩ v).setCell ⟨h, i * 2 + 1, none⟩ (.int .i64 (bs.length : Int))) HM.out, hw.2⟩)
  · rintro f a0 y ⟨v1, rfl, hw⟩ hall
    simp only [hall 0 (by decide), hall 1 (by decide), hall 2 (by decide), hall 3 (by decide), hall 4 (by decide), hall 5 (by decide), hall 6 (by decide), hall 7 (by decide), sl_true, ↓reduceIte] at hw ⊢
    clear hall
    obtain ⟨-, y0, ⟨ho, hb0⟩, rfl⟩ := hw.1.fin rfl
    have HB0 := Lib.hid hb0
    have HOO := Lib.hid ho
    clear hw ho hb0
    go_wp2_with fail
    go_end0
    have x := HX.out
    have hlt := at_lt HI.out
    have hb0 := HB0.out
    have new : ∀ b, v1.ownBlock = some b → w.heap.size ≤ b ∧ b < y0.heap.size := fun b hb => HOO.out.lt b hb
    refine ⟨rfl, ?_, upd vs i v1, fun b => F b ∨ w.heap.size ≤ b ∧ b < y0.heap.size, fun b hb => ?_, ?_⟩
    · exact ((Off.of hb0 F).set (p := ⟨h, i * 2, none⟩) (.inl x.mine.2.1) _).set (p := ⟨h, i * 2 + 1, none⟩) (.inl x.mine.2.1) _
    · rcases hb with hb | hb
      · exact .inl hb
      · exact .inr hb.1
    · refine x.setLog HI.out v1 _ HOK.out (by simpa using hb0.size) (fun b hb => .inl hb) (fun b hb => ?_) (fun cs hw => ?_) (fun b hb hne hv2 => ?_) ?_ (fun b hb => ⟨.inr (new b hb), .inr (new b hb).1⟩)
      · rcases hb with hb | hb
        · have := x.low b hb
          have := hb0.size
          simp; omega
        · simpa using hb.2
      · exact ((hw.below hb0 hw.lt).set (i * 2) v1).set (i * 2 + 1) _
      · rw [Below.heap_setCell _ ⟨h, i * 2 + 1, none⟩ _ b hne, Below.heap_setCell _ ⟨h, i * 2, none⟩ _ b hne]
        exact hb0.block b (x.low b hb)
      · refine (HOO.out.less (Nat.zero_le _)).at fun b hb => ?_
        have hne : b ≠ h := fun e => by
          have := (new b hb).1
          have := x.low h x.mine.2.1
          omega
        exact (Below.heap_setCell _ ⟨h, i * 2 + 1, none⟩ _ b hne).trans (Below.heap_setCell _ ⟨h, i * 2, none⟩ _ b hne)
  -- END2
end Go.Proofs.Ytlfigbgcackimaa
