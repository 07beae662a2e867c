/- Layer 12: the document's store (plain: rows that were put, how they go with chains), in memory; its Last, versions, Time, counts, Get. -/
import Derived.Test.YtcpcepbjdohdmaaStoN
namespace Go.So
open Go.Cn
set_option linter.unusedVariables false
/-- A row: its stamp and its entry. -/
abbrev Dr := Int × En
/-- What a key has among rows. -/
def chainOf : List Dr → Int → List Ve
  | [], _ => []
  | d :: l, k => if d.2.1 = k then (d.1, d.2.2) :: chainOf l k else chainOf l k
theorem chainOf_append (l m : List Dr) (k : Int) : chainOf (l ++ m) k = chainOf l k ++ chainOf m k := by
  induction l with
  | nil => rfl
  | cons d l ih =>
    simp only [List.cons_append, chainOf, ih]
    split
    · rfl
    · rfl
theorem chainOf_take (l : List Dr) (n : Nat) (d : Dr) (h : l[n]? = some d) (k : Int) : chainOf (l.take (n + 1)) k = chainOf (l.take n) k ++ (if d.2.1 = k then [(d.1, d.2.2)] else []) := by
  rw [List.take_add_one, h, chainOf_append]
  simp only [Option.toList, chainOf]
theorem chainOf_mem {l : List Dr} {k : Int} {v : Ve} : v ∈ chainOf l k ↔ ∃ d ∈ l, d.2.1 = k ∧ (d.1, d.2.2) = v := by
  induction l with
  | nil => simp [chainOf]
  | cons d l ih =>
    unfold chainOf
    split
    · rename_i h
      rw [List.mem_cons, ih]
      constructor
      · rintro (rfl | ⟨d', h1, h2⟩)
        · exact ⟨d, List.mem_cons_self .., h, rfl⟩
        · exact ⟨d', List.mem_cons_of_mem _ h1, h2⟩
      · rintro ⟨d', h1, h2, h3⟩
        rcases List.mem_cons.1 h1 with rfl | h1
        · exact .inl h3.symm
        · exact .inr ⟨d', h1, h2, h3⟩
    · rename_i h
      rw [ih]
      constructor
      · rintro ⟨d', h1, h2⟩
        exact ⟨d', List.mem_cons_of_mem _ h1, h2⟩
      · rintro ⟨d', h1, h2, h3⟩
        rcases List.mem_cons.1 h1 with rfl | h1
        · exact absurd h2 h
        · exact ⟨d', h1, h2, h3⟩
theorem chainOf_len (l : List Dr) (k : Int) : (chainOf l k).length ≤ l.length := by
  induction l with
  | nil => simp [chainOf]
  | cons d l ih => unfold chainOf; split <;> simp <;> omega
/-- The document's store. -/
structure Ds where
  l : List Dr
  closed : Int
  mark : Int
def verL (s : Sto) (k : Int) : List Ve := match s.ch k with | some c => c.l | none => []
/-- It goes with a store. -/
structure Rel (d : Ds) (s : Sto) : Prop where
  closed : d.closed = s.closed
  mark : d.mark = s.mark
  rows : ∀ k, chainOf d.l k = verL s k
theorem Rel.new : Rel ⟨[], 0, 0⟩ newS := ⟨rfl, rfl, fun k => rfl⟩
theorem Rel.key {d : Ds} {s : Sto} (h : Rel d s) (hf : Fine s) {x : Dr} (hx : x ∈ d.l) : 0 ≤ x.2.1 ∧ x.2.1 < 8192 := by
  have hm : ((x.1, x.2.2) : Ve) ∈ chainOf d.l x.2.1 := chainOf_mem.2 ⟨x, hx, rfl, rfl⟩
  rw [h.rows] at hm
  unfold verL at hm
  cases hc : s.ch x.2.1 with
  | none => rw [hc] at hm; cases hm
  | some c => exact hf.key _ c hc
theorem sum_rows (l : List Dr) (h : ∀ x ∈ l, 0 ≤ x.2.1 ∧ x.2.1 < 8192) : (allK.map fun k => (chainOf l k).length).sum = l.length := by
  induction l with
  | nil =>
    have : (allK.map fun k => (chainOf [] k).length) = allK.map fun _ => 0 := rfl
    rw [this]
    generalize allK = m
    induction m with
    | nil => rfl
    | cons a m ih => simpa using ih
  | cons d l ih =>
    have := sum_point (f := fun k => (chainOf l k).length) (g := fun k => (chainOf (d :: l) k).length) allK allK_nodup d.2.1 ((allK_mem _).2 (h d (List.mem_cons_self ..))) 1 (by simp [chainOf]) fun j hj => by
      simp only [chainOf]
      rw [if_neg (fun e => hj e.symm)]
    rw [this, ih fun x hx => h x (List.mem_cons_of_mem _ hx)]
    rfl
theorem Rel.size {d : Ds} {s : Sto} (h : Rel d s) (hf : Fine s) : d.l.length = sizeS s := by
  rw [← sum_rows d.l fun x hx => h.key hf hx]
  unfold sizeS
  have : (allK.map fun k => (chainOf d.l k).length) = allK.map (lenS s) := List.map_congr_left fun k _ => by
    rw [h.rows]
    unfold verL lenS
    cases s.ch k <;> rfl
  rw [this]
theorem Rel.last {d : Ds} {s : Sto} (h : Rel d s) (hf : Fine s) (k : Int) : lastV (chainOf d.l k) = lastS s k ∧ decide (0 < (chainOf d.l k).length) = (s.ch k).isSome := by
  rw [h.rows]
  unfold verL lastS
  cases hc : s.ch k with
  | none => exact ⟨rfl, rfl⟩
  | some c => exact ⟨rfl, by have := hf.pos k c hc; simpa using this⟩
def leF (u : Int) (l : List Ve) : List Ve := l.filter fun v => decide (v.1 ≤ u)
theorem leF_take {l : List Ve} (h : Rise l) (u : Int) : leF u l = l.take (upTo l u) := by
  induction l with
  | nil => rfl
  | cons v l ih =>
    unfold leF upTo
    by_cases h1 : v.1 ≤ u
    · rw [List.filter_cons_of_pos (by simpa using h1), if_pos h1, List.take_succ_cons]
      exact congrArg _ (ih h.tail)
    · rw [List.filter_cons_of_neg (by simpa using h1), if_neg h1, List.take_zero]
      rw [List.filter_eq_nil_iff]
      intro a ha
      obtain ⟨j, hj⟩ := List.mem_iff_getElem?.1 ha
      have := h 0 (j + 1) v a (by omega) rfl (by simpa using hj)
      simp
      omega
/-- What counts, of a time that is told of. -/
theorem Rel.counts {d : Ds} {s : Sto} (h : Rel d s) (hf : Fine s) (k u : Int) (h0 : tellsE s u = 0) : lastV (leF u (chainOf d.l k)) = (cnt s k u).getD (0, 0) ∧ decide (0 < (leF u (chainOf d.l k)).length) = (cnt s k u).isSome := by
  obtain ⟨q1, q2, q3⟩ := tells_zero.1 h0
  rw [h.rows]
  unfold verL cnt
  cases hc : s.ch k with
  | none => exact ⟨rfl, rfl⟩
  | some c =>
    simp only [Option.bind_some]
    have hok := hf.ok k c hc
    have hm := hf.marks k c hc
    rw [leF_take hok.rise]
    have hle := upTo_le c.l u
    unfold cntC
    rcases get_cases c u with ⟨e, _⟩ | ⟨_, e, _⟩ | ⟨_, _, e, e2, e3⟩ | ⟨_, _, n, e, e4, e5, e2⟩
    · rw [q1] at e; cases e
    · omega
    · rw [e, if_neg (by omega)]
      exact ⟨rfl, rfl⟩
    · rw [if_pos e2, e]
      have hl : (c.l.take (n + 1)).length = n + 1 := by rw [List.length_take]; omega
      refine ⟨?_, by rw [hl]; simp⟩
      unfold lastV
      rw [hl, Nat.add_sub_cancel, List.getElem?_take_of_lt (by omega), e5]
      first | done | rfl
end Go.So
namespace Go.Proofs.Ytcpcepbjdohdmaa
open Go.ChangeShapes Go.WideShapes Go.ChangeAt Go.RowKit Go.Cn Go.So
set_option linter.unusedVariables false
set_option linter.unusedSimpArgs false
set_option maxRecDepth 100000
def encD (d : Dr) : List Value := [.int .i64 d.1, .int .i64 d.2.1, .int .i64 d.2.2]
theorem encD_len (d : Dr) : (encD d).length = 3 := rfl
theorem encD_one (l : List Dr) : ∀ u ∈ flat encD l, u.oneCell' = true := by
  intro u hu
  unfold flat at hu
  obtain ⟨a, _, hu⟩ := List.mem_flatMap.1 hu
  simp only [encD, List.mem_cons, List.not_mem_nil, or_false] at hu
  rcases hu with rfl | rfl | rfl <;> rfl
theorem info_row : (Try.prog.info? 79).map (fun i => (i.zero, i.size, i.bytes)) = some (some (.agg #[.int .i64 0, .int .i64 0, .int .i64 0]), 3, 24) := by kernel_rfl
/-- A row of the document's rows: what a slice shows. -/
structure Dv (w : World) (A : Option Addr) (cap : Nat) (l : List Dr) : Prop where
  sees : Sees w w.heap.size 3 A l.length (flat encD l)
  room : l.length ≤ cap
  top : cap ≤ 9223372036854775807
  nil : A = none → cap = 0
section
variable {w w' : World} {A : Option Addr} {cap : Nat} {l : List Dr}
theorem Dv.call (h : Dv w A cap l) (hb : Below w.heap.size w w') : Dv w' A cap l := ⟨(h.sees.below hb).more hb.size, h.room, h.top, h.nil⟩
theorem Dv.alloc (h : Dv w A cap l) (o : Obj) : Dv (w.alloc o) A cap l := h.call ((Below.refl _ _).alloc (Nat.le_refl _) o)
theorem Dv.none (w : World) : Dv w none 0 [] := ⟨Sees.nothing _ _ _ _, Nat.le_refl _, by omega, fun _ => rfl⟩
theorem Dv.own {B n : Nat} (h : w.ownsRow B 79 3 (.slice A n cap) n (flat encD l)) (hl : l.length = n) : Dv w A cap l := by
  obtain ⟨a, c', e, h1, h2, h3⟩ := own_slice0 h
  injection e with e1 e2 e3
  subst e1 e3
  subst hl
  exact ⟨Sees.own h, h1, h2, h3⟩
theorem Dv.cell (h : Dv w A cap l) (k : Nat) (d : Dr) (hn : l[k]? = some d) :
    ∃ b off, A = some ⟨b, off, Option.none⟩ ∧ b < w.heap.size ∧ w.cell? ⟨b, off + k * 3, Option.none⟩ = some (.int .i64 d.1) ∧ w.cell? ⟨b, off + k * 3 + 1, Option.none⟩ = some (.int .i64 d.2.1) ∧ w.cell? ⟨b, off + k * 3 + 2, Option.none⟩ = some (.int .i64 d.2.2) := by
  obtain ⟨b, off, h1, h2, h3⟩ := h.sees.item encD_len (by omega) k d hn
  exact ⟨b, off, h1, h2, h3 0 _ rfl, h3 1 _ rfl, h3 2 _ rfl⟩
theorem Dv.cellAt {b off : Nat} (h : Dv w (some ⟨b, off, Option.none⟩) cap l) (k : Nat) (d : Dr) (hn : l[k]? = some d) :
    b < w.heap.size ∧ w.cell? ⟨b, off + k * 3, Option.none⟩ = some (.int .i64 d.1) ∧ w.cell? ⟨b, off + k * 3 + 1, Option.none⟩ = some (.int .i64 d.2.1) ∧ w.cell? ⟨b, off + k * 3 + 2, Option.none⟩ = some (.int .i64 d.2.2) := by
  obtain ⟨b', off', h1, h2, h3, h4, h5⟩ := h.cell k d hn
  injection h1 with h1
  injection h1 with e1 e2
  subst e1 e2
  exact ⟨h2, h3, h4, h5⟩
end
abbrev aggM (A : Option Addr) (n cap : Nat) (c m : Int) : Value := .agg #[.slice A n cap, .int .i64 c, .int .i64 m]
set_option maxHeartbeats 1000000 in
theorem rtime_any (A : Option Addr) (n cap : Nat) (s : Sto) (u : Int) (w : World) :
    Calls Try.prog 35 #[aggM A n cap s.closed s.mark, .int .i64 u] w fun e w' => e = .returned (.int .i64 (tellsE s u)) ∧ Below w.heap.size w w' := by
  have HB := Lib.hid ((Below.refl w.heap.size w).alloc (Nat.le_refl _) (.cells #[.slice A n cap, .int .i64 s.closed, .int .i64 s.mark] 27))
  rcases tells_cases s u with ⟨h1, h2⟩ | ⟨h1, h3, h2⟩ | ⟨h1, h3, h4, h2⟩ | ⟨h1, h3, h4, h2⟩ <;> rw [h2] <;> clear h2
  · have h3 := (isT_no u).1 h1
    clear h1
    by_cases h0 : u < 0
    · clear h3
      go_enter Try.func35, Try.ntmps35
      go_wp2_with fail
      go_ret
      exact ⟨rfl, HB.out⟩
    · have h4 : 1125899906842624 < u := by omega
      go_enter Try.func35, Try.ntmps35
      go_wp2_with fail
      go_ret
      exact ⟨rfl, HB.out⟩
  all_goals
    obtain ⟨k1, k2⟩ := (isT_iff u).1 h1
    have k3 : ¬ u < 0 := by omega
    have k4 : ¬ 1125899906842624 < u := by omega
    clear h1
  · go_enter Try.func35, Try.ntmps35
    go_wp2_with fail
    go_ret
    exact ⟨rfl, HB.out⟩
  · have h5 : ¬ s.closed < u := by omega
    go_enter Try.func35, Try.ntmps35
    go_wp2_with fail
    go_ret
    exact ⟨rfl, HB.out⟩
  · have h5 : ¬ s.closed < u := by omega
    have h6 : ¬ u < s.mark := by omega
    go_enter Try.func35, Try.ntmps35
    go_wp2_with fail
    go_ret
    exact ⟨rfl, HB.out⟩
set_option maxHeartbeats 2000000 in
theorem rversions_any (A : Option Addr) (cap : Nat) (l : List Dr) (c m k : Int) (w : World) (h : Dv w A cap l) (hl : l.length ≤ 1000000000) :
    Calls Try.prog 43 #[aggM A l.length cap c m, .int .i64 k] w fun e w' => e = .returned (.int .i64 ((chainOf l k).length : Nat)) ∧ Below w.heap.size w w' := by
  have H := Lib.hid ((St.start w).alloc w.heap.size rfl 27 #[.slice A l.length cap, .int .i64 c, .int .i64 m])
  have HD := Lib.hid (h.call H.out.below)
  have hk := H.out.knows.at 0 rfl
  have c0 := hk.cell 0
  have cz := hk.lt
  have hroom := h.room
  have htop := h.top
  clear h hk
  go_enter Try.func43, Try.ntmps43
  go_wp2_with fail
  go_loopw [5, 6] (fun n i wr => ∃ j : Nat, j ≤ l.length ∧ i = .int .i64 (j : Int) ∧ n = .int .i64 ((chainOf (l.take j) k).length : Nat) ∧ wr = w.alloc (.cells #[.slice A l.length cap, .int .i64 c, .int .i64 m] 27)) (fun _ i _ => l.length - (intOf i).toNat)
  case atStart => exact ⟨0, by omega, rfl, by simp [chainOf], rfl⟩
  case round =>
    obtain ⟨j, hj, rfl, rfl, e⟩ := hrel
    subst e
    by_cases hlt : j < l.length
    · obtain ⟨d, hd⟩ : ∃ d, l[j]? = some d := ⟨_, List.getElem?_eq_getElem hlt⟩
      have HST := Lib.hid (chainOf_take l j d hd k)
      have hcl := chainOf_len (l.take j) k
      rw [List.length_take] at hcl
      obtain ⟨b0, off, rfl, hb, g0, g1, g2⟩ := HD.out.cell j d hd
      have i1 : (j : Int) < (l.length : Int) := by omega
      clear hd
      generalize chainOf (l.take j) k = v at *
      by_cases hk : d.2.1 = k
      · have j1 : (d.2.1 == k) = true := by simpa using hk
        rw [if_pos hk] at HST
        clear hk
        go_wp2_with fail
        go_roundw
        case rel => exact ⟨j + 1, by omega, by go_num, by rw [HST.out, List.length_append]; go_num, by first | rfl | trivial⟩
        case measure => simp [intOf]; omega
      · have j1 : (d.2.1 == k) = false := by simpa using hk
        rw [if_neg hk, List.append_nil] at HST
        clear hk
        go_wp2_with fail
        go_roundw
        case rel => exact ⟨j + 1, by omega, by go_num, by rw [HST.out], by first | rfl | trivial⟩
        case measure => simp [intOf]; omega
    · obtain rfl : j = l.length := by omega
      rw [List.take_length]
      go_wp2_with fail
      go_ret
      exact ⟨rfl, H.out.below⟩
end Go.Proofs.Ytcpcepbjdohdmaa
