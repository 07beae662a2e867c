/- Layer 12, for StorePlays: where its walk stands. -/
import Derived.Test.YtcpcepbjdohdmaaStoEb
import Derived.Test.YtcpcepbjdohdmaaStoA
import Derived.Test.YtcpcepbjdohdmaaStoL
import Derived.Test.YtcpcepbjdohdmaaInv
namespace Go.Proofs.Ytcpcepbjdohdmaa
open Go.ChangeShapes Go.WideShapes Go.ChangeAt Go.RowKit Go.Cn Go.So
set_option linter.unusedVariables false
set_option linter.unusedSimpArgs false
set_option maxRecDepth 100000
section
variable {W w w' y : World} {L L' : List Row} {g : Nat} {s s2 : Sto} {d d2 : Ds} {A A2 : Option Addr} {cap cap2 : Nat}
theorem Dv.setP {p i : Nat} {t : TypeId} {X : Option Addr} {n c : Nat} {u1 u2 u : Value} {l : List Dr} (h : Dv w A cap l) (hp : Whole w p t #[.slice X n c, u1, u2]) : Dv (w.setCell ⟨p, i, Option.none⟩ u) A cap l := by
  refine ⟨⟨h.sees.1, fun hn => ?_⟩, h.room, h.top, h.nil⟩
  obtain ⟨b, off, hA, hb, hc⟩ := h.sees.2 hn
  refine ⟨b, off, hA, by simpa using hb, fun j z hz => ?_⟩
  have hbp : b ≠ p := by
    intro e
    subst e
    obtain ⟨v, hv⟩ : ∃ v, l[0]? = some v := ⟨_, List.getElem?_eq_getElem hn⟩
    have f0 := flat_at encD_len l 0 v hv 0 (by omega)
    have f2 := flat_at encD_len l 0 v hv 2 (by omega)
    have c0 := hc _ _ f0
    have c2 := hc _ _ f2
    rw [hp.cell] at c0 c2
    have h2 := (Array.getElem?_eq_some_iff.1 c2).1
    simp at h2
    obtain rfl : off = 0 := by omega
    simp at c0
  rw [World.cell?_setCell_other w ⟨p, i, Option.none⟩ ⟨b, off + j, Option.none⟩ u (fun e => by injection e with e; exact hbp e.symm)]
  exact hc j z hz
theorem Go12.call (h : Go12 W w L g s d A cap) (hb : Below w.heap.size w w') : Go12 W w' L g s d A cap := ⟨h.ps.call hb, h.dv.call hb, h.rel, h.late⟩
theorem Go12.drewN (h : Go12 W w L g s d A cap) (n : Nat) : Go12 W (w.drewN n) L g s d A cap := h.call (drew_below w n)
theorem Go12.few (h : Go12 W w L g s d A cap) (hl : ∀ r ∈ L', r ∈ L) : Go12 W w L' g s d A cap := ⟨h.ps.few hl, h.dv, h.rel, h.late⟩
theorem Go12.alloc (h : Go12 W w L g s d A cap) (x : Nat) (hx : x = w.heap.size) (t : TypeId) (cs : Array Value) : Go12 W (w.alloc (.cells cs t)) ((x, t, cs) :: L) g s d A cap := ⟨h.ps.alloc x hx t cs, h.dv.alloc _, h.rel, h.late⟩
theorem Go12.set0 {x : Nat} {t : TypeId} {X : Option Addr} {n c : Nat} {u1 u2 : Value} (h : Go12 W w ((x, t, #[.slice X n c, u1, u2]) :: L) g s d A cap) (hx : W.heap.size ≤ x) (hd : ∀ r ∈ L, r.1 ≠ x) (k : Nat) (u : Value) :
    Go12 W (w.setCell ⟨x, k, none⟩ u) ((x, t, (#[.slice X n c, u1, u2] : Array Value).setIfInBounds k u) :: L) g s d A cap :=
  ⟨h.ps.set0 hx hd k u, h.dv.setP (h.ps.st.knows.at 0 rfl), h.rel, h.late⟩
theorem Go12.set3 {x : Nat} {t : TypeId} {X : Option Addr} {n c : Nat} {u1 u2 : Value} (h : Go12 W w ((x, t, #[.slice X n c, u1, u2]) :: L) g s d A cap) (hx : W.heap.size ≤ x) (hd : ∀ r ∈ L, r.1 ≠ x) (X' : Option Addr) (n' c' : Nat) (v1 v2 : Value) :
    Go12 W (((w.setCell ⟨x, 0, none⟩ (.slice X' n' c')).setCell ⟨x, 1, none⟩ v1).setCell ⟨x, 2, none⟩ v2) ((x, t, #[.slice X' n' c', v1, v2]) :: L) g s d A cap :=
  ((h.set0 hx hd 0 (.slice X' n' c')).set0 hx hd 1 v1).set0 hx hd 2 v2
theorem Go12.class (h : Go12 W w L g s d A cap) : ∃ C : World → Prop, C w.drew ∧ Hid (∀ a b, C a → Below a.heap.size a b → C b) ∧ Hid (∀ a, C a → Go12 W a L g s d A cap ∧ Below w.heap.size w a) :=
  ⟨fun a => Go12 W a L g s d A cap ∧ Below w.heap.size w a, ⟨h.drewN 1, drew_below w 1⟩, Lib.hid fun a b ha hb => ⟨ha.1.call hb, ha.2.trans (hb.mono ha.2.size)⟩, Lib.hid fun a ha => ha⟩
/-- Where the round's call stands: a: it came, b: its answer's block p was made, e: it was told. -/
structure Dn12 (W y : World) (L : List Row) (g : Nat) (s s2 : Sto) (d d2 : Ds) (A A2 : Option Addr) (cap cap2 p : Nat) (a b e : Bool) : Prop where
  p00 : a = false → b = false → Go12 W y L g s d A cap
  p01 : a = false → b = true → Go12 W y ((p, 27, #[.slice none 0 0, .int .i64 0, .int .i64 0]) :: L) g s d A cap
  p10 : a = true → b = false → Go12 W y L g s2 d2 A2 cap2
  p11 : a = true → b = true → e = false → Go12 W y ((p, 27, #[.slice none 0 0, .int .i64 0, .int .i64 0]) :: L) g s2 d2 A2 cap2
  new : b = true → W.heap.size ≤ p ∧ ∀ r ∈ L, r.1 ≠ p
  fin : e = true → Go12 W y ((p, 27, #[.slice A2 d2.l.length cap2, .int .i64 d2.closed, .int .i64 d2.mark]) :: L) g s2 d2 A2 cap2
  ord : e = true → a = true ∧ b = true
  len : a = true → d2.l.length ≤ d.l.length + 120
variable {A3 : Option Addr} {s3 : Sto} {d3 : Ds} {cap3 p : Nat} {a b e : Bool} {y2 : World}
theorem Dn12.start (h : Go12 W y L g s d A cap) (s2 : Sto) (d2 : Ds) (A2 : Option Addr) (cap2 p : Nat) : Dn12 W y L g s s2 d d2 A A2 cap cap2 p false false false :=
  ⟨fun _ _ => h, (fun _ h => by cases h), (fun h => by cases h), (fun h => by cases h), (fun h => by cases h), (fun h => by cases h), (fun h => by cases h), (fun h => by cases h)⟩
theorem Dn12.noE (k : Dn12 W y L g s s2 d d2 A A2 cap cap2 p a b e) (h : a = false ∨ b = false) : e = false := by
  cases e with
  | false => rfl
  | true =>
    have := k.ord rfl
    rcases h with h | h
    · rw [this.1] at h; cases h
    · rw [this.2] at h; cases h
theorem Go12.newOf (h : Go12 W y L g s d A cap) : W.heap.size ≤ y.heap.size ∧ ∀ r ∈ L, r.1 ≠ y.heap.size := ⟨h.ps.st.below.size, fun r hr => by have := (h.ps.st.knows r hr).lt; omega⟩
theorem Dn12.made (k : Dn12 W y L g s s2 d d2 A A2 cap cap2 p a false e) : Dn12 W (y.alloc (.cells #[.slice none 0 0, .int .i64 0, .int .i64 0] 27)) L g s s2 d d2 A A2 cap cap2 y.heap.size a true e := by
  have he := k.noE (.inr rfl)
  subst he
  refine ⟨(fun _ h => by cases h), fun ha _ => (k.p00 ha rfl).alloc _ rfl _ _, (fun _ h => by cases h), fun ha _ _ => (k.p10 ha rfl).alloc _ rfl _ _, fun _ => ?_, (fun h => by cases h), (fun h => by cases h), k.len⟩
  cases a with
  | false => exact (k.p00 rfl rfl).newOf
  | true => exact (k.p10 rfl rfl).newOf
theorem Dn12.called0 (k : Dn12 W y L g s s2 d d2 A A2 cap cap2 p false false e) (j : Go12 W y2 L g s3 d3 A3 cap3) (hl : d3.l.length ≤ d.l.length + 120) : Dn12 W y2 L g s s3 d d3 A A3 cap cap3 p true false e := by
  have he := k.noE (.inl rfl)
  subst he
  exact ⟨(fun h => by cases h), (fun h => by cases h), fun _ _ => j, (fun _ h => by cases h), (fun h => by cases h), (fun h => by cases h), (fun h => by cases h), fun _ => hl⟩
theorem Dn12.called1 (k : Dn12 W y L g s s2 d d2 A A2 cap cap2 p false true e) (j : Go12 W y2 ((p, 27, #[.slice none 0 0, .int .i64 0, .int .i64 0]) :: L) g s3 d3 A3 cap3) (hl : d3.l.length ≤ d.l.length + 120) : Dn12 W y2 L g s s3 d d3 A A3 cap cap3 p true true e := by
  have he := k.noE (.inl rfl)
  subst he
  exact ⟨(fun h => by cases h), (fun h => by cases h), (fun _ h => by cases h), fun _ _ _ => j, k.new, (fun h => by cases h), (fun h => by cases h), fun _ => hl⟩
theorem Dn12.told (k : Dn12 W y L g s s2 d d2 A A2 cap cap2 p true true false) :
    Dn12 W (((y.setCell ⟨p, 0, none⟩ (.slice A2 d2.l.length cap2)).setCell ⟨p, 1, none⟩ (.int .i64 d2.closed)).setCell ⟨p, 2, none⟩ (.int .i64 d2.mark)) L g s s2 d d2 A A2 cap cap2 p true true true := by
  obtain ⟨hn, hd⟩ := k.new rfl
  exact ⟨(fun h => by cases h), (fun h => by cases h), (fun _ h => by cases h), (fun _ _ h => by cases h), k.new, fun _ => (k.p11 rfl rfl rfl).set3 hn hd _ _ _ _ _, fun _ => ⟨rfl, rfl⟩, k.len⟩
/-- What a block of three cells shows, and that they may be set. -/
theorem Knows.three3 (h : Knows w L) (i : Nat) (g : Nat) {t : TypeId} {x z u : Value} (hr : L[i]? = some (g, t, #[x, z, u])) :
    w.cell? ⟨g, 0, none⟩ = some x ∧ w.cell? ⟨g, 1, none⟩ = some z ∧ w.cell? ⟨g, 2, none⟩ = some u ∧ w.frozen? ⟨g, 0, none⟩ = false ∧ w.frozen? ⟨g, 1, none⟩ = false ∧ w.frozen? ⟨g, 2, none⟩ = false ∧ g < w.heap.size :=
  ⟨(h.at i hr).cell 0, (h.at i hr).cell 1, (h.at i hr).cell 2, (h.at i hr).free 0, (h.at i hr).free 1, (h.at i hr).free 2, (h.at i hr).lt⟩
theorem Dn12.cells (k : Dn12 W y L g s s2 d d2 A A2 cap cap2 p true true false) : y.cell? ⟨p, 0, none⟩ = some (.slice none 0 0) ∧ y.cell? ⟨p, 1, none⟩ = some (.int .i64 0) ∧ y.cell? ⟨p, 2, none⟩ = some (.int .i64 0) ∧ y.frozen? ⟨p, 0, none⟩ = false ∧ y.frozen? ⟨p, 1, none⟩ = false ∧ y.frozen? ⟨p, 2, none⟩ = false ∧ p < y.heap.size :=
  (k.p11 rfl rfl rfl).ps.st.knows.three3 0 p rfl
theorem Dn12.reads (k : Dn12 W y L g s s2 d d2 A A2 cap cap2 p a b e) (he : e = true → a = true) : Below W.heap.size W y ∧ Knows y L := by
  have key : ∃ L' s' d' A' cap', Go12 W y L' g s' d' A' cap' ∧ ∀ r ∈ L, r ∈ L' := by
    cases a with
    | false =>
      cases b with
      | false => exact ⟨_, _, _, _, _, k.p00 rfl rfl, fun r hr => hr⟩
      | true => exact ⟨_, _, _, _, _, k.p01 rfl rfl, fun r hr => List.mem_cons_of_mem _ hr⟩
    | true =>
      cases e with
      | true => exact ⟨_, _, _, _, _, k.fin rfl, fun r hr => List.mem_cons_of_mem _ hr⟩
      | false =>
        cases b with
        | false => exact ⟨_, _, _, _, _, k.p10 rfl rfl, fun r hr => hr⟩
        | true => exact ⟨_, _, _, _, _, k.p11 rfl rfl rfl, fun r hr => List.mem_cons_of_mem _ hr⟩
  obtain ⟨L', s', d', A', cap', h, hl⟩ := key
  exact ⟨h.ps.st.below, fun r hr => h.ps.st.knows r (hl r hr)⟩
theorem Dn12.call (k : Dn12 W y L g s s2 d d2 A A2 cap cap2 p a b e) (hb : Below y.heap.size y y2) : Dn12 W y2 L g s s2 d d2 A A2 cap cap2 p a b e :=
  ⟨fun h1 h2 => (k.p00 h1 h2).call hb, fun h1 h2 => (k.p01 h1 h2).call hb, fun h1 h2 => (k.p10 h1 h2).call hb, fun h1 h2 h3 => (k.p11 h1 h2 h3).call hb, k.new, fun h => (k.fin h).call hb, k.ord, k.len⟩
/-- Where the round's ask of the document stands: its answer's block p is made, and told. -/
structure Vn12 (W y : World) (L : List Row) (g : Nat) (s : Sto) (d : Ds) (A : Option Addr) (cap p : Nat) (v : Ve) (b e : Bool) : Prop where
  a : b = false → Go12 W y L g s d A cap ∧ e = false
  m : b = true → e = false → Go12 W y ((p, 36, #[.int .i64 0, .int .i64 0]) :: L) g s d A cap
  fin : e = true → Go12 W y ((p, 36, #[.int .i64 v.1, .int .i64 v.2]) :: L) g s d A cap
  new : b = true → W.heap.size ≤ p ∧ ∀ r ∈ L, r.1 ≠ p
variable {v : Ve}
theorem Vn12.start (h : Go12 W y L g s d A cap) (p : Nat) (v : Ve) : Vn12 W y L g s d A cap p v false false := ⟨fun _ => ⟨h, rfl⟩, (fun h => by cases h), (fun h => by cases h), fun h => by cases h⟩
theorem Vn12.made (k : Vn12 W y L g s d A cap p v false e) : Vn12 W (y.alloc (.cells #[.int .i64 0, .int .i64 0] 36)) L g s d A cap y.heap.size v true e := by
  obtain ⟨h, he⟩ := k.a rfl
  subst he
  exact ⟨(fun h => by cases h), fun _ _ => h.alloc _ rfl _ _, (fun h => by cases h), fun _ => h.newOf⟩
theorem Vn12.told (k : Vn12 W y L g s d A cap p v true false) : Vn12 W ((y.setCell ⟨p, 0, none⟩ (.int .i64 v.1)).setCell ⟨p, 1, none⟩ (.int .i64 v.2)) L g s d A cap p v true true := by
  obtain ⟨hn, hd⟩ := k.new rfl
  have h := k.m rfl rfl
  have h1 := h.ps.set0 hn hd 0 (.int .i64 v.1)
  have h2 := h1.set0 hn hd 1 (.int .i64 v.2)
  have hp : Whole y p 36 #[.int .i64 0, .int .i64 0] := h.ps.st.knows.at 0 rfl
  refine ⟨(fun h => by cases h), (fun _ h => by cases h), fun _ => ⟨h2, ?_, h.rel, h.late⟩, k.new⟩
  have two : ∀ {y : World} {i : Nat} {u x z : Value}, Dv y A cap d.l → Whole y p 36 #[x, z] → Dv (y.setCell ⟨p, i, none⟩ u) A cap d.l := fun {y i u x z} h hp => by
    refine ⟨⟨h.sees.1, fun h0 => ?_⟩, h.room, h.top, h.nil⟩
    obtain ⟨b, off, hA, hb, hc⟩ := h.sees.2 h0
    refine ⟨b, off, hA, by simpa using hb, fun j z hz => ?_⟩
    have hbp : b ≠ p := by
      intro e
      subst e
      obtain ⟨v, hv⟩ : ∃ v, d.l[0]? = some v := ⟨_, List.getElem?_eq_getElem h0⟩
      have c2 := hc _ _ (flat_at encD_len d.l 0 v hv 2 (by omega))
      rw [hp.cell] at c2
      have h2 := (Array.getElem?_eq_some_iff.1 c2).1
      simp at h2
      omega
    rw [World.cell?_setCell_other y ⟨p, i, none⟩ ⟨b, off + j, none⟩ u (fun e => by injection e with e; exact hbp e.symm)]
    exact hc j z hz
  exact two (two h.dv hp) (hp.set 0 (.int .i64 v.1))
theorem Vn12.call (k : Vn12 W y L g s d A cap p v b e) (hb : Below y.heap.size y y2) : Vn12 W y2 L g s d A cap p v b e := ⟨fun h => ⟨(k.a h).1.call hb, (k.a h).2⟩, fun h1 h2 => (k.m h1 h2).call hb, fun h => (k.fin h).call hb, k.new⟩
theorem Vn12.cells (k : Vn12 W y L g s d A cap p v true false) : y.cell? ⟨p, 0, none⟩ = some (.int .i64 0) ∧ y.cell? ⟨p, 1, none⟩ = some (.int .i64 0) ∧ y.frozen? ⟨p, 0, none⟩ = false ∧ y.frozen? ⟨p, 1, none⟩ = false ∧ p < y.heap.size :=
  (k.m rfl rfl).ps.st.knows.two 0 p rfl
theorem Vn12.any (k : Vn12 W y L g s d A cap p v b e) : Knows y L ∧ Dv y A cap d.l ∧ Below W.heap.size W y ∧ (∃ L', Ps W y L' g s (ym A)) := by
  cases e with
  | true =>
    have h := k.fin rfl
    exact ⟨fun r hr => h.ps.st.knows r (List.mem_cons_of_mem _ hr), h.dv, h.ps.st.below, _, h.ps⟩
  | false =>
    cases b with
    | false => have h := (k.a rfl).1; exact ⟨h.ps.st.knows, h.dv, h.ps.st.below, _, h.ps⟩
    | true =>
      have h := k.m rfl rfl
      exact ⟨fun r hr => h.ps.st.knows r (List.mem_cons_of_mem _ hr), h.dv, h.ps.st.below, _, h.ps⟩
end
end Go.Proofs.Ytcpcepbjdohdmaa
