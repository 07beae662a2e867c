/- The document's disk in memory; contracts of its Copy, New, Up, Arm, Bytes. -/
import Derived.Test.YtlfigbgcackimaaDiskN
namespace Go.Proofs.Ytlfigbgcackimaa
open Go.RowKit Go.Dk
set_option linter.unusedVariables false
set_option linter.unusedSimpArgs false
set_option maxRecDepth 100000

def encL (l : Lo) : List Value := [.string (txt l.sure), .string (txt l.loose)]
theorem encL_len (l : Lo) : (encL l).length = 2 := rfl
/-- A row that lies in a block as G says, if it has anything. -/
structure Seen (G : Nat → Prop) (w : World) (size : Nat) (A : Option Addr) (n cap : Nat) (xs : List Value) : Prop where
  sees : Sees w w.heap.size size A n xs
  far : 0 < n → ∀ a, A = some a → G a.block
  room : n ≤ cap
  top : cap ≤ 9223372036854775807
  nil : A = none → cap = 0
theorem Seen.call {G : Nat → Prop} {w w' : World} {size n cap : Nat} {A : Option Addr} {xs : List Value} (h : Seen G w size A n cap xs) (hb : Below w.heap.size w w') : Seen G w' size A n cap xs :=
  ⟨(h.sees.below hb).more hb.size, h.far, h.room, h.top, h.nil⟩
theorem Seen.mono {G H : Nat → Prop} {w : World} {size n cap : Nat} {A : Option Addr} {xs : List Value} (h : Seen G w size A n cap xs) (hG : ∀ b, b < w.heap.size → G b → H b) : Seen H w size A n cap xs :=
  ⟨h.sees, fun h0 a ha => by
    obtain ⟨b, off, e, hlt, -⟩ := h.sees.2 h0
    have := h.far h0 a ha
    rw [e] at ha
    injection ha with ha
    subst ha
    exact hG _ hlt this, h.room, h.top, h.nil⟩
theorem Seen.own {w : World} {B : Nat} {e : TypeId} {size n c : Nat} {A : Option Addr} {xs : List Value} (h : w.ownsRow B e size (.slice A n c) n xs) : Seen (fun b => B ≤ b) w size A n c xs := by
  obtain ⟨a, c', hv, h1, h2, h3⟩ := own_slice0 h
  simp only [Value.slice.injEq, true_and] at hv
  obtain ⟨rfl, rfl⟩ := hv
  exact ⟨Sees.own h, fun _ a ha => (h.lt a.block (by rw [ha]; rfl)).1, h1, h2, h3⟩
/-- v is the document's disk r. -/
structure IsM (G : Nat → Prop) (w : World) (AL : Option Addr) (cL : Nat) (AK : Option Addr) (cK : Nat) (r : Rf) : Prop where
  logs : Seen G w 2 AL r.logs.length cL (flat encL r.logs)
  keep : Seen G w 1 AK r.keep.length cK (ints r.keep)
abbrev vM (AL : Option Addr) (cL : Nat) (AK : Option Addr) (cK : Nat) (r : Rf) : Value := .agg #[.slice AL r.logs.length cL, .int .i64 r.acts, .bool r.off, .int .i64 r.armed, .slice AK r.keep.length cK]
/-- What is asked of r. -/
structure Rok (r : Rf) : Prop where
  few : r.logs.length ≤ 16
  keep : r.keep.length ≤ 1000
  armed : r.armed ≤ 9223372036854775807
  acts : r.acts ≤ 4611686018427387904
  logs : ∀ l ∈ r.logs, l.sure.length + l.loose.length ≤ 4194304
  range : ∀ n ∈ r.keep, W64 n
theorem info_lo : (Try.prog.info? 91).map (fun i => (i.zero, i.size, i.bytes)) = some (some (.agg #[.string ⟨#[]⟩, .string ⟨#[]⟩]), 2, 32) := by kernel_rfl
theorem encL_one (l : List Lo) : ∀ u ∈ flat encL l, u.oneCell' = true := by
  intro u hu
  unfold flat at hu
  obtain ⟨x, _, hx⟩ := List.mem_flatMap.1 hu
  unfold encL at hx
  simp at hx
  rcases hx with rfl | rfl <;> rfl
theorem ints_one (l : List Int) : ∀ u ∈ ints l, u.oneCell' = true := by
  intro u hu
  obtain ⟨x, _, rfl⟩ := List.mem_map.1 hu
  rfl

theorem St.grown {W w w' : World} {L : List Row} (h : St W w L) {row : Option Nat} (hg : w.grownBy w' row) (hr : ∀ g, row = some g → W.heap.size ≤ g ∧ ∀ r ∈ L, r.1 ≠ g) : St W w' L :=
  ⟨h.below.grown hg h.below.size (fun g he => (hr g he).1), fun r hm => (h.knows r hm).grown hg fun e => (hr r.1 e.symm).2 r hm rfl⟩
theorem own_at {w w' : World} {B : Nat} {e : TypeId} {size n : Nat} {v : Value} {xs : List Value} (h : w.ownsRow B e size v n xs) (hk : ∀ b, v.ownBlock = some b → w'.heap[b]? = w.heap[b]?) : w'.ownsRow B e size v n xs := by
  refine ⟨h.1, ?_⟩
  rcases h.2 with hn | ⟨g, cap, cur, rfl, hb, hg, r⟩
  · exact .inl hn
  · exact .inr ⟨g, cap, cur, rfl, hb, (hk g rfl).trans hg, r⟩
theorem own_less {w : World} {B B' : Nat} {e : TypeId} {size n : Nat} {v : Value} {xs : List Value} (h : w.ownsRow B e size v n xs) (hB : B' ≤ B) : w.ownsRow B' e size v n xs := by
  refine ⟨h.1, ?_⟩
  rcases h.2 with hn | ⟨g, cap, cur, rfl, hb, r⟩
  · exact .inl hn
  · exact .inr ⟨g, cap, cur, rfl, by omega, r⟩

/-- A disk of the document's in a box: block b. -/
abbrev rowM (b : Nat) (AL : Option Addr) (cL : Nat) (AK : Option Addr) (cK : Nat) (r : Rf) : Row := (b, 30, #[.slice AL r.logs.length cL, .int .i64 r.acts, .bool r.off, .int .i64 r.armed, .slice AK r.keep.length cK])
abbrev rowZ (b : Nat) : Row := (b, 30, #[.slice none 0 0, .int .i64 0, .bool false, .int .i64 0, .slice none 0 0])
theorem Whole.five {w : World} {g : Nat} {t : TypeId} {a b c d e : Value} (h : Whole w g t #[a, b, c, d, e]) :
    (w.cell? ⟨g, 0, none⟩ = some a ∧ w.cell? ⟨g, 1, none⟩ = some b ∧ w.cell? ⟨g, 2, none⟩ = some c ∧ w.cell? ⟨g, 3, none⟩ = some d ∧ w.cell? ⟨g, 4, none⟩ = some e) ∧
    w.frozen? ⟨g, 0, none⟩ = false ∧ w.frozen? ⟨g, 1, none⟩ = false ∧ w.frozen? ⟨g, 2, none⟩ = false ∧ w.frozen? ⟨g, 3, none⟩ = false ∧ w.frozen? ⟨g, 4, none⟩ = false :=
  ⟨⟨h.cell 0, h.cell 1, h.cell 2, h.cell 3, h.cell 4⟩, h.free 0, h.free 1, h.free 2, h.free 3, h.free 4⟩

set_option maxHeartbeats 2000000 in
theorem rcopy_any (r : Rf) (o : Rok r) (G : Nat → Prop) (AL : Option Addr) (cL : Nat) (AK : Option Addr) (cK : Nat) (w : World) (hm : IsM G w AL cL AK cK r) :
    Calls Try.prog 58 #[vM AL cL AK cK r] w fun e w' => ∃ A1 c1 A2 c2, e = .returned (vM A1 c1 A2 c2 r) ∧ Below w.heap.size w w' ∧
      w'.ownsRow w.heap.size 91 2 (.slice A1 r.logs.length c1) r.logs.length (flat encL r.logs) ∧ w'.ownsRow w.heap.size 3 1 (.slice A2 r.keep.length c2) r.keep.length (ints r.keep) := by
  have HL := Lib.hid hm.logs
  have HK := Lib.hid hm.keep
  have hf := o.few
  have hk := o.keep
  have hn1 := Lib.hid hm.logs.nil
  have hn2 := Lib.hid hm.keep.nil
  clear hm o
  have H0 := Lib.hid (((St.start w).alloc w.heap.size rfl 30 #[.slice AL r.logs.length cL, .int .i64 r.acts, .bool r.off, .int .i64 r.armed, .slice AK r.keep.length cK]).alloc (w.heap.size + 1) (by simp) 30 #[.slice none 0 0, .int .i64 0, .bool false, .int .i64 0, .slice none 0 0])
  generalize hfl : flat encL r.logs = fl at *
  have H1 : Hid (∀ u ∈ fl, u.oneCell' = true) := Lib.hid (by rw [← hfl]; exact encL_one _)
  clear hfl
  have H2 := Lib.hid (ints_one r.keep)
  generalize ints r.keep = kl at *
  unfold vM
  generalize r.logs.length = n at *
  generalize r.keep.length = m at *
  generalize r.acts = ac at *
  generalize r.off = of at *
  generalize r.armed = ar at *
  have hB : Hid (∀ w', Below w.heap.size w w' → Sees w' w.heap.size 2 AL n fl ∧ Sees w' w.heap.size 1 AK m kl) := Lib.hid fun w' hb => ⟨HL.out.sees.below hb, HK.out.sees.below hb⟩
  have hE : Hid ((((w.alloc (.cells #[.slice AL n cL, .int .i64 ac, .bool of, .int .i64 ar, .slice AK m cK] 30)).alloc (.cells #[.slice none 0 0, .int .i64 0, .bool false, .int .i64 0, .slice none 0 0] 30)).alloc (.cells #[] 91)).ownsRow w.heap.size 91 2 (.slice (some ⟨w.heap.size + 1 + 1, 0, none⟩) 0 0) 0 []) := Lib.hid (by
    have h := own_empty ((w.alloc (.cells #[.slice AL n cL, .int .i64 ac, .bool of, .int .i64 ar, .slice AK m cK] 30)).alloc (.cells #[.slice none 0 0, .int .i64 0, .bool false, .int .i64 0, .slice none 0 0] 30)) 91 2
    rw [show ((w.alloc (.cells #[.slice AL n cL, .int .i64 ac, .bool of, .int .i64 ar, .slice AK m cK] 30)).alloc (.cells #[.slice none 0 0, .int .i64 0, .bool false, .int .i64 0, .slice none 0 0] 30)).heap.size = w.heap.size + 1 + 1 by simp] at h
    exact own_less h (by omega))
  have HX := Lib.hid (show St w (((w.alloc (.cells #[.slice AL n cL, .int .i64 ac, .bool of, .int .i64 ar, .slice AK m cK] 30)).alloc (.cells #[.slice none 0 0, .int .i64 0, .bool false, .int .i64 0, .slice none 0 0] 30)).alloc (.cells #[] 91)) _ from H0.out.other (.cells #[] 91))
  have hsee := Lib.hid (hB.out _ HX.out.below).1
  have hsz : Hid (w.heap.size ≤ (((w.alloc (.cells #[.slice AL n cL, .int .i64 ac, .bool of, .int .i64 ar, .slice AK m cK] 30)).alloc (.cells #[.slice none 0 0, .int .i64 0, .bool false, .int .i64 0, .slice none 0 0] 30)).alloc (.cells #[] 91)).heap.size) := Lib.hid HX.out.below.size
  go_enter Try.func58, Try.ntmps58
  go_wp2_with (at_builtin; refine wpList_appG rfl (.tmp 3) (.tmp 5) _ 91 _ 2 32 rfl info_lo Try.underlying27 rfl (by decide) w.heap.size _ 0 [] rfl hE.out w.heap.size AL n cL fl rfl hsee.out hn1.out H1.out (by omega) (by omega) hsz.out ?_)
  intro v1 w1 ho1 hg1
  (try rw [Nat.zero_add] at ho1)
  (try rw [List.nil_append] at ho1)
  have hs1 := (HX.out.grown hg1 (fun g hg => by
    simp only [Value.ownBlock, Option.some.injEq] at hg
    refine ⟨by omega, fun r hr => ?_⟩
    simp only [List.mem_cons, List.not_mem_nil, or_false] at hr
    rcases hr with rfl | rfl <;> (show _ ≠ _; simp only; omega))).few (L' := [(w.heap.size, 30, #[.slice AL n cL, .int .i64 ac, .bool of, .int .i64 ar, .slice AK m cK]), (w.heap.size + 1, 30, #[.slice none 0 0, .int .i64 0, .bool false, .int .i64 0, .slice none 0 0])]) (fun r hr => by simp at hr ⊢; rcases hr with h | h <;> simp [h])
  obtain ⟨A1, c1, rfl, -, -, -⟩ := own_slice0 ho1
  have HO1 := Lib.hid ho1
  have HS1 := Lib.hid hs1
  have hlt1 := (hs1.knows.at 1 rfl).lt
  have hlt0 := (hs1.knows.at 0 rfl).lt
  obtain ⟨⟨b0, b1, b2, b3, b4⟩, f0, f1, f2, f3, f4⟩ := (hs1.knows.at 0 rfl).five
  have hs2 := hs1.set0 (Nat.le_refl _) (fun r hr => by simp only [List.mem_cons, List.not_mem_nil, or_false] at hr; subst hr; show _ ≠ _; simp) 0 (.slice A1 n c1)
  have HS2 := Lib.hid hs2
  have hne : (Value.slice A1 n c1).ownBlock ≠ some w.heap.size := fun e => by
    obtain ⟨cs, hcs⟩ : ∃ cs, Whole w1 w.heap.size 91 cs := by
      rcases ho1.2 with ⟨h, -⟩ | ⟨g, cap, cur, hv, -, hh, -⟩
      · rw [h] at e; simp [Value.ownBlock] at e
      · rw [hv] at e
        simp only [Value.ownBlock, Option.some.injEq] at e
        subst e
        exact ⟨cur, hh⟩
    exact whole_unlike hcs (hs1.knows.at 0 rfl) (by decide) rfl
  have HO2 := Lib.hid (own_at (w' := (w1.setCell ⟨w.heap.size, 0, none⟩ (.slice A1 n c1))) ho1 (fun b hb => Below.heap_setCell w1 ⟨w.heap.size, 0, none⟩ _ b (fun e => hne (by rw [show b = w.heap.size from e] at hb; exact hb))))
  have hE2 : Hid (((w1.setCell ⟨w.heap.size, 0, none⟩ (.slice A1 n c1)).alloc (.cells #[] 3)).ownsRow w.heap.size 3 1 (.slice (some ⟨w1.heap.size, 0, none⟩) 0 0) 0 []) := Lib.hid (by
    have h := own_empty (w1.setCell ⟨w.heap.size, 0, none⟩ (.slice A1 n c1)) 3 1
    rw [show (w1.setCell ⟨w.heap.size, 0, none⟩ (.slice A1 n c1)).heap.size = w1.heap.size by simp] at h
    exact own_less h (by have := hs1.below.size; exact this))
  have HX2 := Lib.hid (hs2.other (.cells #[] 3))
  have hsee2 := Lib.hid (hB.out _ HX2.out.below).2
  have hsz2 := Lib.hid HX2.out.below.size
  clear hs1 hs2 ho1 hg1 hne
  go_wp2_with (at_builtin; refine wpList_appAt rfl (.tmp 8) (.tmp 10) _ 3 _ 1 8 rfl info_int Try.underlying28 rfl (by decide) w.heap.size _ 0 [] rfl hE2.out w.heap.size AK m cK kl rfl hsee2.out hn2.out H2.out (by omega) (by omega) hsz2.out ?_)
  intro v2 w2 ho2 hg2 hat2
  (try rw [Nat.zero_add] at ho2)
  (try rw [List.nil_append] at ho2)
  have hs3 := HX2.out.grown hg2 (fun g hg => by
    simp only [Value.ownBlock, Option.some.injEq] at hg
    have := HS1.out.below.size
    refine ⟨by omega, fun r hr => ?_⟩
    have h0 := (HS1.out.knows.at 0 rfl).lt
    simp only [List.mem_cons, List.not_mem_nil, or_false] at hr
    rcases hr with rfl | rfl <;> (show _ ≠ _; simp only; omega))
  have HO3 : Hid (w2.ownsRow w.heap.size 91 2 (.slice A1 n c1) n fl) := Lib.hid (by
    have hl := HO1.out.lt
    refine own_at HO2.out fun b hb => ?_
    have hlb := (hl b hb).2
    exact (hg2.block b (by simp; omega) (fun e => by
      simp only [Value.ownBlock, Option.some.injEq] at e
      omega)).trans ((Below.heap_alloc _ _ b (by simpa using hlb))))
  obtain ⟨A2, c2, rfl, -, -, -⟩ := own_slice0 ho2
  have HO4 := Lib.hid ho2
  have HS3 := Lib.hid hs3
  have hu0 := (hs3.knows.at 0 rfl).lt
  have hu1 := (hs3.knows.at 1 rfl).lt
  have hbox : Whole w2 w.heap.size 30 #[.slice A1 n c1, .int .i64 ac, .bool of, .int .i64 ar, .slice AK m cK] := hs3.knows.at 0 rfl
  obtain ⟨⟨d0, d1, d2, d3, d4⟩, g0, g1, g2, g3, g4⟩ := hbox.five
  obtain ⟨⟨r0, r1, r2, r3, r4⟩, k0, k1, k2, k3, k4⟩ := (hs3.knows.at 1 rfl).five
  have hty : ∀ b, (Value.slice A1 n c1).ownBlock = some b ∨ (Value.slice A2 m c2).ownBlock = some b → b ≠ w.heap.size ∧ b ≠ w.heap.size + 1 := fun b hb => by
    rcases hb with hb | hb
    · obtain ⟨cs, hcs⟩ : ∃ cs, Whole w2 b 91 cs := by
        rcases HO3.out.2 with ⟨h, -⟩ | ⟨g, cap, cur, hv, -, hh, -⟩
        · rw [h] at hb; simp [Value.ownBlock] at hb
        · rw [hv] at hb
          simp only [Value.ownBlock, Option.some.injEq] at hb
          subst hb
          exact ⟨cur, hh⟩
      exact ⟨whole_unlike hcs hbox (by decide), whole_unlike hcs (hs3.knows.at 1 rfl) (by decide)⟩
    · obtain ⟨cs, hcs⟩ : ∃ cs, Whole w2 b 3 cs := by
        rcases HO4.out.2 with ⟨h, -⟩ | ⟨g, cap, cur, hv, -, hh, -⟩
        · rw [h] at hb; simp [Value.ownBlock] at hb
        · rw [hv] at hb
          simp only [Value.ownBlock, Option.some.injEq] at hb
          subst hb
          exact ⟨cur, hh⟩
      exact ⟨whole_unlike hcs hbox (by decide), whole_unlike hcs (hs3.knows.at 1 rfl) (by decide)⟩
  have HTY := Lib.hid hty
  clear hs3 ho2 hg2 hat2 hty hbox b0 b1 b2 b3 b4 f0 f1 f2 f3 f4
  go_wp2_with fail
  refine bodyPost_ret (by simp [results, Try.results58, go_sem, r0, r1, r2, r3, r4, k0, k1, k2, k3, k4]; try rfl) rfl ?_
  refine ⟨A1, c1, A2, c2, rfl, ?_, own_at HO3.out fun b hb => ?_, own_at HO4.out fun b hb => ?_⟩
  · have hb := HS3.out.below
    go_grown
  · obtain ⟨h1, h2⟩ := HTY.out b (.inl hb)
    iterate 5 rw [Below.heap_setCell _ ⟨w.heap.size + 1, _, none⟩ _ b h2]
    exact Below.heap_setCell _ ⟨w.heap.size, _, none⟩ _ b h1
  · obtain ⟨h1, h2⟩ := HTY.out b (.inr hb)
    iterate 5 rw [Below.heap_setCell _ ⟨w.heap.size + 1, _, none⟩ _ b h2]
    exact Below.heap_setCell _ ⟨w.heap.size, _, none⟩ _ b h1

/-- Two cells of a thing are set. -/
theorem flat_set (l : List Lo) (i : Nat) (x : Lo) (hi : i < l.length) : ((flat encL l).set (i * 2) (.string (txt x.sure))).set (i * 2 + 1) (.string (txt x.loose)) = flat encL (l.set i x) := by
  induction l generalizing i with
  | nil => simp at hi
  | cons a l ih =>
    cases i with
    | zero => rfl
    | succ i =>
      have := ih i (by simpa using hi)
      have e : ∀ (m : List Lo), flat encL (a :: m) = .string (txt a.sure) :: .string (txt a.loose) :: flat encL m := fun m => rfl
      rw [List.set_cons_succ, e, e, ← this, show (i + 1) * 2 = i * 2 + 1 + 1 by omega]
      rfl
/-- A log of the document's that is owned is set. -/
theorem own_setLog {w : World} {B g n cap : Nat} {l : List Lo} (h : w.ownsRow B 91 2 (.slice (some ⟨g, 0, none⟩) n cap) n (flat encL l)) (i : Nat) (x : Lo) (hi : i < l.length) :
    ((w.setCell ⟨g, i * 2, none⟩ (.string (txt x.sure))).setCell ⟨g, i * 2 + 1, none⟩ (.string (txt x.loose))).ownsRow B 91 2 (.slice (some ⟨g, 0, none⟩) n cap) n (flat encL (l.set i x)) := by
  have h1 := (h.stored (i * 2) (.string (txt x.sure))).1
  have h2 := (h1.stored (i * 2 + 1) (.string (txt x.loose))).1
  rw [flat_set l i x hi] at h2
  exact h2
end Go.Proofs.Ytlfigbgcackimaa
