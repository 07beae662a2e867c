/- The document's disk: boxes beside what is owned (Sm); its Arm. -/
import Derived.Test.YtlfigbgcackimaaDiskH
import Derived.Deep.CutRange
namespace Go.Proofs.Ytlfigbgcackimaa
open Go.RowKit Go.Dk
set_option linter.unusedVariables false
set_option linter.unusedSimpArgs false
set_option maxRecDepth 100000

theorem own_block {w : World} {B : Nat} {e : TypeId} {size n b : Nat} {v : Value} {xs : List Value} (h : w.ownsRow B e size v n xs) (hb : v.ownBlock = some b) : ∃ cs, Whole w b e cs := by
  rcases h.2 with ⟨h, -⟩ | ⟨g, cap, cur, hv, -, hh, -⟩
  · rw [h] at hb; simp [Value.ownBlock] at hb
  · rw [hv] at hb
    simp only [Value.ownBlock, Option.some.injEq] at hb
    subst hb
    exact ⟨cur, hh⟩
theorem own_unlike {w : World} {B : Nat} {e t : TypeId} {size n x : Nat} {v : Value} {xs : List Value} {cs : Array Value} (h : w.ownsRow B e size v n xs) (k : Whole w x t cs) (ht : e ≠ t) (i : Nat) (u : Value) : (w.setCell ⟨x, i, none⟩ u).ownsRow B e size v n xs :=
  own_at h fun b hb => Below.heap_setCell w ⟨x, i, none⟩ u b (by
    obtain ⟨ds, hd⟩ := own_block h hb
    exact whole_unlike hd k ht)
/-- Where a call of the document's stands: two boxes of disks, and logs and numbers that are owned. -/
structure Sm (W w : World) (x z : Nat) (cx cz : Array Value) (n : Nat) (A1 : Option Addr) (c1 : Nat) (fl : List Value) (m : Nat) (A2 : Option Addr) (c2 : Nat) (kl : List Value) : Prop where
  st : St W w [(x, 30, cx), (z, 30, cz)]
  hx : W.heap.size ≤ x
  hz : W.heap.size ≤ z
  ne : x ≠ z
  logs : w.ownsRow W.heap.size 91 2 (.slice A1 n c1) n fl
  keep : w.ownsRow W.heap.size 3 1 (.slice A2 m c2) m kl
section
variable {W w w' : World} {x z n m c1 c2 : Nat} {cx cz : Array Value} {A1 A2 : Option Addr} {fl kl : List Value}
theorem Sm.setX (h : Sm W w x z cx cz n A1 c1 fl m A2 c2 kl) (k : Nat) (u : Value) : Sm W (w.setCell ⟨x, k, none⟩ u) x z (cx.setIfInBounds k u) cz n A1 c1 fl m A2 c2 kl :=
  ⟨h.st.set0 h.hx (fun r hr => by rw [List.mem_singleton.1 hr]; exact Ne.symm h.ne) k u, h.hx, h.hz, h.ne, own_unlike h.logs (h.st.knows.at 0 rfl) (by decide) k u, own_unlike h.keep (h.st.knows.at 0 rfl) (by decide) k u⟩
theorem Sm.swap (h : Sm W w x z cx cz n A1 c1 fl m A2 c2 kl) : Sm W w z x cz cx n A1 c1 fl m A2 c2 kl :=
  ⟨h.st.few fun r hr => by simp only [List.mem_cons, List.not_mem_nil, or_false] at hr ⊢; exact hr.symm, h.hz, h.hx, Ne.symm h.ne, h.logs, h.keep⟩
theorem Sm.setZ (h : Sm W w x z cx cz n A1 c1 fl m A2 c2 kl) (k : Nat) (u : Value) : Sm W (w.setCell ⟨z, k, none⟩ u) x z cx (cz.setIfInBounds k u) n A1 c1 fl m A2 c2 kl := (h.swap.setX k u).swap
theorem Sm.setX5 {a0 a1 a2 a3 a4 : Value} (h : Sm W w x z #[a0, a1, a2, a3, a4] cz n A1 c1 fl m A2 c2 kl) (b0 b1 b2 b3 b4 : Value) :
    Sm W (((((w.setCell ⟨x, 0, none⟩ b0).setCell ⟨x, 1, none⟩ b1).setCell ⟨x, 2, none⟩ b2).setCell ⟨x, 3, none⟩ b3).setCell ⟨x, 4, none⟩ b4) x z #[b0, b1, b2, b3, b4] cz n A1 c1 fl m A2 c2 kl :=
  ((((h.setX 0 b0).setX 1 b1).setX 2 b2).setX 3 b3).setX 4 b4
theorem Sm.setZ5 {a0 a1 a2 a3 a4 : Value} (h : Sm W w x z cx #[a0, a1, a2, a3, a4] n A1 c1 fl m A2 c2 kl) (b0 b1 b2 b3 b4 : Value) :
    Sm W (((((w.setCell ⟨z, 0, none⟩ b0).setCell ⟨z, 1, none⟩ b1).setCell ⟨z, 2, none⟩ b2).setCell ⟨z, 3, none⟩ b3).setCell ⟨z, 4, none⟩ b4) x z cx #[b0, b1, b2, b3, b4] n A1 c1 fl m A2 c2 kl :=
  ((((h.setZ 0 b0).setZ 1 b1).setZ 2 b2).setZ 3 b3).setZ 4 b4
theorem Sm.x5 {a0 a1 a2 a3 a4 : Value} (h : Sm W w x z #[a0, a1, a2, a3, a4] cz n A1 c1 fl m A2 c2 kl) :
    (w.cell? ⟨x, 0, none⟩ = some a0 ∧ w.cell? ⟨x, 1, none⟩ = some a1 ∧ w.cell? ⟨x, 2, none⟩ = some a2 ∧ w.cell? ⟨x, 3, none⟩ = some a3 ∧ w.cell? ⟨x, 4, none⟩ = some a4) ∧
    (w.frozen? ⟨x, 0, none⟩ = false ∧ w.frozen? ⟨x, 1, none⟩ = false ∧ w.frozen? ⟨x, 2, none⟩ = false ∧ w.frozen? ⟨x, 3, none⟩ = false ∧ w.frozen? ⟨x, 4, none⟩ = false) ∧ x < w.heap.size := by
  have k := h.st.knows.at 0 rfl
  exact ⟨⟨k.cell 0, k.cell 1, k.cell 2, k.cell 3, k.cell 4⟩, ⟨k.free 0, k.free 1, k.free 2, k.free 3, k.free 4⟩, k.lt⟩
theorem Sm.z5 {a0 a1 a2 a3 a4 : Value} (h : Sm W w x z cx #[a0, a1, a2, a3, a4] n A1 c1 fl m A2 c2 kl) :
    (w.cell? ⟨z, 0, none⟩ = some a0 ∧ w.cell? ⟨z, 1, none⟩ = some a1 ∧ w.cell? ⟨z, 2, none⟩ = some a2 ∧ w.cell? ⟨z, 3, none⟩ = some a3 ∧ w.cell? ⟨z, 4, none⟩ = some a4) ∧
    (w.frozen? ⟨z, 0, none⟩ = false ∧ w.frozen? ⟨z, 1, none⟩ = false ∧ w.frozen? ⟨z, 2, none⟩ = false ∧ w.frozen? ⟨z, 3, none⟩ = false ∧ w.frozen? ⟨z, 4, none⟩ = false) ∧ z < w.heap.size := h.swap.x5
/-- Numbers that have come by an append to an empty slice just built. -/
theorem Sm.newKeep (h : Sm W w x z cx cz n A1 c1 fl m A2 c2 kl) {m' c3 : Nat} {A3 : Option Addr} {kl' : List Value} (hg : (w.alloc (.cells #[] 3)).grownBy w' (some w.heap.size)) (ho : w'.ownsRow W.heap.size 3 1 (.slice A3 m' c3) m' kl') :
    Sm W w' x z cx cz n A1 c1 fl m' A3 c3 kl' := by
  have hx := (h.st.knows.at 0 rfl).lt
  have hz := (h.st.knows.at 1 rfl).lt
  refine ⟨(h.st.other (.cells #[] 3)).grown hg (fun g he => ?_), h.hx, h.hz, h.ne, own_at h.logs fun b hb => ?_, ho⟩
  · simp only [Option.some.injEq] at he
    subst he
    refine ⟨h.st.below.size, fun r hr => ?_⟩
    simp only [List.mem_cons, List.not_mem_nil, or_false] at hr
    rcases hr with rfl | rfl <;> (show _ ≠ _; simp only; omega)
  · obtain ⟨cs, hcs⟩ := own_block h.logs hb
    have := hcs.lt
    rw [hg.block b (by simp; omega) (fun e => by
      simp only [Option.some.injEq] at e
      omega)]
    exact Below.heap_alloc _ _ b this
theorem Sm.empty (h : Sm W w x z cx cz n A1 c1 fl m A2 c2 kl) : (w.alloc (.cells #[] 3)).ownsRow W.heap.size 3 1 (.slice (some ⟨w.heap.size, 0, none⟩) 0 0) 0 [] := own_less (own_empty w 3 1) h.st.below.size
end
/-- Copy, where two boxes stand. -/
theorem Sm.copy (r : Rf) (o : Rok r) (G : Nat → Prop) {AL : Option Addr} {cL : Nat} {AK : Option Addr} {cK : Nat} {W w : World} (hm : IsM G W AL cL AK cK r) {x z : Nat} {cx cz : Array Value}
    (h : St W w [(x, 30, cx), (z, 30, cz)]) (hx : W.heap.size ≤ x) (hz : W.heap.size ≤ z) (ne : x ≠ z) :
    Calls Try.prog 58 #[vM AL cL AK cK r] w fun e w' => ∃ A1 c1 A2 c2, e = .returned (vM A1 c1 A2 c2 r) ∧ Sm W w' x z cx cz r.logs.length A1 c1 (flat encL r.logs) r.keep.length A2 c2 (ints r.keep) :=
  (rcopy_any r o G AL cL AK cK w ⟨hm.logs.call h.below, hm.keep.call h.below⟩).mono fun e w' ⟨A1, c1, A2, c2, he, hb, h1, h2⟩ => ⟨A1, c1, A2, c2, he, h.call hb, hx, hz, ne, own_less h1 h.below.size, own_less h2 h.below.size⟩

set_option maxHeartbeats 2000000 in
theorem rarm_any (r : Rf) (o : Rok r) (G : Nat → Prop) (AL : Option Addr) (cL : Nat) (AK : Option Addr) (cK : Nat) (n : Int) (hn : W64 n) (keep : List Int) (hkl : keep.length ≤ 1000) (A : Option Addr) (cap : Nat) (hnil : A = none → cap = 0) (w : World) (hm : IsM G w AL cL AK cK r) (B : Nat) (hB : B ≤ w.heap.size) (hs : Sees w B 1 A keep.length (ints keep)) :
    Calls Try.prog 38 #[vM AL cL AK cK r, .int .i64 n, .slice A keep.length cap] w fun e w' => ∃ A1 c1 A2 c2, e = .returned (vM A1 c1 A2 c2 (r.arm n keep)) ∧ Below w.heap.size w w' ∧ IsM (fun b => w.heap.size ≤ b) w' A1 c1 A2 c2 (r.arm n keep) := by
  have HCC := Lib.hid (Sm.copy r o G hm (((St.start w).alloc w.heap.size rfl 30 #[.slice AL r.logs.length cL, .int .i64 r.acts, .bool r.off, .int .i64 r.armed, .slice AK r.keep.length cK]).alloc (w.heap.size + 1) (by simp) 30 #[.slice none 0 0, .int .i64 0, .bool false, .int .i64 0, .slice none 0 0] |>.few fun r hr => by simp only [List.mem_cons, List.not_mem_nil, or_false] at hr ⊢; exact hr.symm) (Nat.le_refl _) (by omega) (by omega))
  have HB := Lib.hid (fun w' (hb : Below w.heap.size w w') => (hs.below (hb.mono hB)))
  have HN := Lib.hid hn
  have HV : Hid (∀ A1 c1 A2 c2, vM A1 c1 A2 c2 (r.arm n keep) = .agg #[.slice A1 r.logs.length c1, .int .i64 r.acts, .bool r.off, .int .i64 (n.toNat : Int), .slice A2 keep.length c2]) := Lib.hid fun _ _ _ _ => rfl
  have HA : Hid (∀ w' A1 c1 A2 c2, Seen (fun b => w.heap.size ≤ b) w' 2 A1 r.logs.length c1 (flat encL r.logs) → Seen (fun b => w.heap.size ≤ b) w' 1 A2 keep.length c2 (ints keep) → IsM (fun b => w.heap.size ≤ b) w' A1 c1 A2 c2 (r.arm n keep)) := Lib.hid fun _ _ _ _ _ h1 h2 => ⟨h1, h2⟩
  have H2 := Lib.hid (ints_one keep)
  clear hm o hs hn
  generalize hq : r.arm n keep = q at *
  clear hq
  unfold vM at HCC ⊢
  generalize flat encL r.logs = fl at *
  generalize ints r.keep = kl0 at *
  generalize ints keep = kl at *
  generalize r.logs.length = ln at *
  generalize r.keep.length = kn at *
  generalize keep.length = m at *
  generalize r.acts = ac at *
  generalize r.off = of at *
  generalize r.armed = ar at *
  have hsgn : ¬ (0 < n) ∨ 0 < n := by omega
  have H0z : W64 n := HN.out
  unfold W64 at H0z
  rcases hsgn with hsg | hsg
  · go_enter Try.func38, Try.ntmps38
    go_wp2_with fail
    refine HCC.out.mono ?_
    rintro e w1 ⟨A1, c1, A2, c2, rfl, h1⟩
    obtain ⟨⟨b0, b1, b2, b3, b4⟩, ⟨f0, f1, f2, f3, f4⟩, lx⟩ := h1.x5
    have H1 := Lib.hid (h1.setX5 (.slice A1 ln c1) (.int .i64 ac) (.bool of) (.int .i64 ar) (.slice A2 kn c2))
    clear h1
    go_upto_region 2 with fail
    generalize (((((w1.setCell ⟨w.heap.size, 0, none⟩ (.slice A1 ln c1)).setCell ⟨w.heap.size, 1, none⟩ (.int .i64 ac)).setCell ⟨w.heap.size, 2, none⟩ (.bool of)).setCell ⟨w.heap.size, 3, none⟩ (.int .i64 ar)).setCell ⟨w.heap.size, 4, none⟩ (.slice A2 kn c2)) = w2 at *
    clear b0 b1 b2 b3 b4 f0 f1 f2 f3 f4 lx w1
    obtain ⟨⟨b0, b1, b2, b3, b4⟩, ⟨f0, f1, f2, f3, f4⟩, lx⟩ := H1.out.x5
    have H3 := Lib.hid (H1.out.setX 3 (.int .i64 0))
    go_upto_region 5 with fail
    generalize w2.setCell ⟨w.heap.size, 3, none⟩ (.int .i64 0) = w3 at *
    clear b0 b1 b2 b3 b4 f0 f1 f2 f3 f4 lx H1 w2
    obtain ⟨⟨b0, b1, b2, b3, b4⟩, ⟨f0, f1, f2, f3, f4⟩, lx⟩ := H3.out.x5
    have HE := Lib.hid H3.out.empty
    have HX := Lib.hid (H3.out.st.other (.cells #[] 3))
    have hsee := Lib.hid ((HB.out _ HX.out.below).more hB)
    have hsz := Lib.hid HX.out.below.size
    go_wp2_with (at_builtin; refine wpList_appAt rfl (.tmp 14) (.tmp 15) _ 3 _ 1 8 rfl info_int Try.underlying28 rfl (by decide) w.heap.size _ 0 [] rfl HE.out w.heap.size A m cap kl rfl hsee.out hnil H2.out (by omega) (by omega) hsz.out ?_)
    intro v2 w4 ho2 hg2 hat2
    (try rw [Nat.zero_add] at ho2)
    (try rw [List.nil_append] at ho2)
    obtain ⟨A3, c3, rfl, -, -, -⟩ := own_slice0 ho2
    have h4 := H3.out.newKeep hg2 ho2
    clear b0 b1 b2 b3 b4 f0 f1 f2 f3 f4 lx ho2 hg2 hat2 HE HX hsee hsz H3
    obtain ⟨⟨b0, b1, b2, b3, b4⟩, ⟨f0, f1, f2, f3, f4⟩, lx⟩ := h4.x5
    have H5 := Lib.hid (h4.setX 4 (.slice A3 m c3))
    clear h4
    go_upto_region 6 with fail
    generalize w4.setCell ⟨w.heap.size, 4, none⟩ (.slice A3 m c3) = w5 at *
    clear b0 b1 b2 b3 b4 f0 f1 f2 f3 f4 lx w4
    obtain ⟨⟨b0, b1, b2, b3, b4⟩, ⟨f0, f1, f2, f3, f4⟩, lx⟩ := H5.out.x5
    obtain ⟨⟨r0, r1, r2, r3, r4⟩, ⟨k0, k1, k2, k3, k4⟩, lz⟩ := H5.out.z5
    go_wp2_with fail
    refine bodyPost_ret (by simp [results, Try.results38, go_sem, r0, r1, r2, r3, r4, k0, k1, k2, k3, k4]; try rfl) rfl ?_
    have H6 := H5.out.setZ5 (.slice A1 ln c1) (.int .i64 ac) (.bool of) (.int .i64 0) (.slice A3 m c3)
    refine ⟨A1, c1, A3, c3, ?_, H6.st.below, HA.out _ _ _ _ _ (Seen.own H6.logs) (Seen.own H6.keep)⟩
    have hv := HV.out A1 c1 A3 c3
    rw [show (n.toNat : Int) = 0 by omega] at hv
    exact congrArg Ending.returned hv.symm
  · go_enter Try.func38, Try.ntmps38
    go_wp2_with fail
    refine HCC.out.mono ?_
    rintro e w1 ⟨A1, c1, A2, c2, rfl, h1⟩
    obtain ⟨⟨b0, b1, b2, b3, b4⟩, ⟨f0, f1, f2, f3, f4⟩, lx⟩ := h1.x5
    have H1 := Lib.hid (h1.setX5 (.slice A1 ln c1) (.int .i64 ac) (.bool of) (.int .i64 ar) (.slice A2 kn c2))
    clear h1
    go_upto_region 2 with fail
    generalize (((((w1.setCell ⟨w.heap.size, 0, none⟩ (.slice A1 ln c1)).setCell ⟨w.heap.size, 1, none⟩ (.int .i64 ac)).setCell ⟨w.heap.size, 2, none⟩ (.bool of)).setCell ⟨w.heap.size, 3, none⟩ (.int .i64 ar)).setCell ⟨w.heap.size, 4, none⟩ (.slice A2 kn c2)) = w2 at *
    clear b0 b1 b2 b3 b4 f0 f1 f2 f3 f4 lx w1
    obtain ⟨⟨b0, b1, b2, b3, b4⟩, ⟨f0, f1, f2, f3, f4⟩, lx⟩ := H1.out.x5
    have H3 := Lib.hid ((H1.out.setX 3 (.int .i64 0)).setX 3 (.int .i64 n))
    go_upto_region 5 with fail
    generalize (w2.setCell ⟨w.heap.size, 3, none⟩ (.int .i64 0)).setCell ⟨w.heap.size, 3, none⟩ (.int .i64 n) = w3 at *
    clear b0 b1 b2 b3 b4 f0 f1 f2 f3 f4 lx H1 w2
    obtain ⟨⟨b0, b1, b2, b3, b4⟩, ⟨f0, f1, f2, f3, f4⟩, lx⟩ := H3.out.x5
    have HE := Lib.hid H3.out.empty
    have HX := Lib.hid (H3.out.st.other (.cells #[] 3))
    have hsee := Lib.hid ((HB.out _ HX.out.below).more hB)
    have hsz := Lib.hid HX.out.below.size
    go_wp2_with (at_builtin; refine wpList_appAt rfl (.tmp 14) (.tmp 15) _ 3 _ 1 8 rfl info_int Try.underlying28 rfl (by decide) w.heap.size _ 0 [] rfl HE.out w.heap.size A m cap kl rfl hsee.out hnil H2.out (by omega) (by omega) hsz.out ?_)
    intro v2 w4 ho2 hg2 hat2
    (try rw [Nat.zero_add] at ho2)
    (try rw [List.nil_append] at ho2)
    obtain ⟨A3, c3, rfl, -, -, -⟩ := own_slice0 ho2
    have h4 := H3.out.newKeep hg2 ho2
    clear b0 b1 b2 b3 b4 f0 f1 f2 f3 f4 lx ho2 hg2 hat2 HE HX hsee hsz H3
    obtain ⟨⟨b0, b1, b2, b3, b4⟩, ⟨f0, f1, f2, f3, f4⟩, lx⟩ := h4.x5
    have H5 := Lib.hid (h4.setX 4 (.slice A3 m c3))
    clear h4
    go_upto_region 6 with fail
    generalize w4.setCell ⟨w.heap.size, 4, none⟩ (.slice A3 m c3) = w5 at *
    clear b0 b1 b2 b3 b4 f0 f1 f2 f3 f4 lx w4
    obtain ⟨⟨b0, b1, b2, b3, b4⟩, ⟨f0, f1, f2, f3, f4⟩, lx⟩ := H5.out.x5
    obtain ⟨⟨r0, r1, r2, r3, r4⟩, ⟨k0, k1, k2, k3, k4⟩, lz⟩ := H5.out.z5
    go_wp2_with fail
    refine bodyPost_ret (by simp [results, Try.results38, go_sem, r0, r1, r2, r3, r4, k0, k1, k2, k3, k4]; try rfl) rfl ?_
    have H6 := H5.out.setZ5 (.slice A1 ln c1) (.int .i64 ac) (.bool of) (.int .i64 n) (.slice A3 m c3)
    refine ⟨A1, c1, A3, c3, ?_, H6.st.below, HA.out _ _ _ _ _ (Seen.own H6.logs) (Seen.own H6.keep)⟩
    have hv := HV.out A1 c1 A3 c3
    rw [show (n.toNat : Int) = n by omega] at hv
    exact congrArg Ending.returned hv.symm
end Go.Proofs.Ytlfigbgcackimaa
