/- The document's wal: its Open, by cases (written by gwalo.py). -/
import Derived.Test.YtlfigbgcackimaaWalQ
namespace Go.Proofs.Ytlfigbgcackimaa
open Go.RowKit Go.Fm Go.Dk Go.Wl Go.Iv
set_option linter.unusedVariables false
set_option linter.unusedSimpArgs false
set_option maxRecDepth 100000

/-- A slot that holds v once its operation has come, and z ahead of that. -/
def so (b : Bool) (v z : Value) : Value := if b then v else z
theorem so_true (v z : Value) : so true v z = v := rfl
theorem so_false (v z : Value) : so false v z = z := rfl
/-- Where Open's Act of the disk stands: a: it has come, b: its answer has been put in the box. -/
structure Od (w w2 : World) (AL : Option Addr) (cL : Nat) (AK : Option Addr) (cK : Nat) (r r' : Rf) (A1 : Option Addr) (c1 : Nat) (A2 : Option Addr) (c2 : Nat) (a b : Bool) (y : World) : Prop where
  zero : a = false → b = false ∧ y = w2.drew
  one : a = true → b = false → Below w2.heap.size w2 y ∧ ∀ G, IsM G w2 AL cL AK cK r → IsM (fun b => G b ∨ w2.heap.size ≤ b) y A1 c1 A2 c2 r'
  two : b = true → ∃ y0, Below w2.heap.size w2 y0 ∧ (∀ G, IsM G w2 AL cL AK cK r → IsM (fun b => G b ∨ w2.heap.size ≤ b) y0 A1 c1 A2 c2 r') ∧ y = ((((y0.setCell ⟨w.heap.size, 0, none⟩ (.slice A1 r'.logs.length c1)).setCell ⟨w.heap.size, 1, none⟩ (.int .i64 r'.acts)).setCell ⟨w.heap.size, 2, none⟩ (.bool r'.off)).setCell ⟨w.heap.size, 3, none⟩ (.int .i64 r'.armed)).setCell ⟨w.heap.size, 4, none⟩ (.slice A2 r'.keep.length c2)
section
variable {w w2 y : World} {AL : Option Addr} {cL : Nat} {AK : Option Addr} {cK : Nat} {r r' : Rf} {A1 : Option Addr} {c1 : Nat} {A2 : Option Addr} {c2 : Nat}
theorem Od.start (w w2 : World) (AL : Option Addr) (cL : Nat) (AK : Option Addr) (cK : Nat) (r r' : Rf) (A1 : Option Addr) (c1 : Nat) (A2 : Option Addr) (c2 : Nat) : Od w w2 AL cL AK cK r r' A1 c1 A2 c2 false false w2.drew := ⟨fun _ => ⟨rfl, rfl⟩, (fun h => by cases h), fun h => by cases h⟩
theorem Od.made (hb : Below w2.drew.heap.size w2.drew y) (hm : ∀ G, IsM G w2.drew AL cL AK cK r → IsM (fun b => G b ∨ w2.drew.heap.size ≤ b) y A1 c1 A2 c2 r') : Od w w2 AL cL AK cK r r' A1 c1 A2 c2 true false y :=
  ⟨(fun h => by cases h), (fun _ _ => ⟨(drew_below w2 1).trans hb, fun G h => hm G (h.call (drew_below w2 1))⟩), fun h => by cases h⟩
theorem Od.stored (hb : Below w2.heap.size w2 y) (hm : ∀ G, IsM G w2 AL cL AK cK r → IsM (fun b => G b ∨ w2.heap.size ≤ b) y A1 c1 A2 c2 r') :
    Od w w2 AL cL AK cK r r' A1 c1 A2 c2 true true (((((y.setCell ⟨w.heap.size, 0, none⟩ (.slice A1 r'.logs.length c1)).setCell ⟨w.heap.size, 1, none⟩ (.int .i64 r'.acts)).setCell ⟨w.heap.size, 2, none⟩ (.bool r'.off)).setCell ⟨w.heap.size, 3, none⟩ (.int .i64 r'.armed)).setCell ⟨w.heap.size, 4, none⟩ (.slice A2 r'.keep.length c2)) :=
  ⟨(fun h => by cases h), (fun _ h => by cases h), fun _ => ⟨y, hb, hm, rfl⟩⟩
end

set_option maxHeartbeats 4000000 in
theorem ropen_off (r : Rf) (o : Rok r) (G0 : Nat → Prop) (AL : Option Addr) (cL : Nat) (AK : Option Addr) (cK : Nat) (log : Int) (hlog : W64 log) (hin : 0 ≤ log ∧ log < r.logs.length) (w : World) (hm : IsM G0 w AL cL AK cK r) (hoff : r.off = true) :
    Calls Try.prog 35 #[vM AL cL AK cK r, .int .i64 log] w (RWOpens w r AL cL AK cK (r, Rw.none, 71)) := by
  have HBY := Lib.hid (fun w' (hb : Below w.heap.size w w') => by
    have h := rbytes_any r o G0 AL cL AK cK log hlog w' (hm.call hb)
    rwa [decide_eq_true hin] at h)
  have HT : Hid (∀ w1 wf, Below w.heap.size w w1 → w.heap.size + 3 ≤ w1.heap.size → Off (Box3 w) w1 wf → RWOpens w r AL cL AK cK (r, Rw.none, 71) (.returned (.tuple #[vM AL cL AK cK r, .agg #[.int .i64 0, .slice none 0 0, .int .i64 0, .bool false], .int .i64 71])) wf) := Lib.hid fun w1 wf hb1 h4 ho =>
    ropen_told (u' := Rw.none) (A3 := none) (c3 := 0) (wl := wf) hb1 h4 (Below.refl _ _) (fun G h => h.mono fun _ _ h => .inl h) ho (seen_none _ _) (Off.refl _ _)
  have H0 := (((St.start w).alloc w.heap.size rfl 30 #[.slice AL r.logs.length cL, .int .i64 r.acts, .bool true, .int .i64 r.armed, .slice AK r.keep.length cK]).alloc (w.heap.size + 1) (by simp) 30 #[.slice none 0 0, .int .i64 0, .bool false, .int .i64 0, .slice none 0 0]).alloc (w.heap.size + 2) (by simp) 37 #[.int .i64 0, .slice none 0 0, .int .i64 0, .bool false]
  have HST := Lib.hid (H0.few (L' := bxO w.heap.size #[.slice AL r.logs.length cL, .int .i64 r.acts, .bool true, .int .i64 r.armed, .slice AK r.keep.length cK]) (fun r hr => by
    simp only [List.mem_cons, List.not_mem_nil, or_false] at hr ⊢
    rcases hr with h | h | h <;> simp [h]))
  clear H0 hm o hin
  unfold vM at *
  rw [hoff] at *
  generalize r.logs.length = a0 at *
  generalize r.acts = a1 at *
  generalize r.armed = a3 at *
  generalize r.keep.length = a4 at *
  generalize txt (r.bytes log) = S at *
  go_enter Try.func35, Try.ntmps35
  go_wp2_with fail
  refine (HBY.out _ HST.out.below).mono ?_
  rintro e w1 ⟨rfl, hb⟩
  have H1 := Lib.hid (HST.out.call hb)
  have hz1 : Zo w w1 w1 _ := ⟨H1.out, Off.refl _ _⟩
  obtain ⟨⟨⟨k0, k1, k2, k3, k4⟩, k5, k6, k7, k8, k9⟩, z4⟩ := hz1.facts
  have HB1 : Hid (Below w.heap.size w w1) := Lib.hid H1.out.below
  clear hb HBY HST
  have hq := Lib.hid hz1
  obtain ⟨⟨⟨n0, n1, n2, n3, n4⟩, n5, n6, n7, n8, n9⟩, ⟨⟨o0, o1, o2, o3⟩, o4, o5, o6, o7⟩⟩ := hz1.outs
  clear hz1 H1
  go_wp2_with fail
  refine bodyPost_ret (by simp [results, Try.results35, go_sem, k0, k1, k2, k3, k4, n0, n1, n2, n3, n4, o0, o1, o2, o3]; try rfl) rfl ?_
  refine HT.out w1 _ HB1.out (by omega) ?_
  all_goals
    repeat with_reducible first
      | exact hq.out.off
      | refine Off.drew ?_
      | refine Off.set ?_ (.inl (box3_at w 1 (by omega))) _
      | refine Off.set ?_ (.inl (box3_at w 2 (by omega))) _

set_option maxHeartbeats 8000000 in
theorem ropen_well (r : Rf) (o : Rok r) (G0 : Nat → Prop) (AL : Option Addr) (cL : Nat) (AK : Option Addr) (cK : Nat) (log : Int) (hlog : W64 log) (hin : 0 ≤ log ∧ log < r.logs.length) (w : World) (hm : IsM G0 w AL cL AK cK r) (hoff : r.off = false) (hbl : (r.bytes log).length ≤ 4194304) (hn : (scan (r.bytes log)).2 = (r.bytes log).length) (hlo : (r.of log).loose.length = 0) :
    Calls Try.prog 35 #[vM AL cL AK cK r, .int .i64 log] w (RWOpens w r AL cL AK cK (r, Rw.fresh log (scan (r.bytes log)).1, 0)) := by
  have HBY := Lib.hid (fun w' (hb : Below w.heap.size w w') => by
    have h := rbytes_any r o G0 AL cL AK cK log hlog w' (hm.call hb)
    rwa [decide_eq_true hin] at h)
  have HSC := Lib.hid (fun w' => rscan_any (r.bytes log) w' hbl)
  unfold RScans at HSC
  have HT : Hid (∀ w1 w2 wl wf A1 c1 A2 c2 A3 c3, Below w.heap.size w w1 → w.heap.size + 3 ≤ w1.heap.size → Below w1.heap.size w1 w2 → (∀ G, IsM G w1 AL cL AK cK r → IsM (fun b => G b ∨ w1.heap.size ≤ b) w2 A1 c1 A2 c2 r) → Off (Box3 w) w2 wf → Seen (fun b => w.heap.size + 3 ≤ b) wl 1 A3 (scan (r.bytes log)).1.length c3 (strs (scan (r.bytes log)).1) → Off (Box3 w) wl wf →
      RWOpens w r AL cL AK cK (r, Rw.fresh log (scan (r.bytes log)).1, 0) (.returned (.tuple #[vM A1 c1 A2 c2 r, .agg #[.int .i64 log, .slice A3 (scan (r.bytes log)).1.length c3, .int .i64 (scan (r.bytes log)).1.length, .bool false], .int .i64 0])) wf) := Lib.hid fun w1 w2 wl wf A1 c1 A2 c2 A3 c3 hb1 h4 hb2 hmm ho hsn hol =>
    ropen_told (u' := Rw.fresh log (scan (r.bytes log)).1) hb1 h4 hb2 hmm ho hsn hol
  have hsz : (txt (r.bytes log)).size = (r.bytes log).length := txt_size _
  have hle : (scan (r.bytes log)).2 ≤ (r.bytes log).length := scan_le _
  have H0 := (((St.start w).alloc w.heap.size rfl 30 #[.slice AL r.logs.length cL, .int .i64 r.acts, .bool false, .int .i64 r.armed, .slice AK r.keep.length cK]).alloc (w.heap.size + 1) (by simp) 30 #[.slice none 0 0, .int .i64 0, .bool false, .int .i64 0, .slice none 0 0]).alloc (w.heap.size + 2) (by simp) 37 #[.int .i64 0, .slice none 0 0, .int .i64 0, .bool false]
  have HST := Lib.hid (H0.few (L' := bxO w.heap.size #[.slice AL r.logs.length cL, .int .i64 r.acts, .bool false, .int .i64 r.armed, .slice AK r.keep.length cK]) (fun r hr => by
    simp only [List.mem_cons, List.not_mem_nil, or_false] at hr ⊢
    rcases hr with h | h | h <;> simp [h]))
  obtain ⟨x, hx⟩ : ∃ x, r.logs[log.toNat]? = some x := ⟨_, List.getElem?_eq_getElem (by omega)⟩
  have HIT := Lib.hid fun w' (hb : Below w.heap.size w w') => (hm.logs.call hb).item log.toNat x hx
  have hxl : x.loose.length = 0 := by
    have : r.of log = x := by unfold Rf.of; rw [List.getD_eq_getElem?_getD, hx]; rfl
    rw [← this]; exact hlo
  have hxs : (txt x.loose).size = 0 := by rw [txt_size]; exact hxl
  obtain ⟨i, rfl⟩ : ∃ i : Nat, log = i := ⟨log.toNat, by omega⟩
  have hilt : i < r.logs.length := by omega
  rw [show ((i : Int)).toNat = i by omega] at HIT
  clear H0 hm o hlo hx hin hxl
  unfold vM at *
  rw [hoff] at *
  generalize r.logs.length = a0 at *
  generalize r.acts = a1 at *
  generalize r.armed = a3 at *
  generalize r.keep.length = a4 at *
  have hsl : (strs (scan (r.bytes i)).1) = (strs (scan (r.bytes i)).1) := rfl
  clear hsl
  generalize hls : (scan (r.bytes i)).1 = ls at *
  generalize (scan (r.bytes i)).2 = nn at *
  generalize r.bytes i = bs at *
  clear hls
  go_enter Try.func35, Try.ntmps35
  go_wp2_with fail
  refine (HBY.out _ HST.out.below).mono ?_
  rintro e w1 ⟨rfl, hb⟩
  have H1 := Lib.hid (HST.out.call hb)
  have hz1 : Zo w w1 w1 _ := ⟨H1.out, Off.refl _ _⟩
  obtain ⟨⟨⟨k0, k1, k2, k3, k4⟩, k5, k6, k7, k8, k9⟩, z4⟩ := hz1.facts
  have HB1 : Hid (Below w.heap.size w w1) := Lib.hid H1.out.below
  clear hb HBY HST
  go_wp2_with fail
  refine (HSC.out _).mono ?_
  rintro e w2 ⟨v2, rfl, ho2, hb2⟩
  obtain ⟨A6, c6, rfl, e61, e62, e63⟩ := own_slice0 ho2
  have hz2 := hb2.size
  have hz13 : w.heap.size + 3 ≤ w1.heap.size := by omega
  have HSN : Hid (Seen (fun b => w.heap.size + 3 ≤ b) w2 1 A6 ls.length c6 (strs ls)) := Lib.hid ((Seen.own (B := w1.heap.size) ho2).mono fun b _ hb => Nat.le_trans hz13 hb)
  have HB2 := Lib.hid hb2
  have hq2 : Hid (Zo w w1 w2 _) := Lib.hid (hz1.call hb2)
  clear k0 k1 k2 k3 k4 k5 k6 k7 k8 k9 z4
  clear hz1 H1 HSC ho2 hb2
  obtain ⟨⟨⟨k0, k1, k2, k3, k4⟩, k5, k6, k7, k8, k9⟩, z4⟩ := hq2.out.facts
  have HB12 : Hid (Below w.heap.size w w2) := Lib.hid hq2.out.st.below
  obtain ⟨g, off, rfl, hg, q0, q1⟩ := HIT.out _ HB12.out
  obtain ⟨⟨⟨n0, n1, n2, n3, n4⟩, n5, n6, n7, n8, n9⟩, ⟨⟨o0, o1, o2, o3⟩, o4, o5, o6, o7⟩⟩ := hq2.out.outs
  have hi0 : (i : Int) < (a0 : Int) := by omega
  go_wp2_with fail
  refine bodyPost_ret (by simp [results, Try.results35, go_sem, k0, k1, k2, k3, k4, n0, n1, n2, n3, n4, o0, o1, o2, o3]; try rfl) rfl ?_
  refine HT.out w1 w1 w2 _ (some ⟨g, off, none⟩) cL AK cK A6 c6 HB1.out (by omega) (Below.refl _ _) (fun G h => h.mono fun _ _ h => .inl h) ?_ HSN.out ?_
  all_goals
    repeat with_reducible first
      | exact hq2.out.off
      | exact Off.refl _ _
      | refine Off.drew ?_
      | refine Off.set ?_ (.inl (box3_at w 1 (by omega))) _
      | refine Off.set ?_ (.inl (box3_at w 2 (by omega))) _

set_option maxHeartbeats 8000000 in
theorem ropen_sync_ok (r : Rf) (o : Rok r) (G0 : Nat → Prop) (AL : Option Addr) (cL : Nat) (AK : Option Addr) (cK : Nat) (log : Int) (hlog : W64 log) (hin : 0 ≤ log ∧ log < r.logs.length) (w : World) (hm : IsM G0 w AL cL AK cK r) (hoff : r.off = false) (hbl : (r.bytes log).length ≤ 4194304) (hn : (scan (r.bytes log)).2 = (r.bytes log).length) (hlo : 0 < (r.of log).loose.length) (he : (r.act 1 log []).2 = 0) :
    Calls Try.prog 35 #[vM AL cL AK cK r, .int .i64 log] w (RWOpens w r AL cL AK cK ((r.act 1 log []).1, Rw.fresh log (scan (r.bytes log)).1, 0)) := by
  have HBY := Lib.hid (fun w' (hb : Below w.heap.size w w') => by
    have h := rbytes_any r o G0 AL cL AK cK log hlog w' (hm.call hb)
    rwa [decide_eq_true hin] at h)
  have HSC := Lib.hid (fun w' => rscan_any (r.bytes log) w' hbl)
  unfold RScans at HSC
  have HT : Hid (∀ w1 w2 wl wf A1 c1 A2 c2 A3 c3, Below w.heap.size w w1 → w.heap.size + 3 ≤ w1.heap.size → Below w1.heap.size w1 w2 → (∀ G, IsM G w1 AL cL AK cK r → IsM (fun b => G b ∨ w1.heap.size ≤ b) w2 A1 c1 A2 c2 (r.act 1 log []).1) → Off (Box3 w) w2 wf → Seen (fun b => w.heap.size + 3 ≤ b) wl 1 A3 (scan (r.bytes log)).1.length c3 (strs (scan (r.bytes log)).1) → Off (Box3 w) wl wf →
      RWOpens w r AL cL AK cK ((r.act 1 log []).1, Rw.fresh log (scan (r.bytes log)).1, 0) (.returned (.tuple #[vM A1 c1 A2 c2 (r.act 1 log []).1, .agg #[.int .i64 log, .slice A3 (scan (r.bytes log)).1.length c3, .int .i64 (scan (r.bytes log)).1.length, .bool false], .int .i64 0])) wf) := Lib.hid fun w1 w2 wl wf A1 c1 A2 c2 A3 c3 hb1 h4 hb2 hmm ho hsn hol =>
    ropen_told (u' := Rw.fresh log (scan (r.bytes log)).1) hb1 h4 hb2 hmm ho hsn hol
  have hsz : (txt (r.bytes log)).size = (r.bytes log).length := txt_size _
  have hle : (scan (r.bytes log)).2 ≤ (r.bytes log).length := scan_le _
  have H0 := (((St.start w).alloc w.heap.size rfl 30 #[.slice AL r.logs.length cL, .int .i64 r.acts, .bool false, .int .i64 r.armed, .slice AK r.keep.length cK]).alloc (w.heap.size + 1) (by simp) 30 #[.slice none 0 0, .int .i64 0, .bool false, .int .i64 0, .slice none 0 0]).alloc (w.heap.size + 2) (by simp) 37 #[.int .i64 0, .slice none 0 0, .int .i64 0, .bool false]
  have HST := Lib.hid (H0.few (L' := bxO w.heap.size #[.slice AL r.logs.length cL, .int .i64 r.acts, .bool false, .int .i64 r.armed, .slice AK r.keep.length cK]) (fun r hr => by
    simp only [List.mem_cons, List.not_mem_nil, or_false] at hr ⊢
    rcases hr with h | h | h <;> simp [h]))
  obtain ⟨x, hx⟩ : ∃ x, r.logs[log.toNat]? = some x := ⟨_, List.getElem?_eq_getElem (by omega)⟩
  have HIT := Lib.hid fun w' (hb : Below w.heap.size w w') => (hm.logs.call hb).item log.toNat x hx
  have hxl : 0 < x.loose.length := by
    have : r.of log = x := by unfold Rf.of; rw [List.getD_eq_getElem?_getD, hx]; rfl
    rw [← this]; exact hlo
  have hxs : (txt x.loose).size = x.loose.length := txt_size _
  have HRA : Hid (∀ w', Below w.heap.size w w' → Calls Try.prog 40 #[vM AL cL AK cK r, .int .i64 1, .int .i64 log, .string ⟨#[]⟩] w' fun e w'' => ∃ A1 c1 A2 c2, e = .returned (.tuple #[vM A1 c1 A2 c2 (r.act 1 log []).1, .int .i64 (r.act 1 log []).2]) ∧ Below w'.heap.size w' w'' ∧ ∀ G, IsM G w' AL cL AK cK r → IsM (fun b => G b ∨ w'.heap.size ≤ b) w'' A1 c1 A2 c2 (r.act 1 log []).1) := Lib.hid fun w' hb => ract_any r o G0 AL cL AK cK 1 (w64 1 (by omega)) log hlog [] (by simp) w' (hm.call hb)
  obtain ⟨i, rfl⟩ : ∃ i : Nat, log = i := ⟨log.toNat, by omega⟩
  have hilt : i < r.logs.length := by omega
  rw [show ((i : Int)).toNat = i by omega] at HIT
  have HE := Lib.hid he
  clear H0 hm o hlo hx hin he
  generalize r.act 1 i [] = R at *
  unfold vM at *
  rw [hoff] at *
  generalize r.logs.length = a0 at *
  generalize r.acts = a1 at *
  generalize r.armed = a3 at *
  generalize r.keep.length = a4 at *
  have hsl : (strs (scan (r.bytes i)).1) = (strs (scan (r.bytes i)).1) := rfl
  clear hsl
  generalize hls : (scan (r.bytes i)).1 = ls at *
  generalize (scan (r.bytes i)).2 = nn at *
  generalize r.bytes i = bs at *
  clear hls
  generalize x.loose.length = xl at *
  go_enter Try.func35, Try.ntmps35
  go_wp2_with fail
  refine (HBY.out _ HST.out.below).mono ?_
  rintro e w1 ⟨rfl, hb⟩
  have H1 := Lib.hid (HST.out.call hb)
  have hz1 : Zo w w1 w1 _ := ⟨H1.out, Off.refl _ _⟩
  obtain ⟨⟨⟨k0, k1, k2, k3, k4⟩, k5, k6, k7, k8, k9⟩, z4⟩ := hz1.facts
  have HB1 : Hid (Below w.heap.size w w1) := Lib.hid H1.out.below
  clear hb HBY HST
  go_wp2_with fail
  refine (HSC.out _).mono ?_
  rintro e w2 ⟨v2, rfl, ho2, hb2⟩
  obtain ⟨A6, c6, rfl, e61, e62, e63⟩ := own_slice0 ho2
  have hz2 := hb2.size
  have hz13 : w.heap.size + 3 ≤ w1.heap.size := by omega
  have HSN : Hid (Seen (fun b => w.heap.size + 3 ≤ b) w2 1 A6 ls.length c6 (strs ls)) := Lib.hid ((Seen.own (B := w1.heap.size) ho2).mono fun b _ hb => Nat.le_trans hz13 hb)
  have HB2 := Lib.hid hb2
  have hq2 : Hid (Zo w w1 w2 _) := Lib.hid (hz1.call hb2)
  clear k0 k1 k2 k3 k4 k5 k6 k7 k8 k9 z4
  clear hz1 H1 HSC ho2 hb2
  obtain ⟨⟨⟨k0, k1, k2, k3, k4⟩, k5, k6, k7, k8, k9⟩, z4⟩ := hq2.out.facts
  have HB12 : Hid (Below w.heap.size w w2) := Lib.hid hq2.out.st.below
  obtain ⟨g, off, rfl, hg, q0, q1⟩ := HIT.out _ HB12.out
  have hi0 : (i : Int) < (a0 : Int) := by omega
  have hx0 : (0 : Int) < (xl : Int) := by omega
  have HR2 := Lib.hid (HRA.out _ HB12.out)
  clear HRA HIT
  go_wp2_with fail
  refine HR2.out.mono ?_
  rintro e w3 ⟨A1, c1, A2, c2, rfl, hb3, hmm⟩
  have HB3 := Lib.hid hb3
  have HMM := Lib.hid hmm
  have HZ3 : Hid (Zo w w3 w3 _) := Lib.hid ⟨hq2.out.st.call hb3, Off.refl _ _⟩
  have HSN3 := Lib.hid (HSN.out.call hb3)
  have hz3 := hb3.size
  have hz4 : w.heap.size + 3 ≤ w2.heap.size := by omega
  clear k0 k1 k2 k3 k4 k5 k6 k7 k8 k9 z4 q0 q1 HR2 hb3 hmm hq2 HSN
  unfold vM at *
  obtain ⟨⟨⟨k0, k1, k2, k3, k4⟩, k5, k6, k7, k8, k9⟩, z4⟩ := HZ3.out.facts
  have hq4 := Lib.hid (HZ3.out.m5 (.slice A1 R.1.logs.length c1) (.int .i64 R.1.acts) (.bool R.1.off) (.int .i64 R.1.armed) (.slice A2 R.1.keep.length c2))
  have he := HE.out
  rw [he] at *
  go_upto_region 12 with fail
  generalize (((((w3.setCell ⟨w.heap.size, 0, none⟩ (.slice A1 R.1.logs.length c1)).setCell ⟨w.heap.size, 1, none⟩ (.int .i64 R.1.acts)).setCell ⟨w.heap.size, 2, none⟩ (.bool R.1.off)).setCell ⟨w.heap.size, 3, none⟩ (.int .i64 R.1.armed)).setCell ⟨w.heap.size, 4, none⟩ (.slice A2 R.1.keep.length c2)) = w4 at *
  clear k0 k1 k2 k3 k4 k5 k6 k7 k8 k9 z4
  obtain ⟨⟨⟨k0, k1, k2, k3, k4⟩, k5, k6, k7, k8, k9⟩, z4⟩ := hq4.out.facts
  obtain ⟨⟨⟨n0, n1, n2, n3, n4⟩, n5, n6, n7, n8, n9⟩, ⟨⟨o0, o1, o2, o3⟩, o4, o5, o6, o7⟩⟩ := hq4.out.outs
  clear HZ3
  go_wp2_with fail
  refine bodyPost_ret (by simp [results, Try.results35, go_sem, k0, k1, k2, k3, k4, n0, n1, n2, n3, n4, o0, o1, o2, o3]; try rfl) rfl ?_
  refine HT.out w2 w3 w3 _ A1 c1 A2 c2 A6 c6 HB12.out hz4 HB3.out HMM.out ?_ HSN3.out ?_
  all_goals
    repeat with_reducible first
      | exact hq4.out.off
      | refine Off.drew ?_
      | refine Off.set ?_ (.inl (box3_at w 1 (by omega))) _
      | refine Off.set ?_ (.inl (box3_at w 2 (by omega))) _

set_option maxHeartbeats 8000000 in
theorem ropen_sync_err (r : Rf) (o : Rok r) (G0 : Nat → Prop) (AL : Option Addr) (cL : Nat) (AK : Option Addr) (cK : Nat) (log : Int) (hlog : W64 log) (hin : 0 ≤ log ∧ log < r.logs.length) (w : World) (hm : IsM G0 w AL cL AK cK r) (hoff : r.off = false) (hbl : (r.bytes log).length ≤ 4194304) (hn : (scan (r.bytes log)).2 = (r.bytes log).length) (hlo : 0 < (r.of log).loose.length) (he : (r.act 1 log []).2 ≠ 0) :
    Calls Try.prog 35 #[vM AL cL AK cK r, .int .i64 log] w (RWOpens w r AL cL AK cK ((r.act 1 log []).1, Rw.none, (r.act 1 log []).2)) := by
  have HBY := Lib.hid (fun w' (hb : Below w.heap.size w w') => by
    have h := rbytes_any r o G0 AL cL AK cK log hlog w' (hm.call hb)
    rwa [decide_eq_true hin] at h)
  have HSC := Lib.hid (fun w' => rscan_any (r.bytes log) w' hbl)
  unfold RScans at HSC
  have HT : Hid (∀ w1 w2 wf A1 c1 A2 c2, Below w.heap.size w w1 → w.heap.size + 3 ≤ w1.heap.size → Below w1.heap.size w1 w2 → (∀ G, IsM G w1 AL cL AK cK r → IsM (fun b => G b ∨ w1.heap.size ≤ b) w2 A1 c1 A2 c2 (r.act 1 log []).1) → Off (Box3 w) w2 wf →
      RWOpens w r AL cL AK cK ((r.act 1 log []).1, Rw.none, (r.act 1 log []).2) (.returned (.tuple #[vM A1 c1 A2 c2 (r.act 1 log []).1, .agg #[.int .i64 0, .slice none 0 0, .int .i64 0, .bool false], .int .i64 (r.act 1 log []).2])) wf) := Lib.hid fun w1 w2 wf A1 c1 A2 c2 hb1 h4 hb2 hmm ho =>
    ropen_told (u' := Rw.none) (A3 := none) (c3 := 0) (wl := wf) hb1 h4 hb2 hmm ho (seen_none _ _) (Off.refl _ _)
  have hsz : (txt (r.bytes log)).size = (r.bytes log).length := txt_size _
  have hle : (scan (r.bytes log)).2 ≤ (r.bytes log).length := scan_le _
  have H0 := (((St.start w).alloc w.heap.size rfl 30 #[.slice AL r.logs.length cL, .int .i64 r.acts, .bool false, .int .i64 r.armed, .slice AK r.keep.length cK]).alloc (w.heap.size + 1) (by simp) 30 #[.slice none 0 0, .int .i64 0, .bool false, .int .i64 0, .slice none 0 0]).alloc (w.heap.size + 2) (by simp) 37 #[.int .i64 0, .slice none 0 0, .int .i64 0, .bool false]
  have HST := Lib.hid (H0.few (L' := bxO w.heap.size #[.slice AL r.logs.length cL, .int .i64 r.acts, .bool false, .int .i64 r.armed, .slice AK r.keep.length cK]) (fun r hr => by
    simp only [List.mem_cons, List.not_mem_nil, or_false] at hr ⊢
    rcases hr with h | h | h <;> simp [h]))
  obtain ⟨x, hx⟩ : ∃ x, r.logs[log.toNat]? = some x := ⟨_, List.getElem?_eq_getElem (by omega)⟩
  have HIT := Lib.hid fun w' (hb : Below w.heap.size w w') => (hm.logs.call hb).item log.toNat x hx
  have hxl : 0 < x.loose.length := by
    have : r.of log = x := by unfold Rf.of; rw [List.getD_eq_getElem?_getD, hx]; rfl
    rw [← this]; exact hlo
  have hxs : (txt x.loose).size = x.loose.length := txt_size _
  have HRA : Hid (∀ w', Below w.heap.size w w' → Calls Try.prog 40 #[vM AL cL AK cK r, .int .i64 1, .int .i64 log, .string ⟨#[]⟩] w' fun e w'' => ∃ A1 c1 A2 c2, e = .returned (.tuple #[vM A1 c1 A2 c2 (r.act 1 log []).1, .int .i64 (r.act 1 log []).2]) ∧ Below w'.heap.size w' w'' ∧ ∀ G, IsM G w' AL cL AK cK r → IsM (fun b => G b ∨ w'.heap.size ≤ b) w'' A1 c1 A2 c2 (r.act 1 log []).1) := Lib.hid fun w' hb => ract_any r o G0 AL cL AK cK 1 (w64 1 (by omega)) log hlog [] (by simp) w' (hm.call hb)
  obtain ⟨i, rfl⟩ : ∃ i : Nat, log = i := ⟨log.toNat, by omega⟩
  have hilt : i < r.logs.length := by omega
  rw [show ((i : Int)).toNat = i by omega] at HIT
  have HE := Lib.hid he
  clear H0 hm o hlo hx hin he
  generalize r.act 1 i [] = R at *
  unfold vM at *
  rw [hoff] at *
  generalize r.logs.length = a0 at *
  generalize r.acts = a1 at *
  generalize r.armed = a3 at *
  generalize r.keep.length = a4 at *
  have hsl : (strs (scan (r.bytes i)).1) = (strs (scan (r.bytes i)).1) := rfl
  clear hsl
  generalize hls : (scan (r.bytes i)).1 = ls at *
  generalize (scan (r.bytes i)).2 = nn at *
  generalize r.bytes i = bs at *
  clear hls
  generalize x.loose.length = xl at *
  go_enter Try.func35, Try.ntmps35
  go_wp2_with fail
  refine (HBY.out _ HST.out.below).mono ?_
  rintro e w1 ⟨rfl, hb⟩
  have H1 := Lib.hid (HST.out.call hb)
  have hz1 : Zo w w1 w1 _ := ⟨H1.out, Off.refl _ _⟩
  obtain ⟨⟨⟨k0, k1, k2, k3, k4⟩, k5, k6, k7, k8, k9⟩, z4⟩ := hz1.facts
  have HB1 : Hid (Below w.heap.size w w1) := Lib.hid H1.out.below
  clear hb HBY HST
  go_wp2_with fail
  refine (HSC.out _).mono ?_
  rintro e w2 ⟨v2, rfl, ho2, hb2⟩
  obtain ⟨A6, c6, rfl, e61, e62, e63⟩ := own_slice0 ho2
  have hz2 := hb2.size
  have hz13 : w.heap.size + 3 ≤ w1.heap.size := by omega
  have HSN : Hid (Seen (fun b => w.heap.size + 3 ≤ b) w2 1 A6 ls.length c6 (strs ls)) := Lib.hid ((Seen.own (B := w1.heap.size) ho2).mono fun b _ hb => Nat.le_trans hz13 hb)
  have HB2 := Lib.hid hb2
  have hq2 : Hid (Zo w w1 w2 _) := Lib.hid (hz1.call hb2)
  clear k0 k1 k2 k3 k4 k5 k6 k7 k8 k9 z4
  clear hz1 H1 HSC ho2 hb2
  obtain ⟨⟨⟨k0, k1, k2, k3, k4⟩, k5, k6, k7, k8, k9⟩, z4⟩ := hq2.out.facts
  have HB12 : Hid (Below w.heap.size w w2) := Lib.hid hq2.out.st.below
  obtain ⟨g, off, rfl, hg, q0, q1⟩ := HIT.out _ HB12.out
  have hi0 : (i : Int) < (a0 : Int) := by omega
  have hx0 : (0 : Int) < (xl : Int) := by omega
  have HR2 := Lib.hid (HRA.out _ HB12.out)
  clear HRA HIT
  go_wp2_with fail
  refine HR2.out.mono ?_
  rintro e w3 ⟨A1, c1, A2, c2, rfl, hb3, hmm⟩
  have HB3 := Lib.hid hb3
  have HMM := Lib.hid hmm
  have HZ3 : Hid (Zo w w3 w3 _) := Lib.hid ⟨hq2.out.st.call hb3, Off.refl _ _⟩
  have HSN3 := Lib.hid (HSN.out.call hb3)
  have hz3 := hb3.size
  have hz4 : w.heap.size + 3 ≤ w2.heap.size := by omega
  clear k0 k1 k2 k3 k4 k5 k6 k7 k8 k9 z4 q0 q1 HR2 hb3 hmm hq2 HSN
  unfold vM at *
  obtain ⟨⟨⟨k0, k1, k2, k3, k4⟩, k5, k6, k7, k8, k9⟩, z4⟩ := HZ3.out.facts
  have hq4 := Lib.hid (HZ3.out.m5 (.slice A1 R.1.logs.length c1) (.int .i64 R.1.acts) (.bool R.1.off) (.int .i64 R.1.armed) (.slice A2 R.1.keep.length c2))
  have q9 : (R.2 != 0) = true := by simpa using HE.out
  go_upto_region 12 with fail
  generalize (((((w3.setCell ⟨w.heap.size, 0, none⟩ (.slice A1 R.1.logs.length c1)).setCell ⟨w.heap.size, 1, none⟩ (.int .i64 R.1.acts)).setCell ⟨w.heap.size, 2, none⟩ (.bool R.1.off)).setCell ⟨w.heap.size, 3, none⟩ (.int .i64 R.1.armed)).setCell ⟨w.heap.size, 4, none⟩ (.slice A2 R.1.keep.length c2)) = w4 at *
  clear k0 k1 k2 k3 k4 k5 k6 k7 k8 k9 z4
  obtain ⟨⟨⟨k0, k1, k2, k3, k4⟩, k5, k6, k7, k8, k9⟩, z4⟩ := hq4.out.facts
  obtain ⟨⟨⟨n0, n1, n2, n3, n4⟩, n5, n6, n7, n8, n9⟩, ⟨⟨o0, o1, o2, o3⟩, o4, o5, o6, o7⟩⟩ := hq4.out.outs
  clear HZ3
  go_wp2_with fail
  refine bodyPost_ret (by simp [results, Try.results35, go_sem, k0, k1, k2, k3, k4, n0, n1, n2, n3, n4, o0, o1, o2, o3]; try rfl) rfl ?_
  refine HT.out w2 w3 _ A1 c1 A2 c2 HB12.out hz4 HB3.out HMM.out ?_
  all_goals
    repeat with_reducible first
      | exact hq4.out.off
      | refine Off.drew ?_
      | refine Off.set ?_ (.inl (box3_at w 1 (by omega))) _
      | refine Off.set ?_ (.inl (box3_at w 2 (by omega))) _

set_option maxHeartbeats 8000000 in
theorem ropen_swap_ok (r : Rf) (o : Rok r) (G0 : Nat → Prop) (AL : Option Addr) (cL : Nat) (AK : Option Addr) (cK : Nat) (log : Int) (hlog : W64 log) (hin : 0 ≤ log ∧ log < r.logs.length) (w : World) (hm : IsM G0 w AL cL AK cK r) (hoff : r.off = false) (hbl : (r.bytes log).length ≤ 4194304) (hn : (scan (r.bytes log)).2 < (r.bytes log).length) (he : (r.act 2 log ((r.bytes log).take (scan (r.bytes log)).2)).2 = 0) :
    Calls Try.prog 35 #[vM AL cL AK cK r, .int .i64 log] w (RWOpens w r AL cL AK cK ((r.act 2 log ((r.bytes log).take (scan (r.bytes log)).2)).1, Rw.fresh log (scan (r.bytes log)).1, 0)) := by
  have HBY := Lib.hid (fun w' (hb : Below w.heap.size w w') => by
    have h := rbytes_any r o G0 AL cL AK cK log hlog w' (hm.call hb)
    rwa [decide_eq_true hin] at h)
  have HSC := Lib.hid (fun w' => rscan_any (r.bytes log) w' hbl)
  unfold RScans at HSC
  have HT : Hid (∀ w1 w2 wl wf A1 c1 A2 c2 A3 c3, Below w.heap.size w w1 → w.heap.size + 3 ≤ w1.heap.size → Below w1.heap.size w1 w2 → (∀ G, IsM G w1 AL cL AK cK r → IsM (fun b => G b ∨ w1.heap.size ≤ b) w2 A1 c1 A2 c2 (r.act 2 log ((r.bytes log).take (scan (r.bytes log)).2)).1) → Off (Box3 w) w2 wf → Seen (fun b => w.heap.size + 3 ≤ b) wl 1 A3 (scan (r.bytes log)).1.length c3 (strs (scan (r.bytes log)).1) → Off (Box3 w) wl wf →
      RWOpens w r AL cL AK cK ((r.act 2 log ((r.bytes log).take (scan (r.bytes log)).2)).1, Rw.fresh log (scan (r.bytes log)).1, 0) (.returned (.tuple #[vM A1 c1 A2 c2 (r.act 2 log ((r.bytes log).take (scan (r.bytes log)).2)).1, .agg #[.int .i64 log, .slice A3 (scan (r.bytes log)).1.length c3, .int .i64 (scan (r.bytes log)).1.length, .bool false], .int .i64 0])) wf) := Lib.hid fun w1 w2 wl wf A1 c1 A2 c2 A3 c3 hb1 h4 hb2 hmm ho hsn hol =>
    ropen_told (u' := Rw.fresh log (scan (r.bytes log)).1) hb1 h4 hb2 hmm ho hsn hol
  have hsz : (txt (r.bytes log)).size = (r.bytes log).length := txt_size _
  have hle : (scan (r.bytes log)).2 ≤ (r.bytes log).length := scan_le _
  have H0 := (((St.start w).alloc w.heap.size rfl 30 #[.slice AL r.logs.length cL, .int .i64 r.acts, .bool false, .int .i64 r.armed, .slice AK r.keep.length cK]).alloc (w.heap.size + 1) (by simp) 30 #[.slice none 0 0, .int .i64 0, .bool false, .int .i64 0, .slice none 0 0]).alloc (w.heap.size + 2) (by simp) 37 #[.int .i64 0, .slice none 0 0, .int .i64 0, .bool false]
  have HST := Lib.hid (H0.few (L' := bxO w.heap.size #[.slice AL r.logs.length cL, .int .i64 r.acts, .bool false, .int .i64 r.armed, .slice AK r.keep.length cK]) (fun r hr => by
    simp only [List.mem_cons, List.not_mem_nil, or_false] at hr ⊢
    rcases hr with h | h | h <;> simp [h]))
  have HEX : Hid ((txt (r.bytes log)).extract 0 (scan (r.bytes log)).2 = txt ((r.bytes log).take (scan (r.bytes log)).2)) := Lib.hid (txt_take _ _ (scan_le _))
  have HRA := Lib.hid (fun w' (hb : Below w.heap.size w w') => ract_any r o G0 AL cL AK cK 2 (w64 2 (by omega)) log hlog ((r.bytes log).take (scan (r.bytes log)).2) (by rw [List.length_take]; omega) w' (hm.call hb))
  have hnI : ((scan (r.bytes log)).2 : Int) < (r.bytes log).length := by omega
  have HE := Lib.hid he
  clear H0 hm o hin he
  generalize r.act 2 log ((r.bytes log).take (scan (r.bytes log)).2) = R at *
  generalize txt ((r.bytes log).take (scan (r.bytes log)).2) = TK at *
  unfold vM at *
  rw [hoff] at *
  generalize r.logs.length = a0 at *
  generalize r.acts = a1 at *
  generalize r.armed = a3 at *
  generalize r.keep.length = a4 at *
  have hsl : (strs (scan (r.bytes log)).1) = (strs (scan (r.bytes log)).1) := rfl
  clear hsl
  generalize hls : (scan (r.bytes log)).1 = ls at *
  generalize (scan (r.bytes log)).2 = nn at *
  generalize r.bytes log = bs at *
  clear hls
  go_enter Try.func35, Try.ntmps35
  go_wp2_with fail
  refine (HBY.out _ HST.out.below).mono ?_
  rintro e w1 ⟨rfl, hb⟩
  have H1 := Lib.hid (HST.out.call hb)
  have hz1 : Zo w w1 w1 _ := ⟨H1.out, Off.refl _ _⟩
  obtain ⟨⟨⟨k0, k1, k2, k3, k4⟩, k5, k6, k7, k8, k9⟩, z4⟩ := hz1.facts
  have HB1 : Hid (Below w.heap.size w w1) := Lib.hid H1.out.below
  clear hb HBY HST
  go_wp2_with fail
  refine (HSC.out _).mono ?_
  rintro e w2 ⟨v2, rfl, ho2, hb2⟩
  obtain ⟨A6, c6, rfl, e61, e62, e63⟩ := own_slice0 ho2
  have hz2 := hb2.size
  have hz13 : w.heap.size + 3 ≤ w1.heap.size := by omega
  have HSN : Hid (Seen (fun b => w.heap.size + 3 ≤ b) w2 1 A6 ls.length c6 (strs ls)) := Lib.hid ((Seen.own (B := w1.heap.size) ho2).mono fun b _ hb => Nat.le_trans hz13 hb)
  have HB2 := Lib.hid hb2
  have hq2 : Hid (Zo w w1 w2 _) := Lib.hid (hz1.call hb2)
  clear k0 k1 k2 k3 k4 k5 k6 k7 k8 k9 z4
  clear hz1 H1 HSC ho2 hb2
  obtain ⟨⟨⟨k0, k1, k2, k3, k4⟩, k5, k6, k7, k8, k9⟩, z4⟩ := hq2.out.facts
  have HB12 : Hid (Below w.heap.size w w2) := Lib.hid hq2.out.st.below
  have hex := HEX.out
  have hle2 : nn ≤ bs.length := hle
  go_wp2_with fail
  refine Iv.region (fun f aa y => ∃ A1 c1 A2 c2, aa = ⟨#[.agg #[.slice AL a0 cL, .int .i64 a1, .bool false, .int .i64 a3, .slice AK a4 cK], .int .i64 log, .pointer (some ⟨w.heap.size, 0, none⟩), undef, .pointer (some ⟨w.heap.size + 1, 0, none⟩), .pointer (some ⟨w.heap.size + 1 + 1, 0, none⟩), .int .i64 0, .string (txt bs), .bool true, .slice A6 ls.length c6, .int .i64 nn, so (f 10) (.int .i64 R.2) (.int .i64 0), .tuple #[.string (txt bs), .bool true], .agg #[.slice AL a0 cL, .int .i64 a1, .bool false, .int .i64 a3, .slice AK a4 cK], .int .i64 log, .tuple #[.string (txt bs), .bool true], .string (txt bs), .bool true, .bool true, .bool false, undef, undef, .pointer (some ⟨w.heap.size, 2, none⟩), .bool false, undef, undef, .tuple #[.slice A6 ls.length c6, .int .i64 nn], .string (txt bs), .tuple #[.slice A6 ls.length c6, .int .i64 nn], .slice A6 ls.length c6, .int .i64 nn, .int .i64 nn, .string (txt bs), .int .i64 bs.length, .bool true, sl (f 6) (.tuple #[.agg #[.slice A1 R.1.logs.length c1, .int .i64 R.1.acts, .bool R.1.off, .int .i64 R.1.armed, .slice A2 R.1.keep.length c2], .int .i64 R.2]), sl (f 0) (.agg #[.slice AL a0 cL, .int .i64 a1, .bool false, .int .i64 a3, .slice AK a4 cK]), sl (f 1) (.int .i64 log), sl (f 2) (.string (txt bs)), sl (f 3) (.int .i64 nn), sl (f 4) (.string TK), sl (f 5) (.tuple #[.agg #[.slice A1 R.1.logs.length c1, .int .i64 R.1.acts, .bool R.1.off, .int .i64 R.1.armed, .slice A2 R.1.keep.length c2], .int .i64 R.2]), sl (f 7) (.agg #[.slice A1 R.1.logs.length c1, .int .i64 R.1.acts, .bool R.1.off, .int .i64 R.1.armed, .slice A2 R.1.keep.length c2]), sl (f 8) (.int .i64 R.2), undef, undef, undef, undef, undef, undef, undef, undef, undef, undef, undef, undef, undef, undef, undef, undef, undef, undef, undef, undef, undef, undef, undef, undef, undef], []⟩ ∧ Od w w2 AL cL AK cK r R.1 A1 c1 A2 c2 (f 5) (f 9) y ∧ (f 5 = true → f 0 = true ∧ f 1 = true ∧ f 4 = true) ∧ (f 5 = false → f 6 = false ∧ f 7 = false)) (by kernel_rfl) (by kernel_rfl) ?_ ?_ ?_
  · exact ⟨none, 0, none, 0, rfl, Od.start _ _ _ _ _ _ _ _ _ _ _ _, (fun h => by cases h), fun _ => ⟨rfl, rfl⟩⟩
  · refine ⟨?_, ?_, ?_, ?_, ?_, ?_, ?_, ?_, ?_, ?_, ?_, trivial⟩
    · rintro f a0 y Q' ⟨A1, c1, A2, c2, rfl, hw⟩ hi hd hQ
      replace hQ := Lib.hid hQ
      simp [Iv.depsB, Region.binds] at hd
      try simp only [hi, hd, sl_true, sl_false, so_true, so_false]
      try simp only [hi, sl_true, sl_false, so_true, so_false]
      have h5 : f 5 = false := by
        cases e5 : f 5 with
        | false => rfl
        | true => have := hw.2.1 e5; simp [hi] at this
      obtain ⟨e9, ey⟩ := hw.1.zero h5
      obtain ⟨e6, e7⟩ := hw.2.2 h5
      subst ey
      obtain ⟨⟨⟨k0, k1, k2, k3, k4⟩, k5, k6, k7, k8, k9⟩, z4⟩ := (hq2.out.call (drew_below w2 1)).facts
      clear hw
      go_wp2_with fail
      refine hQ.out _ _ ⟨A1, c1, A2, c2, ?_, ?_⟩
      · simp [Iv.upd, hi, hd, h5, e9, e6, e7, sl_true, sl_false, so_true, so_false]
      · refine ⟨by simpa [Iv.upd, hi, hd, h5, e9] using Od.start w w2 AL cL AK cK r R.1 A1 c1 A2 c2, by simp [Iv.upd, hi, hd, h5], by simp [Iv.upd, hi, hd, h5, e6, e7]⟩
    · rintro f a0 y Q' ⟨A1, c1, A2, c2, rfl, hw⟩ hi hd hQ
      replace hQ := Lib.hid hQ
      simp [Iv.depsB, Region.binds] at hd
      try simp only [hi, hd, sl_true, sl_false, so_true, so_false]
      try simp only [hi, sl_true, sl_false, so_true, so_false]
      have h5 : f 5 = false := by
        cases e5 : f 5 with
        | false => rfl
        | true => have := hw.2.1 e5; simp [hi] at this
      obtain ⟨e9, ey⟩ := hw.1.zero h5
      obtain ⟨e6, e7⟩ := hw.2.2 h5
      subst ey
      clear hw
      go_wp2_with fail
      refine hQ.out _ _ ⟨A1, c1, A2, c2, ?_, ?_⟩
      · simp [Iv.upd, hi, hd, h5, e9, e6, e7, sl_true, sl_false, so_true, so_false]
      · refine ⟨by simpa [Iv.upd, hi, hd, h5, e9] using Od.start w w2 AL cL AK cK r R.1 A1 c1 A2 c2, by simp [Iv.upd, hi, hd, h5], by simp [Iv.upd, hi, hd, h5, e6, e7]⟩
    · rintro f a0 y Q' ⟨A1, c1, A2, c2, rfl, hw⟩ hi hd hQ
      replace hQ := Lib.hid hQ
      simp [Iv.depsB, Region.binds] at hd
      try simp only [hi, hd, sl_true, sl_false, so_true, so_false]
      try simp only [hi, sl_true, sl_false, so_true, so_false]
      have HWW := Lib.hid hw
      clear hw
      go_wp2_with fail
      refine hQ.out _ _ ⟨A1, c1, A2, c2, ?_, ?_⟩
      · simp [Iv.upd, hi, hd, sl_true, sl_false, so_true, so_false]
      · simpa [Iv.upd, hi, hd] using HWW.out
    · rintro f a0 y Q' ⟨A1, c1, A2, c2, rfl, hw⟩ hi hd hQ
      replace hQ := Lib.hid hQ
      simp [Iv.depsB, Region.binds] at hd
      try simp only [hi, hd, sl_true, sl_false, so_true, so_false]
      try simp only [hi, sl_true, sl_false, so_true, so_false]
      have HWW := Lib.hid hw
      clear hw
      go_wp2_with fail
      refine hQ.out _ _ ⟨A1, c1, A2, c2, ?_, ?_⟩
      · simp [Iv.upd, hi, hd, sl_true, sl_false, so_true, so_false]
      · simpa [Iv.upd, hi, hd] using HWW.out
    · rintro f a0 y Q' ⟨A1, c1, A2, c2, rfl, hw⟩ hi hd hQ
      replace hQ := Lib.hid hQ
      simp [Iv.depsB, Region.binds] at hd
      try simp only [hi, hd, sl_true, sl_false, so_true, so_false]
      try simp only [hi, sl_true, sl_false, so_true, so_false]
      have h5 : f 5 = false := by
        cases e5 : f 5 with
        | false => rfl
        | true => have := hw.2.1 e5; simp [hi] at this
      obtain ⟨e9, ey⟩ := hw.1.zero h5
      obtain ⟨e6, e7⟩ := hw.2.2 h5
      subst ey
      have d2 : f 2 = true := by simp [hd]
      have d3 : f 3 = true := by simp [hd]
      try simp only [d2, d3, sl_true]
      clear hw
      go_wp2_with fail
      refine hQ.out _ _ ⟨A1, c1, A2, c2, ?_, ?_⟩
      · simp [Iv.upd, hi, hd, h5, e9, d2, d3, e6, e7, sl_true, sl_false, so_true, so_false]
      · refine ⟨by simpa [Iv.upd, hi, hd, h5, e9, d2, d3] using Od.start w w2 AL cL AK cK r R.1 A1 c1 A2 c2, by simp [Iv.upd, hi, hd, h5], by simp [Iv.upd, hi, hd, h5, e6, e7]⟩
    · rintro f a0 y Q' ⟨A1, c1, A2, c2, rfl, hw⟩ hi hd hQ
      replace hQ := Lib.hid hQ
      simp [Iv.depsB, Region.binds] at hd
      try simp only [hi, hd, sl_true, sl_false, so_true, so_false]
      try simp only [hi, sl_true, sl_false, so_true, so_false]
      obtain ⟨e9, ey⟩ := hw.1.zero hi
      subst ey
      obtain ⟨e6, e7⟩ := hw.2.2 hi
      clear hw
      have d0 : f 0 = true := by simp [hd]
      have d1 : f 1 = true := by simp [hd]
      have d4 : f 4 = true := by simp [hd]
      try simp only [d0, d1, d4, sl_true]
      have HR2 := Lib.hid (HRA.out w2.drew (HB12.out.trans ((drew_below w2 1).mono HB12.out.size)))
      go_wp2_with fail
      refine HR2.out.mono ?_
      rintro e y1 ⟨B1, e1, B2, e2, rfl, hb3, hmm⟩
      have HO := Lib.hid (Od.made (w := w) hb3 hmm)
      clear hb3 hmm HR2
      go_wp2_with fail
      refine hQ.out _ _ ⟨B1, e1, B2, e2, ?_, ?_⟩
      · simp [Iv.upd, hi, hd, e9, e6, e7, d0, d1, d4, sl_true, sl_false, so_true, so_false]
      · simpa [Iv.upd, hi, hd, e9, d0, d1, d4] using HO.out
    · rintro f a0 y Q' ⟨A1, c1, A2, c2, rfl, hw⟩ hi hd hQ
      replace hQ := Lib.hid hQ
      simp [Iv.depsB, Region.binds] at hd
      try simp only [hi, hd, sl_true, sl_false, so_true, so_false]
      try simp only [hi, sl_true, sl_false, so_true, so_false]
      have HWW := Lib.hid hw
      clear hw
      go_wp2_with fail
      refine hQ.out _ _ ⟨A1, c1, A2, c2, ?_, ?_⟩
      · simp [Iv.upd, hi, hd, sl_true, sl_false, so_true, so_false]
      · simpa [Iv.upd, hi, hd] using HWW.out
    · rintro f a0 y Q' ⟨A1, c1, A2, c2, rfl, hw⟩ hi hd hQ
      replace hQ := Lib.hid hQ
      simp [Iv.depsB, Region.binds] at hd
      try simp only [hi, hd, sl_true, sl_false, so_true, so_false]
      try simp only [hi, sl_true, sl_false, so_true, so_false]
      have HWW := Lib.hid hw
      clear hw
      go_wp2_with fail
      refine hQ.out _ _ ⟨A1, c1, A2, c2, ?_, ?_⟩
      · simp [Iv.upd, hi, hd, sl_true, sl_false, so_true, so_false]
      · simpa [Iv.upd, hi, hd] using HWW.out
    · rintro f a0 y Q' ⟨A1, c1, A2, c2, rfl, hw⟩ hi hd hQ
      replace hQ := Lib.hid hQ
      simp [Iv.depsB, Region.binds] at hd
      try simp only [hi, hd, sl_true, sl_false, so_true, so_false]
      try simp only [hi, sl_true, sl_false, so_true, so_false]
      have HWW := Lib.hid hw
      clear hw
      go_wp2_with fail
      refine hQ.out _ _ ⟨A1, c1, A2, c2, ?_, ?_⟩
      · simp [Iv.upd, hi, hd, sl_true, sl_false, so_true, so_false]
      · simpa [Iv.upd, hi, hd] using HWW.out
    · rintro f a0 y Q' ⟨A1, c1, A2, c2, rfl, hw⟩ hi hd hQ
      replace hQ := Lib.hid hQ
      simp [Iv.depsB, Region.binds] at hd
      try simp only [hi, hd, sl_true, sl_false, so_true, so_false]
      try simp only [hi, sl_true, sl_false, so_true, so_false]
      have d5 : f 5 = true := by simp [hd]
      have d7 : f 7 = true := by simp [hd]
      try simp only [d5, d7, sl_true]
      obtain ⟨hb3, hmm⟩ := hw.1.one d5 hi
      obtain ⟨⟨⟨k0, k1, k2, k3, k4⟩, k5, k6, k7, k8, k9⟩, z4⟩ := (hq2.out.call hb3).facts
      have HO := Lib.hid (Od.stored (w := w) hb3 hmm)
      obtain ⟨d0, d1, d4⟩ := hw.2.1 d5
      clear hw
      clear hb3 hmm
      go_wp2_with fail
      refine hQ.out _ _ ⟨A1, c1, A2, c2, ?_, ?_⟩
      · simp [Iv.upd, hi, hd, d5, d7, d0, d1, d4, sl_true, sl_false, so_true, so_false]
      · refine ⟨by simpa [Iv.upd, hi, d5] using HO.out, by simp [Iv.upd, d0, d1, d4], by simp [Iv.upd, d5]⟩
    · rintro f a0 y Q' ⟨A1, c1, A2, c2, rfl, hw⟩ hi hd hQ
      replace hQ := Lib.hid hQ
      simp [Iv.depsB, Region.binds] at hd
      try simp only [hi, hd, sl_true, sl_false, so_true, so_false]
      try simp only [hi, sl_true, sl_false, so_true, so_false]
      have HWW := Lib.hid hw
      clear hw
      go_wp2_with fail
      refine hQ.out _ _ ⟨A1, c1, A2, c2, ?_, ?_⟩
      · simp [Iv.upd, hi, hd, sl_true, sl_false, so_true, so_false]
      · simpa [Iv.upd, hi, hd] using HWW.out
  · rintro f a0 y ⟨A1, c1, A2, c2, rfl, hw⟩ hall
    simp only [hall 0 (by decide), hall 1 (by decide), hall 2 (by decide), hall 3 (by decide), hall 4 (by decide), hall 5 (by decide), hall 6 (by decide), hall 7 (by decide), hall 8 (by decide), hall 9 (by decide), hall 10 (by decide), sl_true, ↓reduceIte, so_true, so_false] at hw ⊢
    clear hall
    obtain ⟨w3, hb3, hmm, rfl⟩ := hw.1.two rfl
    have HB3 := Lib.hid hb3
    have HMM := Lib.hid hmm
    have HZ3 : Hid (Zo w w3 w3 _) := Lib.hid ⟨hq2.out.st.call hb3, Off.refl _ _⟩
    have HSN3 := Lib.hid (HSN.out.call hb3)
    have hz3 := hb3.size
    have hz4 : w.heap.size + 3 ≤ w2.heap.size := by omega
    clear hw hb3 hmm hq2 HSN HRA
    have hq4 := Lib.hid (HZ3.out.m5 (.slice A1 R.1.logs.length c1) (.int .i64 R.1.acts) (.bool R.1.off) (.int .i64 R.1.armed) (.slice A2 R.1.keep.length c2))
    have he := HE.out
    rw [he] at *
    go_upto_region 12 with fail
    generalize (((((w3.setCell ⟨w.heap.size, 0, none⟩ (.slice A1 R.1.logs.length c1)).setCell ⟨w.heap.size, 1, none⟩ (.int .i64 R.1.acts)).setCell ⟨w.heap.size, 2, none⟩ (.bool R.1.off)).setCell ⟨w.heap.size, 3, none⟩ (.int .i64 R.1.armed)).setCell ⟨w.heap.size, 4, none⟩ (.slice A2 R.1.keep.length c2)) = w4 at *
    skip
    obtain ⟨⟨⟨k0, k1, k2, k3, k4⟩, k5, k6, k7, k8, k9⟩, z4⟩ := hq4.out.facts
    obtain ⟨⟨⟨n0, n1, n2, n3, n4⟩, n5, n6, n7, n8, n9⟩, ⟨⟨o0, o1, o2, o3⟩, o4, o5, o6, o7⟩⟩ := hq4.out.outs
    clear HZ3
    go_wp2_with fail
    refine bodyPost_ret (by simp [results, Try.results35, go_sem, k0, k1, k2, k3, k4, n0, n1, n2, n3, n4, o0, o1, o2, o3]; try rfl) rfl ?_
    refine HT.out w2 w3 w3 _ A1 c1 A2 c2 A6 c6 HB12.out hz4 HB3.out HMM.out ?_ HSN3.out ?_
    all_goals
      repeat with_reducible first
        | exact hq4.out.off
        | refine Off.drew ?_
        | refine Off.set ?_ (.inl (box3_at w 1 (by omega))) _
        | refine Off.set ?_ (.inl (box3_at w 2 (by omega))) _

set_option maxHeartbeats 8000000 in
theorem ropen_swap_err (r : Rf) (o : Rok r) (G0 : Nat → Prop) (AL : Option Addr) (cL : Nat) (AK : Option Addr) (cK : Nat) (log : Int) (hlog : W64 log) (hin : 0 ≤ log ∧ log < r.logs.length) (w : World) (hm : IsM G0 w AL cL AK cK r) (hoff : r.off = false) (hbl : (r.bytes log).length ≤ 4194304) (hn : (scan (r.bytes log)).2 < (r.bytes log).length) (he : (r.act 2 log ((r.bytes log).take (scan (r.bytes log)).2)).2 ≠ 0) :
    Calls Try.prog 35 #[vM AL cL AK cK r, .int .i64 log] w (RWOpens w r AL cL AK cK ((r.act 2 log ((r.bytes log).take (scan (r.bytes log)).2)).1, Rw.none, (r.act 2 log ((r.bytes log).take (scan (r.bytes log)).2)).2)) := by
  have HBY := Lib.hid (fun w' (hb : Below w.heap.size w w') => by
    have h := rbytes_any r o G0 AL cL AK cK log hlog w' (hm.call hb)
    rwa [decide_eq_true hin] at h)
  have HSC := Lib.hid (fun w' => rscan_any (r.bytes log) w' hbl)
  unfold RScans at HSC
  have HT : Hid (∀ w1 w2 wf A1 c1 A2 c2, Below w.heap.size w w1 → w.heap.size + 3 ≤ w1.heap.size → Below w1.heap.size w1 w2 → (∀ G, IsM G w1 AL cL AK cK r → IsM (fun b => G b ∨ w1.heap.size ≤ b) w2 A1 c1 A2 c2 (r.act 2 log ((r.bytes log).take (scan (r.bytes log)).2)).1) → Off (Box3 w) w2 wf →
      RWOpens w r AL cL AK cK ((r.act 2 log ((r.bytes log).take (scan (r.bytes log)).2)).1, Rw.none, (r.act 2 log ((r.bytes log).take (scan (r.bytes log)).2)).2) (.returned (.tuple #[vM A1 c1 A2 c2 (r.act 2 log ((r.bytes log).take (scan (r.bytes log)).2)).1, .agg #[.int .i64 0, .slice none 0 0, .int .i64 0, .bool false], .int .i64 (r.act 2 log ((r.bytes log).take (scan (r.bytes log)).2)).2])) wf) := Lib.hid fun w1 w2 wf A1 c1 A2 c2 hb1 h4 hb2 hmm ho =>
    ropen_told (u' := Rw.none) (A3 := none) (c3 := 0) (wl := wf) hb1 h4 hb2 hmm ho (seen_none _ _) (Off.refl _ _)
  have hsz : (txt (r.bytes log)).size = (r.bytes log).length := txt_size _
  have hle : (scan (r.bytes log)).2 ≤ (r.bytes log).length := scan_le _
  have H0 := (((St.start w).alloc w.heap.size rfl 30 #[.slice AL r.logs.length cL, .int .i64 r.acts, .bool false, .int .i64 r.armed, .slice AK r.keep.length cK]).alloc (w.heap.size + 1) (by simp) 30 #[.slice none 0 0, .int .i64 0, .bool false, .int .i64 0, .slice none 0 0]).alloc (w.heap.size + 2) (by simp) 37 #[.int .i64 0, .slice none 0 0, .int .i64 0, .bool false]
  have HST := Lib.hid (H0.few (L' := bxO w.heap.size #[.slice AL r.logs.length cL, .int .i64 r.acts, .bool false, .int .i64 r.armed, .slice AK r.keep.length cK]) (fun r hr => by
    simp only [List.mem_cons, List.not_mem_nil, or_false] at hr ⊢
    rcases hr with h | h | h <;> simp [h]))
  have HEX : Hid ((txt (r.bytes log)).extract 0 (scan (r.bytes log)).2 = txt ((r.bytes log).take (scan (r.bytes log)).2)) := Lib.hid (txt_take _ _ (scan_le _))
  have HRA := Lib.hid (fun w' (hb : Below w.heap.size w w') => ract_any r o G0 AL cL AK cK 2 (w64 2 (by omega)) log hlog ((r.bytes log).take (scan (r.bytes log)).2) (by rw [List.length_take]; omega) w' (hm.call hb))
  have hnI : ((scan (r.bytes log)).2 : Int) < (r.bytes log).length := by omega
  have HE := Lib.hid he
  clear H0 hm o hin he
  generalize r.act 2 log ((r.bytes log).take (scan (r.bytes log)).2) = R at *
  generalize txt ((r.bytes log).take (scan (r.bytes log)).2) = TK at *
  unfold vM at *
  rw [hoff] at *
  generalize r.logs.length = a0 at *
  generalize r.acts = a1 at *
  generalize r.armed = a3 at *
  generalize r.keep.length = a4 at *
  have hsl : (strs (scan (r.bytes log)).1) = (strs (scan (r.bytes log)).1) := rfl
  clear hsl
  generalize hls : (scan (r.bytes log)).1 = ls at *
  generalize (scan (r.bytes log)).2 = nn at *
  generalize r.bytes log = bs at *
  clear hls
  go_enter Try.func35, Try.ntmps35
  go_wp2_with fail
  refine (HBY.out _ HST.out.below).mono ?_
  rintro e w1 ⟨rfl, hb⟩
  have H1 := Lib.hid (HST.out.call hb)
  have hz1 : Zo w w1 w1 _ := ⟨H1.out, Off.refl _ _⟩
  obtain ⟨⟨⟨k0, k1, k2, k3, k4⟩, k5, k6, k7, k8, k9⟩, z4⟩ := hz1.facts
  have HB1 : Hid (Below w.heap.size w w1) := Lib.hid H1.out.below
  clear hb HBY HST
  go_wp2_with fail
  refine (HSC.out _).mono ?_
  rintro e w2 ⟨v2, rfl, ho2, hb2⟩
  obtain ⟨A6, c6, rfl, e61, e62, e63⟩ := own_slice0 ho2
  have hz2 := hb2.size
  have hz13 : w.heap.size + 3 ≤ w1.heap.size := by omega
  have HSN : Hid (Seen (fun b => w.heap.size + 3 ≤ b) w2 1 A6 ls.length c6 (strs ls)) := Lib.hid ((Seen.own (B := w1.heap.size) ho2).mono fun b _ hb => Nat.le_trans hz13 hb)
  have HB2 := Lib.hid hb2
  have hq2 : Hid (Zo w w1 w2 _) := Lib.hid (hz1.call hb2)
  clear k0 k1 k2 k3 k4 k5 k6 k7 k8 k9 z4
  clear hz1 H1 HSC ho2 hb2
  obtain ⟨⟨⟨k0, k1, k2, k3, k4⟩, k5, k6, k7, k8, k9⟩, z4⟩ := hq2.out.facts
  have HB12 : Hid (Below w.heap.size w w2) := Lib.hid hq2.out.st.below
  have hex := HEX.out
  have hle2 : nn ≤ bs.length := hle
  go_wp2_with fail
  refine Iv.region (fun f aa y => ∃ A1 c1 A2 c2, aa = ⟨#[.agg #[.slice AL a0 cL, .int .i64 a1, .bool false, .int .i64 a3, .slice AK a4 cK], .int .i64 log, .pointer (some ⟨w.heap.size, 0, none⟩), undef, .pointer (some ⟨w.heap.size + 1, 0, none⟩), .pointer (some ⟨w.heap.size + 1 + 1, 0, none⟩), .int .i64 0, .string (txt bs), .bool true, .slice A6 ls.length c6, .int .i64 nn, so (f 10) (.int .i64 R.2) (.int .i64 0), .tuple #[.string (txt bs), .bool true], .agg #[.slice AL a0 cL, .int .i64 a1, .bool false, .int .i64 a3, .slice AK a4 cK], .int .i64 log, .tuple #[.string (txt bs), .bool true], .string (txt bs), .bool true, .bool true, .bool false, undef, undef, .pointer (some ⟨w.heap.size, 2, none⟩), .bool false, undef, undef, .tuple #[.slice A6 ls.length c6, .int .i64 nn], .string (txt bs), .tuple #[.slice A6 ls.length c6, .int .i64 nn], .slice A6 ls.length c6, .int .i64 nn, .int .i64 nn, .string (txt bs), .int .i64 bs.length, .bool true, sl (f 6) (.tuple #[.agg #[.slice A1 R.1.logs.length c1, .int .i64 R.1.acts, .bool R.1.off, .int .i64 R.1.armed, .slice A2 R.1.keep.length c2], .int .i64 R.2]), sl (f 0) (.agg #[.slice AL a0 cL, .int .i64 a1, .bool false, .int .i64 a3, .slice AK a4 cK]), sl (f 1) (.int .i64 log), sl (f 2) (.string (txt bs)), sl (f 3) (.int .i64 nn), sl (f 4) (.string TK), sl (f 5) (.tuple #[.agg #[.slice A1 R.1.logs.length c1, .int .i64 R.1.acts, .bool R.1.off, .int .i64 R.1.armed, .slice A2 R.1.keep.length c2], .int .i64 R.2]), sl (f 7) (.agg #[.slice A1 R.1.logs.length c1, .int .i64 R.1.acts, .bool R.1.off, .int .i64 R.1.armed, .slice A2 R.1.keep.length c2]), sl (f 8) (.int .i64 R.2), undef, undef, undef, undef, undef, undef, undef, undef, undef, undef, undef, undef, undef, undef, undef, undef, undef, undef, undef, undef, undef, undef, undef, undef, undef], []⟩ ∧ Od w w2 AL cL AK cK r R.1 A1 c1 A2 c2 (f 5) (f 9) y ∧ (f 5 = true → f 0 = true ∧ f 1 = true ∧ f 4 = true) ∧ (f 5 = false → f 6 = false ∧ f 7 = false)) (by kernel_rfl) (by kernel_rfl) ?_ ?_ ?_
  · exact ⟨none, 0, none, 0, rfl, Od.start _ _ _ _ _ _ _ _ _ _ _ _, (fun h => by cases h), fun _ => ⟨rfl, rfl⟩⟩
  · refine ⟨?_, ?_, ?_, ?_, ?_, ?_, ?_, ?_, ?_, ?_, ?_, trivial⟩
    · rintro f a0 y Q' ⟨A1, c1, A2, c2, rfl, hw⟩ hi hd hQ
      replace hQ := Lib.hid hQ
      simp [Iv.depsB, Region.binds] at hd
      try simp only [hi, hd, sl_true, sl_false, so_true, so_false]
      try simp only [hi, sl_true, sl_false, so_true, so_false]
      have h5 : f 5 = false := by
        cases e5 : f 5 with
        | false => rfl
        | true => have := hw.2.1 e5; simp [hi] at this
      obtain ⟨e9, ey⟩ := hw.1.zero h5
      obtain ⟨e6, e7⟩ := hw.2.2 h5
      subst ey
      obtain ⟨⟨⟨k0, k1, k2, k3, k4⟩, k5, k6, k7, k8, k9⟩, z4⟩ := (hq2.out.call (drew_below w2 1)).facts
      clear hw
      go_wp2_with fail
      refine hQ.out _ _ ⟨A1, c1, A2, c2, ?_, ?_⟩
      · simp [Iv.upd, hi, hd, h5, e9, e6, e7, sl_true, sl_false, so_true, so_false]
      · refine ⟨by simpa [Iv.upd, hi, hd, h5, e9] using Od.start w w2 AL cL AK cK r R.1 A1 c1 A2 c2, by simp [Iv.upd, hi, hd, h5], by simp [Iv.upd, hi, hd, h5, e6, e7]⟩
    · rintro f a0 y Q' ⟨A1, c1, A2, c2, rfl, hw⟩ hi hd hQ
      replace hQ := Lib.hid hQ
      simp [Iv.depsB, Region.binds] at hd
      try simp only [hi, hd, sl_true, sl_false, so_true, so_false]
      try simp only [hi, sl_true, sl_false, so_true, so_false]
      have h5 : f 5 = false := by
        cases e5 : f 5 with
        | false => rfl
        | true => have := hw.2.1 e5; simp [hi] at this
      obtain ⟨e9, ey⟩ := hw.1.zero h5
      obtain ⟨e6, e7⟩ := hw.2.2 h5
      subst ey
      clear hw
      go_wp2_with fail
      refine hQ.out _ _ ⟨A1, c1, A2, c2, ?_, ?_⟩
      · simp [Iv.upd, hi, hd, h5, e9, e6, e7, sl_true, sl_false, so_true, so_false]
      · refine ⟨by simpa [Iv.upd, hi, hd, h5, e9] using Od.start w w2 AL cL AK cK r R.1 A1 c1 A2 c2, by simp [Iv.upd, hi, hd, h5], by simp [Iv.upd, hi, hd, h5, e6, e7]⟩
    · rintro f a0 y Q' ⟨A1, c1, A2, c2, rfl, hw⟩ hi hd hQ
      replace hQ := Lib.hid hQ
      simp [Iv.depsB, Region.binds] at hd
      try simp only [hi, hd, sl_true, sl_false, so_true, so_false]
      try simp only [hi, sl_true, sl_false, so_true, so_false]
      have HWW := Lib.hid hw
      clear hw
      go_wp2_with fail
      refine hQ.out _ _ ⟨A1, c1, A2, c2, ?_, ?_⟩
      · simp [Iv.upd, hi, hd, sl_true, sl_false, so_true, so_false]
      · simpa [Iv.upd, hi, hd] using HWW.out
    · rintro f a0 y Q' ⟨A1, c1, A2, c2, rfl, hw⟩ hi hd hQ
      replace hQ := Lib.hid hQ
      simp [Iv.depsB, Region.binds] at hd
      try simp only [hi, hd, sl_true, sl_false, so_true, so_false]
      try simp only [hi, sl_true, sl_false, so_true, so_false]
      have HWW := Lib.hid hw
      clear hw
      go_wp2_with fail
      refine hQ.out _ _ ⟨A1, c1, A2, c2, ?_, ?_⟩
      · simp [Iv.upd, hi, hd, sl_true, sl_false, so_true, so_false]
      · simpa [Iv.upd, hi, hd] using HWW.out
    · rintro f a0 y Q' ⟨A1, c1, A2, c2, rfl, hw⟩ hi hd hQ
      replace hQ := Lib.hid hQ
      simp [Iv.depsB, Region.binds] at hd
      try simp only [hi, hd, sl_true, sl_false, so_true, so_false]
      try simp only [hi, sl_true, sl_false, so_true, so_false]
      have h5 : f 5 = false := by
        cases e5 : f 5 with
        | false => rfl
        | true => have := hw.2.1 e5; simp [hi] at this
      obtain ⟨e9, ey⟩ := hw.1.zero h5
      obtain ⟨e6, e7⟩ := hw.2.2 h5
      subst ey
      have d2 : f 2 = true := by simp [hd]
      have d3 : f 3 = true := by simp [hd]
      try simp only [d2, d3, sl_true]
      clear hw
      go_wp2_with fail
      refine hQ.out _ _ ⟨A1, c1, A2, c2, ?_, ?_⟩
      · simp [Iv.upd, hi, hd, h5, e9, d2, d3, e6, e7, sl_true, sl_false, so_true, so_false]
      · refine ⟨by simpa [Iv.upd, hi, hd, h5, e9, d2, d3] using Od.start w w2 AL cL AK cK r R.1 A1 c1 A2 c2, by simp [Iv.upd, hi, hd, h5], by simp [Iv.upd, hi, hd, h5, e6, e7]⟩
    · rintro f a0 y Q' ⟨A1, c1, A2, c2, rfl, hw⟩ hi hd hQ
      replace hQ := Lib.hid hQ
      simp [Iv.depsB, Region.binds] at hd
      try simp only [hi, hd, sl_true, sl_false, so_true, so_false]
      try simp only [hi, sl_true, sl_false, so_true, so_false]
      obtain ⟨e9, ey⟩ := hw.1.zero hi
      subst ey
      obtain ⟨e6, e7⟩ := hw.2.2 hi
      clear hw
      have d0 : f 0 = true := by simp [hd]
      have d1 : f 1 = true := by simp [hd]
      have d4 : f 4 = true := by simp [hd]
      try simp only [d0, d1, d4, sl_true]
      have HR2 := Lib.hid (HRA.out w2.drew (HB12.out.trans ((drew_below w2 1).mono HB12.out.size)))
      go_wp2_with fail
      refine HR2.out.mono ?_
      rintro e y1 ⟨B1, e1, B2, e2, rfl, hb3, hmm⟩
      have HO := Lib.hid (Od.made (w := w) hb3 hmm)
      clear hb3 hmm HR2
      go_wp2_with fail
      refine hQ.out _ _ ⟨B1, e1, B2, e2, ?_, ?_⟩
      · simp [Iv.upd, hi, hd, e9, e6, e7, d0, d1, d4, sl_true, sl_false, so_true, so_false]
      · simpa [Iv.upd, hi, hd, e9, d0, d1, d4] using HO.out
    · rintro f a0 y Q' ⟨A1, c1, A2, c2, rfl, hw⟩ hi hd hQ
      replace hQ := Lib.hid hQ
      simp [Iv.depsB, Region.binds] at hd
      try simp only [hi, hd, sl_true, sl_false, so_true, so_false]
      try simp only [hi, sl_true, sl_false, so_true, so_false]
      have HWW := Lib.hid hw
      clear hw
      go_wp2_with fail
      refine hQ.out _ _ ⟨A1, c1, A2, c2, ?_, ?_⟩
      · simp [Iv.upd, hi, hd, sl_true, sl_false, so_true, so_false]
      · simpa [Iv.upd, hi, hd] using HWW.out
    · rintro f a0 y Q' ⟨A1, c1, A2, c2, rfl, hw⟩ hi hd hQ
      replace hQ := Lib.hid hQ
      simp [Iv.depsB, Region.binds] at hd
      try simp only [hi, hd, sl_true, sl_false, so_true, so_false]
      try simp only [hi, sl_true, sl_false, so_true, so_false]
      have HWW := Lib.hid hw
      clear hw
      go_wp2_with fail
      refine hQ.out _ _ ⟨A1, c1, A2, c2, ?_, ?_⟩
      · simp [Iv.upd, hi, hd, sl_true, sl_false, so_true, so_false]
      · simpa [Iv.upd, hi, hd] using HWW.out
    · rintro f a0 y Q' ⟨A1, c1, A2, c2, rfl, hw⟩ hi hd hQ
      replace hQ := Lib.hid hQ
      simp [Iv.depsB, Region.binds] at hd
      try simp only [hi, hd, sl_true, sl_false, so_true, so_false]
      try simp only [hi, sl_true, sl_false, so_true, so_false]
      have HWW := Lib.hid hw
      clear hw
      go_wp2_with fail
      refine hQ.out _ _ ⟨A1, c1, A2, c2, ?_, ?_⟩
      · simp [Iv.upd, hi, hd, sl_true, sl_false, so_true, so_false]
      · simpa [Iv.upd, hi, hd] using HWW.out
    · rintro f a0 y Q' ⟨A1, c1, A2, c2, rfl, hw⟩ hi hd hQ
      replace hQ := Lib.hid hQ
      simp [Iv.depsB, Region.binds] at hd
      try simp only [hi, hd, sl_true, sl_false, so_true, so_false]
      try simp only [hi, sl_true, sl_false, so_true, so_false]
      have d5 : f 5 = true := by simp [hd]
      have d7 : f 7 = true := by simp [hd]
      try simp only [d5, d7, sl_true]
      obtain ⟨hb3, hmm⟩ := hw.1.one d5 hi
      obtain ⟨⟨⟨k0, k1, k2, k3, k4⟩, k5, k6, k7, k8, k9⟩, z4⟩ := (hq2.out.call hb3).facts
      have HO := Lib.hid (Od.stored (w := w) hb3 hmm)
      obtain ⟨d0, d1, d4⟩ := hw.2.1 d5
      clear hw
      clear hb3 hmm
      go_wp2_with fail
      refine hQ.out _ _ ⟨A1, c1, A2, c2, ?_, ?_⟩
      · simp [Iv.upd, hi, hd, d5, d7, d0, d1, d4, sl_true, sl_false, so_true, so_false]
      · refine ⟨by simpa [Iv.upd, hi, d5] using HO.out, by simp [Iv.upd, d0, d1, d4], by simp [Iv.upd, d5]⟩
    · rintro f a0 y Q' ⟨A1, c1, A2, c2, rfl, hw⟩ hi hd hQ
      replace hQ := Lib.hid hQ
      simp [Iv.depsB, Region.binds] at hd
      try simp only [hi, hd, sl_true, sl_false, so_true, so_false]
      try simp only [hi, sl_true, sl_false, so_true, so_false]
      have HWW := Lib.hid hw
      clear hw
      go_wp2_with fail
      refine hQ.out _ _ ⟨A1, c1, A2, c2, ?_, ?_⟩
      · simp [Iv.upd, hi, hd, sl_true, sl_false, so_true, so_false]
      · simpa [Iv.upd, hi, hd] using HWW.out
  · rintro f a0 y ⟨A1, c1, A2, c2, rfl, hw⟩ hall
    simp only [hall 0 (by decide), hall 1 (by decide), hall 2 (by decide), hall 3 (by decide), hall 4 (by decide), hall 5 (by decide), hall 6 (by decide), hall 7 (by decide), hall 8 (by decide), hall 9 (by decide), hall 10 (by decide), sl_true, ↓reduceIte, so_true, so_false] at hw ⊢
    clear hall
    obtain ⟨w3, hb3, hmm, rfl⟩ := hw.1.two rfl
    have HB3 := Lib.hid hb3
    have HMM := Lib.hid hmm
    have HZ3 : Hid (Zo w w3 w3 _) := Lib.hid ⟨hq2.out.st.call hb3, Off.refl _ _⟩
    have HSN3 := Lib.hid (HSN.out.call hb3)
    have hz3 := hb3.size
    have hz4 : w.heap.size + 3 ≤ w2.heap.size := by omega
    clear hw hb3 hmm hq2 HSN HRA
    have hq4 := Lib.hid (HZ3.out.m5 (.slice A1 R.1.logs.length c1) (.int .i64 R.1.acts) (.bool R.1.off) (.int .i64 R.1.armed) (.slice A2 R.1.keep.length c2))
    have q9 : (R.2 != 0) = true := by simpa using HE.out
    go_upto_region 12 with fail
    generalize (((((w3.setCell ⟨w.heap.size, 0, none⟩ (.slice A1 R.1.logs.length c1)).setCell ⟨w.heap.size, 1, none⟩ (.int .i64 R.1.acts)).setCell ⟨w.heap.size, 2, none⟩ (.bool R.1.off)).setCell ⟨w.heap.size, 3, none⟩ (.int .i64 R.1.armed)).setCell ⟨w.heap.size, 4, none⟩ (.slice A2 R.1.keep.length c2)) = w4 at *
    skip
    obtain ⟨⟨⟨k0, k1, k2, k3, k4⟩, k5, k6, k7, k8, k9⟩, z4⟩ := hq4.out.facts
    obtain ⟨⟨⟨n0, n1, n2, n3, n4⟩, n5, n6, n7, n8, n9⟩, ⟨⟨o0, o1, o2, o3⟩, o4, o5, o6, o7⟩⟩ := hq4.out.outs
    clear HZ3
    go_wp2_with fail
    refine bodyPost_ret (by simp [results, Try.results35, go_sem, k0, k1, k2, k3, k4, n0, n1, n2, n3, n4, o0, o1, o2, o3]; try rfl) rfl ?_
    refine HT.out w2 w3 _ A1 c1 A2 c2 HB12.out hz4 HB3.out HMM.out ?_
    all_goals
      repeat with_reducible first
        | exact hq4.out.off
        | refine Off.drew ?_
        | refine Off.set ?_ (.inl (box3_at w 1 (by omega))) _
        | refine Off.set ?_ (.inl (box3_at w 2 (by omega))) _

end Go.Proofs.Ytlfigbgcackimaa
