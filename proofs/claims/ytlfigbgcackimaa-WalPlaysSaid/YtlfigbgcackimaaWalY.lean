/- The document's wal: its Act, where the disk says yes (written by gwaly.py). -/
import Derived.Test.YtlfigbgcackimaaWalX
namespace Go.Proofs.Ytlfigbgcackimaa
open Go.RowKit Go.Fm Go.Dk Go.Wl
set_option linter.unusedVariables false
set_option linter.unusedSimpArgs false
set_option maxRecDepth 100000

set_option maxHeartbeats 8000000 in
theorem ract_ok1 (w : World) (r : Rf) (o : Rok r) (u : Rw) (hd : u.dead = false) (G0 : Nat → Prop) (AL : Option Addr) (cL : Nat) (AK : Option Addr) (cK : Nat) (AV : Option Addr) (cV : Nat) (hu : IsW G0 w AV cV u) (hul : u.ls.length ≤ 1000000) (kind : Int) (hk : W64 kind) (hkk : kind = 1) (hlog : W64 u.log) (B : Nat) (A : Option Addr) (cap : Nat) (hnil : A = none → cap = 0) (ls : List (List UInt8))
    (hs : Sees w B 1 A ls.length (strs ls)) (hB : B ≤ w.heap.size) (hl : ls.length ≤ 1000) (hlen : ∀ l ∈ ls, l.length ≤ 9223372036854775807) (hlo : ¬ Long ls) (hfr : (frames ls).length ≤ 4194304) (hm : IsM G0 w AL cL AK cK r) (he : (r.act kind u.log (frames ls)).2 = 0) :
    Calls Try.prog 36 #[vM AL cL AK cK r, vW AV cV u, .int .i64 kind, .slice A ls.length cap] w (RActs w r u AL cL AK cK AV cV ((r.act kind u.log (frames ls)).1, u.did kind ls, 0)) := by
  have HF := Lib.hid (fun w' (hb : Below w.heap.size w w') => rframes_any B A cap ls w' (hs.below (hb.mono hB)) (Nat.le_trans hB hb.size) hl hlen)
  have HRA := Lib.hid (fun w' (hb : Below w.heap.size w w') => ract_any r o G0 AL cL AK cK kind hk u.log hlog (frames ls) hfr w' (hm.call hb))
  have HLO := Lib.hid hlo
  have HLS := Lib.hid (fun w' (hb : Below w.heap.size w w') => (hs.below (hb.mono hB)).more hB)
  have HUS := Lib.hid (fun w' (hb : Below w.heap.size w w') => hu.sees.below hb)
  have hun := hu.nil
  have HO1 := Lib.hid (strs_one u.ls)
  have HO2 := Lib.hid (strs_one ls)
  subst hkk
  have HDID : Hid (u.did 1 ls = { u with sure := u.ls.length }) := Lib.hid (by unfold Rw.did; rw [if_neg (by decide), if_pos rfl])
  have HT : Hid (∀ w1 w2 wf A1 c1 A2 c2, Below w.heap.size w w1 → w.heap.size + 4 ≤ w1.heap.size → Below w1.heap.size w1 w2 → (∀ G, IsM G w1 AL cL AK cK r → IsM (fun b => G b ∨ w1.heap.size ≤ b) w2 A1 c1 A2 c2 (r.act 1 u.log (frames ls)).1) → Off (Box w) w2 wf →
      RActs w r u AL cL AK cK AV cV ((r.act 1 u.log (frames ls)).1, u.did 1 ls, 0) (.returned (.tuple #[vM A1 c1 A2 c2 (r.act 1 u.log (frames ls)).1, .agg #[.int .i64 u.log, .slice AV u.ls.length cV, .int .i64 u.ls.length, .bool u.dead], .int .i64 0])) wf) := Lib.hid fun w1 w2 wf A1 c1 A2 c2 hb1 h4 hb2 hmm ho => by
    have := racts_told (u' := u.did 1 ls) (E := 0) (AV := AV) (cV := cV) (u := u) (A3 := AV) (c3 := cV) (wl := w2) hb1 h4 hb2 hmm ho (.inl ⟨rfl, rfl, by rw [HDID.out]⟩)
    rwa [show vW AV cV (u.did 1 ls) = .agg #[.int .i64 u.log, .slice AV u.ls.length cV, .int .i64 u.ls.length, .bool u.dead] by rw [HDID.out]] at this
  have H0 := ((((St.start w).alloc w.heap.size rfl 30 #[.slice AL r.logs.length cL, .int .i64 r.acts, .bool r.off, .int .i64 r.armed, .slice AK r.keep.length cK]).alloc (w.heap.size + 1) (by simp) 37 #[.int .i64 u.log, .slice AV u.ls.length cV, .int .i64 u.sure, .bool false]).alloc (w.heap.size + 2) (by simp) 30 #[.slice none 0 0, .int .i64 0, .bool false, .int .i64 0, .slice none 0 0]).alloc (w.heap.size + 3) (by simp) 37 #[.int .i64 0, .slice none 0 0, .int .i64 0, .bool false]
  have HST := Lib.hid (H0.few (L' := bxL w.heap.size #[.slice AL r.logs.length cL, .int .i64 r.acts, .bool r.off, .int .i64 r.armed, .slice AK r.keep.length cK] #[.int .i64 u.log, .slice AV u.ls.length cV, .int .i64 u.sure, .bool false]) (fun r hr => by
    simp only [List.mem_cons, List.not_mem_nil, or_false] at hr ⊢
    rcases hr with h | h | h | h <;> simp [h]))
  clear H0 hs hlen hlo hm o hu HDID
  unfold vM vW at *
  rw [hd] at *
  generalize (r.act 1 u.log (frames ls)) = R at *
  generalize u.did 1 ls = um at *
  generalize strs ls = sl at *
  generalize strs u.ls = su at *
  generalize frames ls = fr at *
  generalize r.logs.length = a0 at *
  generalize r.acts = a1 at *
  generalize r.off = a2 at *
  generalize r.armed = a3 at *
  generalize r.keep.length = a4 at *
  generalize u.log = u0 at *
  generalize u.ls.length = u1 at *
  generalize u.sure = u2 at *
  generalize ls.length = n at *
  go_enter Try.func36, Try.ntmps36
  go_wp2_with fail
  refine (HF.out _ HST.out.below).mono ?_
  rintro e w1 ⟨hb, -, hx⟩
  obtain rfl := hx HLO.out
  have H1 := Lib.hid (HST.out.call hb)
  obtain ⟨⟨k0, k1, k2, k3⟩, k4, k5, k6, k7⟩ := (H1.out.knows.at 1 rfl).four
  obtain ⟨⟨m0, m1, m2, m3, m4⟩, m5, m6, m7, m8, m9⟩ := (H1.out.knows.at 0 rfl).five
  have z3 := (H1.out.knows.at 3 rfl).lt
  clear hb hx HF HST
  go_wp2_with fail
  refine (HRA.out _ H1.out.below).mono ?_
  rintro e w2 ⟨A1, c1, A2, c2, rfl, hb2, hmm⟩
  have HB2 := Lib.hid hb2
  have HMM := Lib.hid hmm
  have hzs : Zs w w2 w2 _ _ := ⟨H1.out.call hb2, Off.refl _ _⟩
  obtain ⟨⟨⟨k0, k1, k2, k3, k4⟩, k5, k6, k7, k8, k9⟩, ⟨⟨m0, m1, m2, m3⟩, m4, m5, m6, m7⟩, z4⟩ := hzs.facts
  have HB1 : Hid (Below w.heap.size w w1) := Lib.hid H1.out.below
  clear hb2 hmm HRA
  unfold vM at *
  have hq3 := Lib.hid (hzs.m5 (.slice A1 R.1.logs.length c1) (.int .i64 R.1.acts) (.bool R.1.off) (.int .i64 R.1.armed) (.slice A2 R.1.keep.length c2))
  clear hzs H1
  have z2 := HB2.out.size
  have z2 := HB2.out.size
  rw [he] at *
  go_upto_region 7 with fail
  generalize (((((w2.setCell ⟨w.heap.size, 0, none⟩ (.slice A1 R.1.logs.length c1)).setCell ⟨w.heap.size, 1, none⟩ (.int .i64 R.1.acts)).setCell ⟨w.heap.size, 2, none⟩ (.bool R.1.off)).setCell ⟨w.heap.size, 3, none⟩ (.int .i64 R.1.armed)).setCell ⟨w.heap.size, 4, none⟩ (.slice A2 R.1.keep.length c2)) = w3 at *
  clear k0 k1 k2 k3 k4 k5 k6 k7 k8 k9 m0 m1 m2 m3 m4 m5 m6 m7 z4
  obtain ⟨⟨⟨k0, k1, k2, k3, k4⟩, k5, k6, k7, k8, k9⟩, ⟨⟨m0, m1, m2, m3⟩, m4, m5, m6, m7⟩, z4⟩ := hq3.out.facts
  have hq4 := Lib.hid (hq3.out.uk 2 (.int .i64 u1))
  simp only [List.setIfInBounds_toArray, List.set_cons_succ, List.set_cons_zero] at hq4
  go_upto_region 17 with fail
  generalize w3.setCell ⟨w.heap.size + 1, 2, none⟩ (.int .i64 u1) = w4 at *
  clear k0 k1 k2 k3 k4 k5 k6 k7 k8 k9 m0 m1 m2 m3 m4 m5 m6 m7 z4 hq3
  obtain ⟨⟨⟨k0, k1, k2, k3, k4⟩, k5, k6, k7, k8, k9⟩, ⟨⟨m0, m1, m2, m3⟩, m4, m5, m6, m7⟩, z4⟩ := hq4.out.facts
  obtain ⟨⟨⟨n0, n1, n2, n3, n4⟩, n5, n6, n7, n8, n9⟩, ⟨⟨o0, o1, o2, o3⟩, o4, o5, o6, o7⟩⟩ := hq4.out.outs
  go_wp2_with fail
  go_region
  all_goals
    go_wp2_with fail
    refine bodyPost_ret (by simp [results, Try.results36, go_sem, n0, n1, n2, n3, n4, o0, o1, o2, o3]; try rfl) rfl ?_
    refine HT.out w1 w2 _ A1 c1 A2 c2 HB1.out (by omega) HB2.out HMM.out ?_
    all_goals
      repeat with_reducible first
        | exact hq4.out.off
        | exact hq4.out.off
        | refine Off.drew ?_
        | refine Off.set ?_ (.inl (box_at w 1 (by omega))) _
        | refine Off.set ?_ (.inl (box_at w 2 (by omega))) _
        | refine Off.set ?_ (.inl (box_at w 3 (by omega))) _

set_option maxHeartbeats 8000000 in
theorem ract_ok0 (w : World) (r : Rf) (o : Rok r) (u : Rw) (hd : u.dead = false) (G0 : Nat → Prop) (AL : Option Addr) (cL : Nat) (AK : Option Addr) (cK : Nat) (AV : Option Addr) (cV : Nat) (hu : IsW G0 w AV cV u) (hul : u.ls.length ≤ 1000000) (kind : Int) (hk : W64 kind) (hkk : kind = 0) (hlog : W64 u.log) (B : Nat) (A : Option Addr) (cap : Nat) (hnil : A = none → cap = 0) (ls : List (List UInt8))
    (hs : Sees w B 1 A ls.length (strs ls)) (hB : B ≤ w.heap.size) (hl : ls.length ≤ 1000) (hlen : ∀ l ∈ ls, l.length ≤ 9223372036854775807) (hlo : ¬ Long ls) (hfr : (frames ls).length ≤ 4194304) (hm : IsM G0 w AL cL AK cK r) (he : (r.act kind u.log (frames ls)).2 = 0) :
    Calls Try.prog 36 #[vM AL cL AK cK r, vW AV cV u, .int .i64 kind, .slice A ls.length cap] w (RActs w r u AL cL AK cK AV cV ((r.act kind u.log (frames ls)).1, u.did kind ls, 0)) := by
  have HF := Lib.hid (fun w' (hb : Below w.heap.size w w') => rframes_any B A cap ls w' (hs.below (hb.mono hB)) (Nat.le_trans hB hb.size) hl hlen)
  have HRA := Lib.hid (fun w' (hb : Below w.heap.size w w') => ract_any r o G0 AL cL AK cK kind hk u.log hlog (frames ls) hfr w' (hm.call hb))
  have HLO := Lib.hid hlo
  have HLS := Lib.hid (fun w' (hb : Below w.heap.size w w') => (hs.below (hb.mono hB)).more hB)
  have HUS := Lib.hid (fun w' (hb : Below w.heap.size w w') => hu.sees.below hb)
  have hun := hu.nil
  have HO1 := Lib.hid (strs_one u.ls)
  have HO2 := Lib.hid (strs_one ls)
  subst hkk
  have HDID : Hid (u.did 0 ls = { u with ls := u.ls ++ ls }) := Lib.hid (by unfold Rw.did; rw [if_pos rfl])
  have HT : Hid (∀ w1 w2 wl wf A1 c1 A2 c2 A3 c3, Below w.heap.size w w1 → w.heap.size + 4 ≤ w1.heap.size → Below w1.heap.size w1 w2 → (∀ G, IsM G w1 AL cL AK cK r → IsM (fun b => G b ∨ w1.heap.size ≤ b) w2 A1 c1 A2 c2 (r.act 0 u.log (frames ls)).1) → Off (Box w) w2 wf → Seen (fun b => w2.heap.size ≤ b) wl 1 A3 (u.ls.length + ls.length) c3 (strs u.ls ++ strs ls) → Off (Box w) wl wf →
      RActs w r u AL cL AK cK AV cV ((r.act 0 u.log (frames ls)).1, u.did 0 ls, 0) (.returned (.tuple #[vM A1 c1 A2 c2 (r.act 0 u.log (frames ls)).1, .agg #[.int .i64 u.log, .slice A3 (u.ls.length + ls.length) c3, .int .i64 u.sure, .bool u.dead], .int .i64 0])) wf) := Lib.hid fun w1 w2 wl wf A1 c1 A2 c2 A3 c3 hb1 h4 hb2 hmm ho hsn hol => by
    have := racts_told (u' := u.did 0 ls) (E := 0) (AV := AV) (cV := cV) (u := u) (A3 := A3) (c3 := c3) (wl := wl) hb1 h4 hb2 hmm ho (.inr ⟨by rw [HDID.out]; simpa [strs_append] using hsn, hol⟩)
    rwa [show vW A3 c3 (u.did 0 ls) = .agg #[.int .i64 u.log, .slice A3 (u.ls.length + ls.length) c3, .int .i64 u.sure, .bool u.dead] by first | (rw [HDID.out]; done) | (rw [HDID.out]; simp)] at this
  have H0 := ((((St.start w).alloc w.heap.size rfl 30 #[.slice AL r.logs.length cL, .int .i64 r.acts, .bool r.off, .int .i64 r.armed, .slice AK r.keep.length cK]).alloc (w.heap.size + 1) (by simp) 37 #[.int .i64 u.log, .slice AV u.ls.length cV, .int .i64 u.sure, .bool false]).alloc (w.heap.size + 2) (by simp) 30 #[.slice none 0 0, .int .i64 0, .bool false, .int .i64 0, .slice none 0 0]).alloc (w.heap.size + 3) (by simp) 37 #[.int .i64 0, .slice none 0 0, .int .i64 0, .bool false]
  have HST := Lib.hid (H0.few (L' := bxL w.heap.size #[.slice AL r.logs.length cL, .int .i64 r.acts, .bool r.off, .int .i64 r.armed, .slice AK r.keep.length cK] #[.int .i64 u.log, .slice AV u.ls.length cV, .int .i64 u.sure, .bool false]) (fun r hr => by
    simp only [List.mem_cons, List.not_mem_nil, or_false] at hr ⊢
    rcases hr with h | h | h | h <;> simp [h]))
  clear H0 hs hlen hlo hm o hu HDID
  unfold vM vW at *
  rw [hd] at *
  generalize (r.act 0 u.log (frames ls)) = R at *
  generalize u.did 0 ls = um at *
  generalize strs ls = sl at *
  generalize strs u.ls = su at *
  generalize frames ls = fr at *
  generalize r.logs.length = a0 at *
  generalize r.acts = a1 at *
  generalize r.off = a2 at *
  generalize r.armed = a3 at *
  generalize r.keep.length = a4 at *
  generalize u.log = u0 at *
  generalize u.ls.length = u1 at *
  generalize u.sure = u2 at *
  generalize ls.length = n at *
  go_enter Try.func36, Try.ntmps36
  go_wp2_with fail
  refine (HF.out _ HST.out.below).mono ?_
  rintro e w1 ⟨hb, -, hx⟩
  obtain rfl := hx HLO.out
  have H1 := Lib.hid (HST.out.call hb)
  obtain ⟨⟨k0, k1, k2, k3⟩, k4, k5, k6, k7⟩ := (H1.out.knows.at 1 rfl).four
  obtain ⟨⟨m0, m1, m2, m3, m4⟩, m5, m6, m7, m8, m9⟩ := (H1.out.knows.at 0 rfl).five
  have z3 := (H1.out.knows.at 3 rfl).lt
  clear hb hx HF HST
  go_wp2_with fail
  refine (HRA.out _ H1.out.below).mono ?_
  rintro e w2 ⟨A1, c1, A2, c2, rfl, hb2, hmm⟩
  have HB2 := Lib.hid hb2
  have HMM := Lib.hid hmm
  have hzs : Zs w w2 w2 _ _ := ⟨H1.out.call hb2, Off.refl _ _⟩
  obtain ⟨⟨⟨k0, k1, k2, k3, k4⟩, k5, k6, k7, k8, k9⟩, ⟨⟨m0, m1, m2, m3⟩, m4, m5, m6, m7⟩, z4⟩ := hzs.facts
  have HB1 : Hid (Below w.heap.size w w1) := Lib.hid H1.out.below
  clear hb2 hmm HRA
  unfold vM at *
  have hq3 := Lib.hid (hzs.m5 (.slice A1 R.1.logs.length c1) (.int .i64 R.1.acts) (.bool R.1.off) (.int .i64 R.1.armed) (.slice A2 R.1.keep.length c2))
  clear hzs H1
  have z2 := HB2.out.size
  have z2 := HB2.out.size
  rw [he] at *
  go_upto_region 7 with fail
  generalize (((((w2.setCell ⟨w.heap.size, 0, none⟩ (.slice A1 R.1.logs.length c1)).setCell ⟨w.heap.size, 1, none⟩ (.int .i64 R.1.acts)).setCell ⟨w.heap.size, 2, none⟩ (.bool R.1.off)).setCell ⟨w.heap.size, 3, none⟩ (.int .i64 R.1.armed)).setCell ⟨w.heap.size, 4, none⟩ (.slice A2 R.1.keep.length c2)) = w3 at *
  clear k0 k1 k2 k3 k4 k5 k6 k7 k8 k9 m0 m1 m2 m3 m4 m5 m6 m7 z4
  obtain ⟨⟨⟨k0, k1, k2, k3, k4⟩, k5, k6, k7, k8, k9⟩, ⟨⟨m0, m1, m2, m3⟩, m4, m5, m6, m7⟩, z4⟩ := hq3.out.facts
  have HE : Hid ((w3.alloc (.cells #[] 9)).ownsRow w3.heap.size 9 1 (.slice (some ⟨w3.heap.size, 0, none⟩) 0 0) 0 []) := Lib.hid (own_empty w3 9 1)
  have HBA : Hid (Below w.heap.size w (w3.alloc (.cells #[] 9))) := Lib.hid (hq3.out.st.below.alloc hq3.out.st.below.size _)
  have hza : w3.heap.size ≤ (w3.alloc (.cells #[] 9)).heap.size := by simp
  have hz3 := hq3.out.st.below.size
  have hz23 := hq3.out.off.size
  have z5 : w.heap.size + 1 < w3.heap.size := by omega
  have z6 : w.heap.size + 1 ≠ w3.heap.size := by omega
  have HSU := Lib.hid (HUS.out _ HBA.out)
  go_wp2_with (at_builtin; refine wpList_appAt rfl (.tmp 54) (.tmp 56) _ 9 _ 1 16 rfl info_str Try.underlying35 rfl (by decide) w3.heap.size (.slice (some ⟨w3.heap.size, 0, none⟩) 0 0) 0 [] (by rfl) HE.out w.heap.size AV u1 cV su (by rfl) HSU.out hun HO1.out (by omega) (by omega) (by omega) ?_)
  intro v4 w4 ho4 hg4 hat4
  (try rw [Nat.zero_add] at ho4)
  (try rw [List.nil_append] at ho4)
  obtain ⟨A4, c4, rfl, e41, e42, e43⟩ := own_slice0 ho4
  have HO4 := Lib.hid ho4
  have HB34 : Hid (Below w3.heap.size w3 w4) := Lib.hid (((Below.refl w3.heap.size w3).alloc (Nat.le_refl _) _).grown hg4 hza fun k hk => by
    have : some w3.heap.size = some k := hk
    injection this with this; omega)
  have hz34 := HB34.out.size
  have HB4 : Hid (Below w.heap.size w w4) := Lib.hid (hq3.out.st.below.trans (HB34.out.mono hz3))
  have HSL := Lib.hid (HLS.out _ HB4.out)
  clear ho4 hg4 hat4 HSU HE HBA
  go_wp2_with (at_builtin; refine wpList_appAt rfl (.tmp 57) (.tmp 58) _ 9 _ 1 16 rfl info_str Try.underlying35 rfl (by decide) w3.heap.size (.slice A4 u1 c4) u1 su (by rfl) HO4.out w.heap.size A n cap sl (by rfl) HSL.out hnil HO2.out (by omega) (by omega) (by omega) ?_)
  intro v5 w5 ho5 hg5 hat5
  (try rw [Nat.zero_add] at ho5)
  (try rw [List.nil_append] at ho5)
  obtain ⟨A5, c5, rfl, e51, e52, e53⟩ := own_slice0 ho5
  have HO5 := Lib.hid ho5
  have HB35 : Hid (Below w3.heap.size w3 w5) := Lib.hid (HB34.out.grown hg5 hz34 fun k hk => (HO4.out.lt k hk).1)
  have hq5 := Lib.hid (hq3.out.call HB35.out)
  have HSN : Hid (Seen (fun b => w2.heap.size ≤ b) w5 1 A5 (u1 + n) c5 (su ++ sl)) := Lib.hid ((Seen.own HO5.out).mono fun b _ hb => by omega)
  clear ho5 hg5 hat5 HSL HO4 HB34 HB4
  clear k0 k1 k2 k3 k4 k5 k6 k7 k8 k9 m0 m1 m2 m3 m4 m5 m6 m7 z4
  obtain ⟨⟨⟨k0, k1, k2, k3, k4⟩, k5, k6, k7, k8, k9⟩, ⟨⟨m0, m1, m2, m3⟩, m4, m5, m6, m7⟩, z4⟩ := hq5.out.facts
  have hq6 := Lib.hid (hq5.out.uk 1 (.slice A5 (u1 + n) c5))
  simp only [List.setIfInBounds_toArray, List.set_cons_succ, List.set_cons_zero] at hq6
  have HO56 := Lib.hid ((Off.refl (Box w) w5).set (p := ⟨w.heap.size + 1, 1, none⟩) (.inl (box_at w 1 (by omega))) (.slice A5 (u1 + n) c5))
  go_upto_region 17 with fail
  generalize w5.setCell ⟨w.heap.size + 1, 1, none⟩ (.slice A5 (u1 + n) c5) = w6 at *
  clear k0 k1 k2 k3 k4 k5 k6 k7 k8 k9 m0 m1 m2 m3 m4 m5 m6 m7 z4
  obtain ⟨⟨⟨k0, k1, k2, k3, k4⟩, k5, k6, k7, k8, k9⟩, ⟨⟨m0, m1, m2, m3⟩, m4, m5, m6, m7⟩, z4⟩ := hq6.out.facts
  obtain ⟨⟨⟨n0, n1, n2, n3, n4⟩, n5, n6, n7, n8, n9⟩, ⟨⟨o0, o1, o2, o3⟩, o4, o5, o6, o7⟩⟩ := hq6.out.outs
  go_wp2_with fail
  go_region
  all_goals
    go_wp2_with fail
    refine bodyPost_ret (by simp [results, Try.results36, go_sem, n0, n1, n2, n3, n4, o0, o1, o2, o3]; try rfl) rfl ?_
    refine HT.out w1 w2 w5 _ A1 c1 A2 c2 A5 c5 HB1.out (by omega) HB2.out HMM.out ?_ HSN.out ?_
    all_goals
      repeat with_reducible first
        | exact HO56.out
        | exact hq3.out.off.trans (Off.of HB35.out _) |>.trans HO56.out
        | exact hq6.out.off
        | refine Off.drew ?_
        | refine Off.set ?_ (.inl (box_at w 1 (by omega))) _
        | refine Off.set ?_ (.inl (box_at w 2 (by omega))) _
        | refine Off.set ?_ (.inl (box_at w 3 (by omega))) _

set_option maxHeartbeats 8000000 in
theorem ract_ok2 (w : World) (r : Rf) (o : Rok r) (u : Rw) (hd : u.dead = false) (G0 : Nat → Prop) (AL : Option Addr) (cL : Nat) (AK : Option Addr) (cK : Nat) (AV : Option Addr) (cV : Nat) (hu : IsW G0 w AV cV u) (hul : u.ls.length ≤ 1000000) (kind : Int) (hk : W64 kind) (hkk : kind ≠ 0 ∧ kind ≠ 1) (hlog : W64 u.log) (B : Nat) (A : Option Addr) (cap : Nat) (hnil : A = none → cap = 0) (ls : List (List UInt8))
    (hs : Sees w B 1 A ls.length (strs ls)) (hB : B ≤ w.heap.size) (hl : ls.length ≤ 1000) (hlen : ∀ l ∈ ls, l.length ≤ 9223372036854775807) (hlo : ¬ Long ls) (hfr : (frames ls).length ≤ 4194304) (hm : IsM G0 w AL cL AK cK r) (he : (r.act kind u.log (frames ls)).2 = 0) :
    Calls Try.prog 36 #[vM AL cL AK cK r, vW AV cV u, .int .i64 kind, .slice A ls.length cap] w (RActs w r u AL cL AK cK AV cV ((r.act kind u.log (frames ls)).1, u.did kind ls, 0)) := by
  have HF := Lib.hid (fun w' (hb : Below w.heap.size w w') => rframes_any B A cap ls w' (hs.below (hb.mono hB)) (Nat.le_trans hB hb.size) hl hlen)
  have HRA := Lib.hid (fun w' (hb : Below w.heap.size w w') => ract_any r o G0 AL cL AK cK kind hk u.log hlog (frames ls) hfr w' (hm.call hb))
  have HLO := Lib.hid hlo
  have HLS := Lib.hid (fun w' (hb : Below w.heap.size w w') => (hs.below (hb.mono hB)).more hB)
  have HUS := Lib.hid (fun w' (hb : Below w.heap.size w w') => hu.sees.below hb)
  have hun := hu.nil
  have HO1 := Lib.hid (strs_one u.ls)
  have HO2 := Lib.hid (strs_one ls)
  have HDID : Hid (u.did kind ls = { u with ls := ls, sure := ls.length }) := Lib.hid (by unfold Rw.did; rw [if_neg hkk.1, if_neg hkk.2])
  have HT : Hid (∀ w1 w2 wl wf A1 c1 A2 c2 A3 c3, Below w.heap.size w w1 → w.heap.size + 4 ≤ w1.heap.size → Below w1.heap.size w1 w2 → (∀ G, IsM G w1 AL cL AK cK r → IsM (fun b => G b ∨ w1.heap.size ≤ b) w2 A1 c1 A2 c2 (r.act kind u.log (frames ls)).1) → Off (Box w) w2 wf → Seen (fun b => w2.heap.size ≤ b) wl 1 A3 (ls.length) c3 (strs ls) → Off (Box w) wl wf →
      RActs w r u AL cL AK cK AV cV ((r.act kind u.log (frames ls)).1, u.did kind ls, 0) (.returned (.tuple #[vM A1 c1 A2 c2 (r.act kind u.log (frames ls)).1, .agg #[.int .i64 u.log, .slice A3 (ls.length) c3, .int .i64 ls.length, .bool u.dead], .int .i64 0])) wf) := Lib.hid fun w1 w2 wl wf A1 c1 A2 c2 A3 c3 hb1 h4 hb2 hmm ho hsn hol => by
    have := racts_told (u' := u.did kind ls) (E := 0) (AV := AV) (cV := cV) (u := u) (A3 := A3) (c3 := c3) (wl := wl) hb1 h4 hb2 hmm ho (.inr ⟨by rw [HDID.out]; simpa [strs_append] using hsn, hol⟩)
    rwa [show vW A3 c3 (u.did kind ls) = .agg #[.int .i64 u.log, .slice A3 (ls.length) c3, .int .i64 ls.length, .bool u.dead] by first | (rw [HDID.out]; done) | (rw [HDID.out]; simp)] at this
  have H0 := ((((St.start w).alloc w.heap.size rfl 30 #[.slice AL r.logs.length cL, .int .i64 r.acts, .bool r.off, .int .i64 r.armed, .slice AK r.keep.length cK]).alloc (w.heap.size + 1) (by simp) 37 #[.int .i64 u.log, .slice AV u.ls.length cV, .int .i64 u.sure, .bool false]).alloc (w.heap.size + 2) (by simp) 30 #[.slice none 0 0, .int .i64 0, .bool false, .int .i64 0, .slice none 0 0]).alloc (w.heap.size + 3) (by simp) 37 #[.int .i64 0, .slice none 0 0, .int .i64 0, .bool false]
  have HST := Lib.hid (H0.few (L' := bxL w.heap.size #[.slice AL r.logs.length cL, .int .i64 r.acts, .bool r.off, .int .i64 r.armed, .slice AK r.keep.length cK] #[.int .i64 u.log, .slice AV u.ls.length cV, .int .i64 u.sure, .bool false]) (fun r hr => by
    simp only [List.mem_cons, List.not_mem_nil, or_false] at hr ⊢
    rcases hr with h | h | h | h <;> simp [h]))
  clear H0 hs hlen hlo hm o hu HDID
  unfold vM vW at *
  rw [hd] at *
  generalize (r.act kind u.log (frames ls)) = R at *
  generalize u.did kind ls = um at *
  generalize strs ls = sl at *
  generalize strs u.ls = su at *
  generalize frames ls = fr at *
  generalize r.logs.length = a0 at *
  generalize r.acts = a1 at *
  generalize r.off = a2 at *
  generalize r.armed = a3 at *
  generalize r.keep.length = a4 at *
  generalize u.log = u0 at *
  generalize u.ls.length = u1 at *
  generalize u.sure = u2 at *
  generalize ls.length = n at *
  go_enter Try.func36, Try.ntmps36
  go_wp2_with fail
  refine (HF.out _ HST.out.below).mono ?_
  rintro e w1 ⟨hb, -, hx⟩
  obtain rfl := hx HLO.out
  have H1 := Lib.hid (HST.out.call hb)
  obtain ⟨⟨k0, k1, k2, k3⟩, k4, k5, k6, k7⟩ := (H1.out.knows.at 1 rfl).four
  obtain ⟨⟨m0, m1, m2, m3, m4⟩, m5, m6, m7, m8, m9⟩ := (H1.out.knows.at 0 rfl).five
  have z3 := (H1.out.knows.at 3 rfl).lt
  clear hb hx HF HST
  go_wp2_with fail
  refine (HRA.out _ H1.out.below).mono ?_
  rintro e w2 ⟨A1, c1, A2, c2, rfl, hb2, hmm⟩
  have HB2 := Lib.hid hb2
  have HMM := Lib.hid hmm
  have hzs : Zs w w2 w2 _ _ := ⟨H1.out.call hb2, Off.refl _ _⟩
  obtain ⟨⟨⟨k0, k1, k2, k3, k4⟩, k5, k6, k7, k8, k9⟩, ⟨⟨m0, m1, m2, m3⟩, m4, m5, m6, m7⟩, z4⟩ := hzs.facts
  have HB1 : Hid (Below w.heap.size w w1) := Lib.hid H1.out.below
  clear hb2 hmm HRA
  unfold vM at *
  have hq3 := Lib.hid (hzs.m5 (.slice A1 R.1.logs.length c1) (.int .i64 R.1.acts) (.bool R.1.off) (.int .i64 R.1.armed) (.slice A2 R.1.keep.length c2))
  clear hzs H1
  have z2 := HB2.out.size
  have z2 := HB2.out.size
  rw [he] at *
  go_upto_region 7 with fail
  generalize (((((w2.setCell ⟨w.heap.size, 0, none⟩ (.slice A1 R.1.logs.length c1)).setCell ⟨w.heap.size, 1, none⟩ (.int .i64 R.1.acts)).setCell ⟨w.heap.size, 2, none⟩ (.bool R.1.off)).setCell ⟨w.heap.size, 3, none⟩ (.int .i64 R.1.armed)).setCell ⟨w.heap.size, 4, none⟩ (.slice A2 R.1.keep.length c2)) = w3 at *
  clear k0 k1 k2 k3 k4 k5 k6 k7 k8 k9 m0 m1 m2 m3 m4 m5 m6 m7 z4
  obtain ⟨⟨⟨k0, k1, k2, k3, k4⟩, k5, k6, k7, k8, k9⟩, ⟨⟨m0, m1, m2, m3⟩, m4, m5, m6, m7⟩, z4⟩ := hq3.out.facts
  obtain ⟨kk0, kk1⟩ := hkk
  have HE : Hid ((w3.alloc (.cells #[] 9)).ownsRow w3.heap.size 9 1 (.slice (some ⟨w3.heap.size, 0, none⟩) 0 0) 0 []) := Lib.hid (own_empty w3 9 1)
  have HBA : Hid (Below w.heap.size w (w3.alloc (.cells #[] 9))) := Lib.hid (hq3.out.st.below.alloc hq3.out.st.below.size _)
  have hza : w3.heap.size ≤ (w3.alloc (.cells #[] 9)).heap.size := by simp
  have hz3 := hq3.out.st.below.size
  have hz23 := hq3.out.off.size
  have z5 : w.heap.size + 1 < w3.heap.size := by omega
  have z6 : w.heap.size + 1 ≠ w3.heap.size := by omega
  have HSL := Lib.hid (HLS.out _ HBA.out)
  go_wp2_with (at_builtin; refine wpList_appAt rfl (.tmp 45) (.tmp 46) _ 9 _ 1 16 rfl info_str Try.underlying35 rfl (by decide) w3.heap.size (.slice (some ⟨w3.heap.size, 0, none⟩) 0 0) 0 [] (by rfl) HE.out w.heap.size A n cap sl (by rfl) HSL.out hnil HO2.out (by omega) (by omega) (by omega) ?_)
  intro v5 w5 ho5 hg5 hat5
  (try rw [Nat.zero_add] at ho5)
  (try rw [List.nil_append] at ho5)
  obtain ⟨A5, c5, rfl, e51, e52, e53⟩ := own_slice0 ho5
  have HO5 := Lib.hid ho5
  have HB35 : Hid (Below w3.heap.size w3 w5) := Lib.hid (((Below.refl w3.heap.size w3).alloc (Nat.le_refl _) _).grown hg5 hza fun k hk => by
    have : some w3.heap.size = some k := hk
    injection this with this; omega)
  have hq5 := Lib.hid (hq3.out.call HB35.out)
  have HSN : Hid (Seen (fun b => w2.heap.size ≤ b) w5 1 A5 n c5 sl) := Lib.hid ((Seen.own HO5.out).mono fun b _ hb => by omega)
  clear ho5 hg5 hat5 HSL HE HBA
  clear k0 k1 k2 k3 k4 k5 k6 k7 k8 k9 m0 m1 m2 m3 m4 m5 m6 m7 z4
  obtain ⟨⟨⟨k0, k1, k2, k3, k4⟩, k5, k6, k7, k8, k9⟩, ⟨⟨m0, m1, m2, m3⟩, m4, m5, m6, m7⟩, z4⟩ := hq5.out.facts
  have hq6 := Lib.hid ((hq5.out.uk 1 (.slice A5 n c5)).uk 2 (.int .i64 n))
  simp only [List.setIfInBounds_toArray, List.set_cons_succ, List.set_cons_zero] at hq6
  have HO56 := Lib.hid (((Off.refl (Box w) w5).set (p := ⟨w.heap.size + 1, 1, none⟩) (.inl (box_at w 1 (by omega))) (.slice A5 n c5)).set (p := ⟨w.heap.size + 1, 2, none⟩) (.inl (box_at w 1 (by omega))) (.int .i64 n))
  go_upto_region 17 with fail
  generalize (w5.setCell ⟨w.heap.size + 1, 1, none⟩ (.slice A5 n c5)).setCell ⟨w.heap.size + 1, 2, none⟩ (.int .i64 n) = w6 at *
  clear k0 k1 k2 k3 k4 k5 k6 k7 k8 k9 m0 m1 m2 m3 m4 m5 m6 m7 z4
  obtain ⟨⟨⟨k0, k1, k2, k3, k4⟩, k5, k6, k7, k8, k9⟩, ⟨⟨m0, m1, m2, m3⟩, m4, m5, m6, m7⟩, z4⟩ := hq6.out.facts
  obtain ⟨⟨⟨n0, n1, n2, n3, n4⟩, n5, n6, n7, n8, n9⟩, ⟨⟨o0, o1, o2, o3⟩, o4, o5, o6, o7⟩⟩ := hq6.out.outs
  go_wp2_with fail
  go_region
  all_goals
    go_wp2_with fail
    refine bodyPost_ret (by simp [results, Try.results36, go_sem, n0, n1, n2, n3, n4, o0, o1, o2, o3]; try rfl) rfl ?_
    refine HT.out w1 w2 w5 _ A1 c1 A2 c2 A5 c5 HB1.out (by omega) HB2.out HMM.out ?_ HSN.out ?_
    all_goals
      repeat with_reducible first
        | exact HO56.out
        | exact hq3.out.off.trans (Off.of HB35.out _) |>.trans HO56.out
        | exact hq6.out.off
        | refine Off.drew ?_
        | refine Off.set ?_ (.inl (box_at w 1 (by omega))) _
        | refine Off.set ?_ (.inl (box_at w 2 (by omega))) _
        | refine Off.set ?_ (.inl (box_at w 3 (by omega))) _

end Go.Proofs.Ytlfigbgcackimaa
