/- Contracts at layer 11, of the program's calls that change a chain: Put, drop, Prune. -/
import Derived.Test.YtckhddndeojobaaGreatChnR
namespace Go.Proofs.YtckhddndeojobaaGreat
open Go.RowKit Go.Cn
set_option linter.unusedVariables false
set_option linter.unusedSimpArgs false
set_option maxRecDepth 100000

theorem sees_ver (w : World) (g : Nat) (hg : g = w.heap.size) (a b : Int) : Sees (w.alloc (.cells #[.int .i64 a, .int .i64 b] 81)) (g + 1) 2 (some ⟨g, 0, none⟩) 1 (flat encV [(a, b)]) := by
  subst hg
  refine ⟨rfl, fun _ => ⟨w.heap.size, 0, rfl, by omega, fun j u hu => ?_⟩⟩
  rw [Nat.zero_add, (Whole.fresh w _ _).cell j, ← Array.getElem?_toList]
  exact hu
set_option maxHeartbeats 4000000 in
theorem cput_any (g : Nat) (c : Cs) (F : Nat → Prop) (t u : Int) (w : World) (h : Chn w g c F) :
    Calls Tryz.prog 81 #[ptr g, .int .i64 t, .int .i64 u] w fun e w' => e = .returned (.int .i64 (putE c t)) ∧ WentC F w w' g (put c t u) := by
  obtain ⟨hok, v, x⟩ := h
  obtain ⟨A, cap, rfl, hr⟩ := x.read
  have HX := Lib.hid x
  have HK := Lib.hid hok
  have HL := Lib.hid (clast_any g A cap c w hr)
  have HT := Lib.hid (fun w0 => ctime_any t w0)
  have HR := Lib.hid hr
  have hfew := hr.ok.few
  have HOK := Lib.hid (hok.put t u)
  clear hok
  have hroom := hr.row.room
  have htop := hr.row.top
  rcases put_cases c t u with ⟨e1, e2, e3⟩ | ⟨e1, e4, e2, e3⟩ | ⟨e1, e4, e5, e6, e2, e3⟩ | ⟨e1, e4, e5, e6, e2, e3⟩
  · rw [e2, e3]
    have hT : isT t = true ∧ t < 1 ∨ isT t = false ∧ 1 ≤ t ∨ isT t = false ∧ t < 1 := by
      cases h : isT t with
      | true =>
        have := (isT_iff t).1 h
        exact .inl ⟨rfl, by omega⟩
      | false => by_cases h1 : t < 1
                 · exact .inr (.inr ⟨rfl, h1⟩)
                 · exact .inr (.inl ⟨rfl, by omega⟩)
    clear e2 e3 x hr HOK
    generalize lastV c.l = z at *
    by_cases h1 : t < 1
    · clear hT e1
      go_enter Tryz.func81, Tryz.ntmps81
      go_wp2_with fail
      refine HL.out.mono ?_
      rintro e w1 ⟨rfl, hb⟩
      have HB := Lib.hid hb
      clear hb
      go_wp2_with fail
      go_ret
      exact ⟨rfl, WentC.same HK.out HX.out (HB.out.alloc HB.out.size _)⟩
    · have h2 : isT t = false := by
        rcases hT with ⟨_, h⟩ | ⟨h, _⟩ | ⟨h, _⟩
        · omega
        · exact h
        · exact h
      rw [h2] at HT
      clear hT e1 h2
      go_enter Tryz.func81, Tryz.ntmps81
      go_wp2_with fail
      refine HL.out.mono ?_
      rintro e w1 ⟨rfl, hb⟩
      have HB := Lib.hid hb
      clear hb
      go_wp2_with fail
      refine (HT.out _).mono ?_
      rintro e w2 ⟨rfl, e2⟩
      subst w2
      go_wp2_with fail
      go_ret
      exact ⟨rfl, WentC.same HK.out HX.out (HB.out.alloc HB.out.size _)⟩
  all_goals
    have h2 : isT t = true := (isT_iff t).2 (by omega)
    have h1 : ¬ t < 1 := by omega
    rw [h2] at HT
    rw [e2]
    clear h2 e2
  · rw [e3]
    clear e3 x hr HOK
    by_cases h3 : t ≤ (lastV c.l).1
    · clear e4
      generalize lastV c.l = z at *
      go_enter Tryz.func81, Tryz.ntmps81
      go_wp2_with fail
      refine HL.out.mono ?_
      rintro e w1 ⟨rfl, hb⟩
      have HB := Lib.hid hb
      clear hb
      go_wp2_with fail
      refine (HT.out _).mono ?_
      rintro e w2 ⟨rfl, e2⟩
      subst w2
      go_wp2_with fail
      go_ret
      exact ⟨rfl, WentC.same HK.out HX.out (HB.out.alloc HB.out.size _)⟩
    · have h4 : t ≤ c.mark := by omega
      clear e4
      generalize lastV c.l = z at *
      go_enter Tryz.func81, Tryz.ntmps81
      go_wp2_with fail
      refine HL.out.mono ?_
      rintro e w1 ⟨rfl, hb⟩
      have HB := Lib.hid hb
      clear hb
      obtain ⟨c0, c1, cz⟩ := (HR.out.call (HB.out.alloc HB.out.size (.cells #[.int .i64 z.1, .int .i64 z.2] 81))).cells
      go_wp2_with fail
      refine (HT.out _).mono ?_
      rintro e w2 ⟨rfl, e2⟩
      subst w2
      go_wp2_with fail
      go_ret
      exact ⟨rfl, WentC.same HK.out HX.out (HB.out.alloc HB.out.size _)⟩
  · rw [e3]
    clear e3 x hr HOK
    have h3 : ¬ t ≤ (lastV c.l).1 := by omega
    have h4 : ¬ t ≤ c.mark := by omega
    clear e4 e5
    generalize lastV c.l = z at *
    go_enter Tryz.func81, Tryz.ntmps81
    go_wp2_with fail
    refine HL.out.mono ?_
    rintro e w1 ⟨rfl, hb⟩
    have HB := Lib.hid hb
    clear hb
    obtain ⟨c0, c1, cz⟩ := (HR.out.call (HB.out.alloc HB.out.size (.cells #[.int .i64 z.1, .int .i64 z.2] 81))).cells
    rw [e6] at c0
    go_wp2_with fail
    refine (HT.out _).mono ?_
    rintro e w2 ⟨rfl, e2⟩
    subst w2
    go_wp2_with fail
    go_ret
    exact ⟨rfl, WentC.same HK.out HX.out (HB.out.alloc HB.out.size _)⟩
  · rw [e3] at HOK ⊢
    clear e3 x hr
    have h3 : ¬ t ≤ (lastV c.l).1 := by omega
    have h4 : ¬ t ≤ c.mark := by omega
    have h5 : ((c.l.length : Int) == 10000) = false := by simp; omega
    clear e4 e5
    generalize lastV c.l = z at *
    go_enter Tryz.func81, Tryz.ntmps81
    go_wp2_with fail
    refine HL.out.mono ?_
    rintro e w1 ⟨rfl, hb⟩
    have HB := Lib.hid hb
    clear hb
    have HB2 := Lib.hid (HB.out.alloc HB.out.size (.cells #[.int .i64 z.1, .int .i64 z.2] 81))
    have hs1 := HB2.out.size
    obtain ⟨c0, c1, cz⟩ := (HR.out.call HB2.out).cells
    have HS := Lib.hid (sees_ver (w1.alloc (.cells #[.int .i64 z.1, .int .i64 z.2] 81)) (w1.heap.size + 1) (by simp) t u)
    have HO := Lib.hid ((HX.out.call HB2.out).own.alloc (.cells #[.int .i64 t, .int .i64 u] 81))
    go_wp2_with fail
    refine (HT.out _).mono ?_
    rintro e w2 ⟨rfl, e2⟩
    subst w2
    go_wp2_with (at_builtin; refine wpList_appAt rfl (.tmp 46) (.tmp 50) _ 81 _ 2 16 rfl info_ver Tryz.underlying123 rfl (by decide) 0 _ c.l.length (flat encV c.l) rfl HO.out _ _ 1 1 (flat encV [(t, u)]) rfl HS.out (fun h => by cases h) (encV_one _) (by omega) (by omega) (Nat.zero_le _) ?_)
    intro v1 y1 ho1 hg1 hat1
    have HW := Lib.hid (HX.out.wentList ((HB2.out.alloc HB2.out.size (.cells #[.int .i64 t, .int .i64 u] 81))) (l := c.l ++ [(t, u)]) HOK.out (by rw [List.length_append, flat_append]; exact ho1) hg1 (hat1.imp (fun h => h) fun h => ⟨_, h, by simp⟩))
    have hf : y1.frozen? ⟨g, 0, none⟩ = false ∧ (∃ u, y1.cell? ⟨g, 0, none⟩ = some u) ∧ g < y1.heap.size := by
      have hw := ((HX.out.call HB2.out).alloc (.cells #[.int .i64 t, .int .i64 u] 81)).face.grown hg1 (fun e2 => HX.out.gv e2.symm rfl)
      exact ⟨hw.free 0, ⟨_, hw.cell 0⟩, hw.lt⟩
    obtain ⟨f0, ⟨u0, k0⟩, z0⟩ := hf
    obtain ⟨A1, cp1, rfl, -, -, -⟩ := own_slice0 ho1
    clear ho1 hg1 hat1 c0 c1 cz
    go_wp2_with fail
    go_ret
    exact ⟨rfl, HW.out⟩
/-- append(s[:0:0], s...): what a slice shows, in a block of its own. -/
theorem wpList_appNew {ops : Array Oper} {rest : List Oper} {o : Oper} {a : Act} {Q : Exit → Act → World → Prop} {w : World} (hgd : o.guard = none) (s x : Operand) (t e : TypeId) (z : Value) (size bytes : Nat)
    (ho : o.op = .call { callee := .builtin .append, args := #[s, x], argTypes := #[t, t] }) (hinfo : (Tryz.prog.info? e).map (fun i => (i.zero, i.size, i.bytes)) = some (some z, size, bytes))
    (ht : Tryz.prog.underlying t = some (.slice e)) (hzs : z.cells.size = size) (hsz : 0 < size)
    (b : Addr) (hs : a.eval s = .slice (some b) 0 0) (B2 : Nat) (ad : Addr) (m c : Nat) (news : List Value) (hx : a.eval x = .slice (some ad) m c) (hsee : Sees w B2 size (some ad) m news) (hm0 : 0 < m)
    (h63 : m ≤ 9223372036854775807) (hbytes : m * bytes ≤ 140737488355328)
    (h : ∀ cap w', w'.ownsRow w.heap.size e size (.slice (some ⟨w.heap.size, 0, none⟩) m cap) m news → Below w.heap.size w w' → w'.heap.size = w.heap.size + 1 → wpList Tryz.prog ops Q rest (a.put o.dst (.slice (some ⟨w.heap.size, 0, none⟩) m cap)) w') :
    wpList Tryz.prog ops Q (o :: rest) a w := by
  obtain ⟨i0, hi, hz0, hz1, hz2⟩ := info_parts hinfo
  have hnews : ∀ j u, news[j]? = some u → w.cell? (ad.add j) = some u := by
    intro j u hu
    obtain ⟨b', off', hA, _, hc⟩ := hsee.2 hm0
    injection hA with hA
    subst hA
    rw [add_at]; exact hc j u hu
  have hr := run_append_grow (P := Tryz.prog) w t o.type e i0 z ht hi hz0 b 0 0 [] (by simp)
    (fun j u hu => by simp at hu) ad m c news (by rw [hz1]; exact hsee.1) hnews (by omega) (by omega) (by
      have := nextslicecap_le (show 0 < 0 + m by omega)
      rw [hz2]
      have h2 := Nat.mul_le_mul_right bytes this
      have h3 : 2 * (0 + m) * bytes = 2 * (m * bytes) := by rw [Nat.zero_add, Nat.mul_assoc]
      omega)
  refine wpList_plain hgd fun K hK => ?_
  unfold Oper.wp execOp
  simp only [ho, resolve, invoke, builtin, Sem.run_bind, Sem.run_pure, Result.andThen_ok, List.map_toArray, List.map_cons, List.map_nil, hs, hx, hr]
  have hge := grownCap_ge w (0 + m) 0 e
  have hle := grownCap_le_maxLen w (0 + m) 0 e (by unfold maxLen; omega)
  generalize grownCap w (0 + m) 0 e = cap at *
  rw [Nat.zero_add] at *
  refine hK _ _ (h cap _ ⟨hsee.1, .inr ⟨w.heap.size, cap, news.toArray ++ Builtin.zeroCells z.cells (cap - m), rfl, Nat.le_refl _, ?_, hge, (by unfold maxLen at hle; exact hle), ?_, ?_⟩⟩ ?_ ?_)
  · have h2 := heap_alloc_new w.drew (.cells (#[] ++ news.toArray ++ Builtin.zeroCells z.cells (cap - m)) e)
    rw [show w.drew.heap.size = w.heap.size from rfl] at h2
    simpa using h2
  · have := hsee.1
    rw [Array.size_append, size_zeroCells, hzs]
    simp only [List.size_toArray]
    rw [this, ← Nat.add_mul]
    congr 1
    omega
  · rw [Array.toList_append, List.take_append_of_le_length (by simpa using Nat.le_of_eq hsee.1.symm)]
    exact List.take_of_length_le (by simpa using Nat.le_of_eq hsee.1)
  · exact ((Below.refl w.heap.size w).drew).alloc (Nat.le_refl _) _
  · show (w.drew.alloc _).heap.size = _
    simp
set_option maxHeartbeats 2000000 in
theorem cdrop_any (g : Nat) (v : Value) (c : Cs) (F : Nat → Prop) (n : Int) (w : World) (x : Cx w g v c F) (hn : n < (c.l.length : Int)) (hok : Ok ⟨c.l.drop n.toNat, c.mark⟩) :
    Calls Tryz.prog 95 #[ptr g, .int .i64 n] w fun e w' => e = .returned (.tuple #[]) ∧ WentC F w w' g ⟨c.l.drop n.toNat, c.mark⟩ := by
  obtain ⟨A, cap, rfl, hr⟩ := x.read
  obtain ⟨c0, c1, z⟩ := hr.cells
  have HX := Lib.hid x
  have HK := Lib.hid hok
  have HR := Lib.hid hr.row
  have hfew := hr.ok.few
  have hroom := hr.row.room
  have htop := hr.row.top
  clear hr
  by_cases h1 : n < 1
  · have e0 : n.toNat = 0 := by omega
    rw [e0, List.drop_zero] at HK ⊢
    clear x hok
    go_enter Tryz.func95, Tryz.ntmps95
    go_wp2_with fail
    refine bodyPost_ret (results_none rfl _ _ _) rfl ?_
    exact ⟨rfl, WentC.same HK.out HX.out (Below.refl _ _)⟩
  · obtain ⟨d, rfl⟩ : ∃ d : Nat, n = (d : Int) := ⟨n.toNat, by omega⟩
    rw [show ((d : Int)).toNat = d by omega] at HK ⊢
    obtain ⟨b0, off, rfl, hb0⟩ := HR.out.some (by omega)
    have hz := HX.out.own
    have hdl : d < c.l.length := by omega
    have hdl1 : 1 ≤ d := by omega
    have hlen : (c.l.drop d).length = c.l.length - d := by rw [List.length_drop]
    have HS := Lib.hid (show Sees w w.heap.size 2 (some ⟨b0, off + d * 2, none⟩) (c.l.length - d) (flat encV (c.l.drop d)) from by
      have h := HR.out.sees.part d c.l.length cap (by omega) (Nat.le_refl _) hroom
      rw [if_neg (by omega), flat_drop encV_len, List.take_of_length_le (by rw [encV_flat, hlen]; exact Nat.le_refl _)] at h
      exact h)
    clear x hok hz
    go_enter Tryz.func95, Tryz.ntmps95
    go_wp2_with (at_builtin; refine wpList_appNew rfl (.tmp 15) (.tmp 16) _ 81 _ 2 16 rfl info_ver Tryz.underlying123 rfl (by decide) _ rfl w.heap.size _ (c.l.length - d) _ (flat encV (c.l.drop d)) rfl HS.out (by omega) (by omega) (by omega) ?_)
    intro cap1 y1 ho1 hb1 hs1
    have HW := Lib.hid (HX.out.wentList (Below.refl _ _) (y := y1) (l := c.l.drop d) HK.out (by rw [hlen]; exact ow_less ho1 (Nat.zero_le _)) ⟨hb1.os, hb1.tape, hb1.output, hb1.size, fun k hk _ => hb1.block k hk⟩ (.inr ⟨_, rfl, Nat.le_refl _⟩))
    have hw := HX.out.face.below hb1 HX.out.lt
    have f0 := hw.free 0
    have k0 := hw.cell 0
    have z0 := hw.lt
    clear hw ho1 hs1 hb1 c0 c1 z
    go_wp2_with fail
    go_end0
    exact ⟨rfl, HW.out⟩
set_option maxHeartbeats 2000000 in
theorem cprune_any (g : Nat) (c : Cs) (F : Nat → Prop) (t : Int) (w : World) (h : Chn w g c F) :
    Calls Tryz.prog 73 #[ptr g, .int .i64 t] w fun e w' => e = .returned (.int .i64 (pruneE t)) ∧ WentC F w w' g (prune c t) := by
  obtain ⟨hok, v, x⟩ := h
  obtain ⟨A, cap, rfl, hr⟩ := x.read
  obtain ⟨c0, c1, z⟩ := hr.cells
  have f1 := x.face.free 1
  have HX := Lib.hid x
  have HK := Lib.hid hok
  have HT := Lib.hid (fun w0 => ctime_any t w0)
  have HOK := Lib.hid (hok.prune t)
  have hup := upTo_le c.l t
  have hfew := hok.few
  rcases prune_cases c t with ⟨e1, e2, e3⟩ | ⟨e1, e4, e2, e3⟩ | ⟨e1, e4, e2, e3⟩
  · rw [e1] at HT
    rw [e2, e3]
    clear e1 e2 e3 x hok hr HOK
    go_enter Tryz.func73, Tryz.ntmps73
    go_wp2_with fail
    refine (HT.out _).mono ?_
    rintro e w1 ⟨rfl, e1⟩
    subst w1
    go_wp2_with fail
    go_ret
    exact ⟨rfl, WentC.same HK.out HX.out (Below.refl _ _)⟩
  · rw [e1] at HT
    rw [e2, e3]
    have i1 : ¬ c.mark < t := by omega
    clear e1 e2 e3 e4 x hok hr HOK
    go_enter Tryz.func73, Tryz.ntmps73
    go_wp2_with fail
    refine (HT.out _).mono ?_
    rintro e w1 ⟨rfl, e1⟩
    subst w1
    go_wp2_with fail
    go_ret
    exact ⟨rfl, WentC.same HK.out HX.out (Below.refl _ _)⟩
  · rw [e1] at HT
    rw [e2, e3]
    rw [e3] at HOK
    have HX1 := Lib.hid (x.setMark t)
    obtain ⟨A1, cap1, hv1, hr1⟩ := HX1.out.read
    have HU := Lib.hid (upto_any g A1 cap1 ⟨c.l, t⟩ t _ hr1)
    have HO1 := Lib.hid ((Off.refl F w).set (p := ⟨g, 1, none⟩) (.inl x.mine.1) (.int .i64 t))
    have i1 : c.mark < t := e4
    have hn : (((upTo c.l t : Nat) : Int) - 1).toNat = upTo c.l t - 1 := by omega
    clear e1 e2 e3 e4 x hok hr hr1 hv1
    go_enter Tryz.func73, Tryz.ntmps73
    go_wp2_with fail
    refine (HT.out _).mono ?_
    rintro e w1 ⟨rfl, e1⟩
    subst w1
    go_wp2_with fail
    refine HU.out.mono ?_
    rintro e w1 ⟨rfl, hb1⟩
    replace HX1 := Lib.hid (HX1.out.call hb1)
    replace HO1 := Lib.hid (HO1.out.call hb1)
    clear hb1 HU
    go_wp2_with fail
    refine (cdrop_any g _ ⟨c.l, t⟩ F (((upTo c.l t : Nat) : Int) - 1) w1 HX1.out (by show _ < (c.l.length : Int); rcases Nat.eq_zero_or_pos (upTo c.l t) with h | h <;> omega) (by rw [hn]; exact HOK.out)).mono ?_
    rintro e w2 ⟨rfl, hm⟩
    rw [hn] at hm
    have HM := Lib.hid (WentC.behind HO1.out hm)
    clear hm
    go_wp2_with fail
    go_ret
    exact ⟨rfl, HM.out⟩
end Go.Proofs.YtckhddndeojobaaGreat
