/- Contracts of the laws' own functions at layer 6: brought, begun, step, follow. (Written by gclkb.py.) -/
import Derived.Test.YtpnojhcjaneleaaClkO
import Derived.Test.YtpnojhcjaneleaaHalf
import Derived.Test.YtpnojhcjaneleaaInv
namespace Go.Proofs.Ytpnojhcjaneleaa
open Go.RowKit Go.Sp Go.Fl Go.Ck
set_option linter.unusedVariables false
set_option linter.unusedSimpArgs false
set_option maxRecDepth 100000

/-- A number brought to at most so much, up and down. -/
def bro (n m : Int) : Int := if m < n then m else if n < -m then -m else n
theorem bro_cases (n m : Int) : (m < n ∧ bro n m = m) ∨ (n ≤ m ∧ n < -m ∧ bro n m = -m) ∨ (n ≤ m ∧ -m ≤ n ∧ bro n m = n) := by
  unfold bro
  split
  · omega
  · split <;> omega
theorem bro_range (n m : Int) (hm : 0 ≤ m) : -m ≤ bro n m ∧ bro n m ≤ m := by
  rcases bro_cases n m with h | h | h <;> omega
theorem brought_any (n m : Int) (hm : 0 ≤ m ∧ m ≤ 1125899906842624) (w : World) : Calls Try.prog 28 #[.int .i64 n, .int .i64 m] w fun e w' => e = .returned (.int .i64 (bro n m)) ∧ w' = w := by
  rcases bro_cases n m with ⟨h, e⟩ | ⟨h, h2, e⟩ | ⟨h, h2, e⟩
  all_goals
    rw [e]
    clear e
    go_enter Try.func28, Try.ntmps28
    go_wp2_with fail
    go_ret
    exact ⟨by first | rfl | (simp [go_sem]; omega), rfl⟩

theorem prodD_value {n : Int} {x : Nat} (hn : 0 ≤ n ∧ n ≤ 4294967295) (hr : rated x = true) : prodR n x false = .tuple #[.int .i64 (prodF n x), .int .i64 0] := by
  obtain ⟨h3, h4⟩ := prod_range n x hn.1 hr
  rw [prodR_num (rated_nan hr).1 (rated_nan hr).2]
  show fitV (prodF n x) = _
  have hf : fits (prodF n x) = true := by unfold fits; simp only [decide_eq_true_eq]; omega
  unfold fitV
  rw [hf]; rfl

theorem Whole.five {w : World} {g : Nat} {t : TypeId} {a b c d e : Value} (h : Whole w g t #[a, b, c, d, e]) :
    w.cell? ⟨g, 0, none⟩ = some a ∧ w.cell? ⟨g, 1, none⟩ = some b ∧ w.cell? ⟨g, 2, none⟩ = some c ∧ w.cell? ⟨g, 3, none⟩ = some d ∧ w.cell? ⟨g, 4, none⟩ = some e :=
  ⟨h.cell 0, h.cell 1, h.cell 2, h.cell 3, h.cell 4⟩
theorem Clk.away {w : World} {g x : Nat} {c : Ck} {t : TypeId} {cs : Array Value} (h : Clk w g c) (hx : Whole w x t cs) (h1 : t ≠ 74) (h2 : t ≠ 79) (k : Nat) (u : Value) : Clk (w.setCell ⟨x, k, none⟩ u) g c := by
  obtain ⟨p, hw, h3, h4⟩ := h.is
  refine ⟨p, hw.away (p := ⟨x, k, none⟩) (fun e => whole_unlike hx hw h1 e.symm) u, h3, fun on => ?_⟩
  obtain ⟨b, hp, hb⟩ := h4 on
  exact ⟨b, hp, hb.away (p := ⟨x, k, none⟩) (fun e => whole_unlike hx hb h2 e.symm) u⟩
theorem Lw.set0 {W w : World} {x g : Nat} {t : TypeId} {cs : Array Value} {L : List Row} {c : Ck} (h : Lw W w ((x, t, cs) :: L) g c) (hx : W.heap.size ≤ x) (hd : ∀ r ∈ L, r.1 ≠ x) (h1 : t ≠ 74) (h2 : t ≠ 79) (k : Nat) (u : Value) :
    Lw W (w.setCell ⟨x, k, none⟩ u) ((x, t, cs.setIfInBounds k u) :: L) g c :=
  ⟨h.st.set0 hx hd k u, h.clk.away (h.st.knows.at 0 rfl) h1 h2 k u, h.new, fun r hr => by
    rcases List.mem_cons.1 hr with rfl | hr
    · exact h.far (x, t, cs) (by simp)
    · exact h.far r (List.mem_cons_of_mem _ hr)⟩
/-- Where a region stands that sets a clock and stores into block p (once b). -/
structure Sk (g : Nat) (W y : World) (base : List Row) (p : Nat) (t : TypeId) (z v : Array Value) (b : Bool) (k : Ck) : Prop where
  but : But g W y
  knows : Knows y ((p, t, if b then v else z) :: base)
  clk : Clk y g k
section
variable {g : Nat} {W y y2 : World} {base : List Row} {p : Nat} {t : TypeId} {z v : Array Value} {b : Bool} {k k2 : Ck}
theorem Sk.old (h : Sk g W y base p t z v b k) : Knows y base := fun r hr => h.knows r (List.mem_cons_of_mem _ hr)
theorem Sk.turn (h : Sk g W y base p t z v b k) (hg : p ≠ g) (hf : ∀ r ∈ base, r.1 ≠ g) (hb : But g y y2) (hc : Clk y2 g k2) : Sk g W y2 base p t z v b k2 :=
  ⟨h.but.trans hb, fun r hr => hb.whole (h.knows r hr) (by
    rcases List.mem_cons.1 hr with rfl | hr
    · exact hg
    · exact hf r hr), hc⟩
theorem Sk.stored4 {z0 z1 z2 z3 v0 v1 v2 v3 : Value} (h : Sk g W y base p t #[z0, z1, z2, z3] #[v0, v1, v2, v3] false k) (hp : W.heap.size ≤ p) (hd : ∀ r ∈ base, r.1 ≠ p) (h1 : t ≠ 74) (h2 : t ≠ 79) :
    Sk g W ((((y.setCell ⟨p, 0, none⟩ v0).setCell ⟨p, 1, none⟩ v1).setCell ⟨p, 2, none⟩ v2).setCell ⟨p, 3, none⟩ v3) base p t #[z0, z1, z2, z3] #[v0, v1, v2, v3] true k := by
  have k0 : Knows y ((p, t, #[z0, z1, z2, z3]) :: base) := by simpa using h.knows
  have w0 : Whole y p t #[z0, z1, z2, z3] := k0.at 0 rfl
  refine ⟨(((h.but.setNew (p := ⟨p, 0, none⟩) hp v0).setNew (p := ⟨p, 1, none⟩) hp v1).setNew (p := ⟨p, 2, none⟩) hp v2).setNew (p := ⟨p, 3, none⟩) hp v3, ?_, ?_⟩
  · simpa using (((k0.set0 hd 0 v0).set0 hd 1 v1).set0 hd 2 v2).set0 hd 3 v3
  · exact (((h.clk.away w0 h1 h2 0 v0).away (w0.set 0 v0) h1 h2 1 v1).away ((w0.set 0 v0).set 1 v1) h1 h2 2 v2).away (((w0.set 0 v0).set 1 v1).set 2 v2) h1 h2 3 v3
end

@[go_sem] theorem store_flt (P : Program) (w : World) (a : Addr) (m : Mode) (k : FloatKind) (b : Nat) : (store a (.float k b) m).run P w = stored P w a (.float k b) m := run_store P w a _ m rfl
/-- The time by which a clock is set: what is below nought is nought. -/
def byT (n : Int) : Int := if n < 0 then 0 else n
theorem byT_cases (n : Int) : (n < 0 ∧ byT n = 0) ∨ (0 ≤ n ∧ byT n = n) := by unfold byT; split <;> omega

/-- What a run of a right clock is. -/
structure Run (w : World) (g x : Nat) (c : Ck) (h t : Int) : Prop where
  clk : Clk w g c
  right : Right c h t
  rate : c.rate = x
  wide : c.e ≤ 65535
theorem run_still {w W : World} {g x : Nat} {c : Ck} {h T : Int} (k : Clk w g c) (R : Right c h T) (hx : c.rate = x) (hw : c.e ≤ 65535) (hb : Below w.heap.size w W) : But g w W ∧ Run W g x c h T := ⟨.of hb g, k.call hb, R, hx, hw⟩
theorem sk_start {w y : World} {g : Nat} {c : Ck} {r x : Row} {p : Nat} {t : TypeId} {z : Array Value} (k : Clk w g c) (h : St w y [r, (p, t, z), x]) (v : Array Value) : Sk g w y [r, x] p t z v false c :=
  ⟨.of h.below g, (h.few (L' := [(p, t, z), r, x]) (by simp)).knows, k.call h.below⟩
theorem run_set {w w' : World} {g x : Nat} {c : Ck} {h T : Int} (R : Right c h T) (hx : c.rate = x) (e o : Int) (hh : h ≤ 2199023255552) (hT : 0 ≤ T ∧ T ≤ 2199023255552) (he : 0 ≤ e ∧ e ≤ 65535) (k : Clk w' g (c.set h (byT (T + bro o e)) e)) :
    Run w' g x (c.set h (byT (T + bro o e)) e) h T := by
  have hb := bro_range o e he.1
  have hc := byT_cases (T + bro o e)
  obtain ⟨E0, R'⟩ := R.set (h := h) (t := byT (T + bro o e)) (e := e) (by omega) (by omega) (by omega) (by omega) (by omega)
  refine ⟨k, R', ?_, ?_⟩
  · unfold Ck.set; rw [if_pos E0]; exact hx
  · unfold Ck.set; rw [if_pos E0]; exact he.2
theorem run_setE {c : Ck} {h T : Int} (R : Right c h T) (e o : Int) (hh : h ≤ 2199023255552) (hT : 0 ≤ T ∧ T ≤ 2199023255552) (he : 0 ≤ e ∧ e ≤ 65535) : c.setE h (byT (T + bro o e)) e = 0 := by
  have hb := bro_range o e he.1
  have hc := byT_cases (T + bro o e)
  exact (R.set (h := h) (t := byT (T + bro o e)) (e := e) (by omega) (by omega) (by omega) (by omega) (by omega)).1

set_option maxHeartbeats 4000000 in
theorem begun_any (x : Nat) (hx : crated x = true) (t e o : Int) (he : 0 ≤ e ∧ e ≤ 65535) (w : World) :
    Calls Try.prog 18 #[.float .f64 x, .int .i64 t, .int .u16 e, .int .i64 o] w fun r w' =>
      ∃ (g : Nat) (c : Ck), r = .returned (.tuple #[.agg #[ptr g, .float .f64 x, .int .i64 0, .int .i64 (bits .and .i64 t 1099511627775)], .bool true]) ∧ Below w.heap.size w w' ∧ w.heap.size ≤ g ∧ Run w' g x c 0 (bits .and .i64 t 1099511627775) := by
  have ht := and40 t
  have hb := bro_range o e he.1
  have HB := Lib.hid (fun w0 => brought_any o e (by omega) w0)
  obtain ⟨E0, R, R2, R3⟩ := Right.begun hx (bits .and .i64 t 1099511627775) (byT (bits .and .i64 t 1099511627775 + bro o e)) e ht.1 (by have := byT_cases (bits .and .i64 t 1099511627775 + bro o e); omega) (by omega) (by have := byT_cases (bits .and .i64 t 1099511627775 + bro o e); omega) (by have := byT_cases (bits .and .i64 t 1099511627775 + bro o e); omega)
  have HS := Lib.hid (fun w0 g (k : Clk w0 g (fresh x)) => set_any g (fresh x) 0 (byT (bits .and .i64 t 1099511627775 + bro o e)) e ⟨by omega, by omega⟩ (by have := byT_cases (bits .and .i64 t 1099511627775 + bro o e); exact ⟨by omega, by omega⟩) ⟨by omega, by omega⟩ w0 k)
  rw [E0] at HS
  have HR := Lib.hid R
  have HR3 := Lib.hid R3
  have HR2 : Hid (((fresh x).set 0 (byT (bits .and .i64 t 1099511627775 + bro o e)) e).e ≤ 65535) := Lib.hid (by omega)
  have H := Lib.hid ((St.start w).alloc w.heap.size rfl 49 #[.pointer none, .float .f64 0, .int .i64 0, .int .i64 0])
  have hc := byT_cases (bits .and .i64 t 1099511627775 + bro o e)
  have HT : Hid (bits .and .i64 t 1099511627775 = bits .and .i64 t 1099511627775) := Lib.hid rfl
  clear R R2 R3 E0
  generalize hT0 : bits .and .i64 t 1099511627775 = T at *
  generalize bro o e = q at *
  generalize byT (T + q) = b at *
  generalize (fresh x).set 0 b e = c1 at *
  rcases hc with ⟨k1, rfl⟩ | ⟨k1, rfl⟩
  all_goals
    go_enter Try.func18, Try.ntmps18
    go_wp2_with fail
    refine (new_at x hx _ (w.heap.size + 1) (by simp)).mono ?_
    rintro r w1 ⟨rfl, hb1, k⟩
    replace H := Lib.hid (H.out.call hb1)
    have K := Lib.hid k
    clear hb1 k
    go_wp2_with fail
    refine (HB.out _).mono ?_
    rintro r w2 ⟨rfl, e2⟩
    subst w2
    skip
    go_wp2_with fail
    refine (HS.out _ _ K.out).mono ?_
    rintro r w3 ⟨rfl, hb1, k⟩
    have L1 := Lib.hid ((show Lw w w1 [(w.heap.size, 49, #[.pointer none, .float .f64 0, .int .i64 0, .int .i64 0])] (w.heap.size + 1) (fresh x) from ⟨H.out, K.out, by omega, fun r hr => by rw [List.mem_singleton.1 hr]; show w.heap.size ≠ w.heap.size + 1; omega⟩).turn hb1 k)
    clear hb1 k H K
    obtain ⟨c0, c1', c2, c3⟩ := (L1.out.st.knows.at 0 rfl).four
    obtain ⟨d0, d1, d2, d3⟩ := (L1.out.st.knows.at 0 rfl).thaw
    have z0 := (L1.out.st.knows.at 0 rfl).lt
    go_wp2_with fail
    refine bodyPost_ret (by simp [results, Try.results18, go_sem, c0, c1', c2, c3, d0, d1, d2, d3, z0]; try rfl) rfl ?_
    have hd0 : ∀ r ∈ ([] : List Row), r.1 ≠ w.heap.size := fun r hr => by cases hr
    have L2 := (((L1.out.set0 (Nat.le_refl _) hd0 (by decide) (by decide) 0 (ptr (w.heap.size + 1))).set0 (Nat.le_refl _) hd0 (by decide) (by decide) 1 (.float .f64 x)).set0 (Nat.le_refl _) hd0 (by decide) (by decide) 2 (.int .i64 0)).set0 (Nat.le_refl _) hd0 (by decide) (by decide) 3 (.int .i64 T)
    exact ⟨w.heap.size + 1, c1, rfl, L2.st.below, by omega, ⟨L2.clk, HR.out, HR3.out, HR2.out⟩⟩

set_option maxHeartbeats 8000000 in
theorem step_any (w : World) (g x : Nat) (c : Ck) (h T : Int) (v : Sp6) (gv : GS v) (R : Run w g x c h T) (hh : 0 ≤ h ∧ h ≤ 2100000000000) (hT : 0 ≤ T ∧ T ≤ 2100000000000) :
    Calls Try.prog 19 #[.agg #[ptr g, .float .f64 x, .int .i64 h, .int .i64 T], .agg #[.int .u32 v.d, .int .i64 v.s, .bool v.b, .int .u16 v.e, .int .i64 v.o]] w fun r w' =>
      ∃ c' : Ck, r = .returned (.tuple #[.agg #[ptr g, .float .f64 x, .int .i64 (h + v.d), .int .i64 (T + v.d + bro v.s (prodF v.d x))], .bool true]) ∧ But g w w' ∧ Run w' g x c' (h + v.d) (T + v.d + bro v.s (prodF v.d x)) := by
  obtain ⟨rk, rr, rx, rw'⟩ := R
  have hcr := rr.ok.rate
  rw [rx] at hcr
  obtain ⟨vd, vs, vb, ve, vo⟩ := v
  obtain ⟨gd, gs, ge, go⟩ := gv
  simp only at gd gs ge go ⊢
  have hm := prod_range vd x gd.1 (crated_rated hcr)
  have hq := bro_range vs (prodF vd x) hm.1
  have R2 : Right c (h + vd) (T + vd + bro vs (prodF vd x)) := rr.step vd (bro vs (prodF vd x)) gd.1 ⟨prodF vd x, hm.1, hq.2, by omega, by have := prod_down vd x; rw [rx, Int.mul_comm (sz x)]; exact this⟩ (by omega)
  have HP := Lib.hid (fun w0 => rprod_any vd x false (crated_num hcr) (by omega) (by omega) w0)
  rw [prodD_value gd (crated_rated hcr)] at HP
  have HBr := Lib.hid (fun w0 => brought_any vs (prodF vd x) (by omega) w0)
  have H := Lib.hid ((((St.start w).alloc w.heap.size rfl 49 #[ptr g, .float .f64 x, .int .i64 h, .int .i64 T]).alloc (w.heap.size + 1) (by simp) 56 #[.int .u32 vd, .int .i64 vs, .bool vb, .int .u16 ve, .int .i64 vo]).alloc (w.heap.size + 1 + 1) (by simp) 49 #[.pointer none, .float .f64 0, .int .i64 0, .int .i64 0])
  have HRK := Lib.hid rk
  have glt := rk.lt
  have HR2 := Lib.hid R2
  have HX := Lib.hid rx
  have HW := Lib.hid rw'
  clear rk rr rx rw' hcr
  generalize bro vs (prodF vd x) = q at *
  generalize prodF vd x = m at *
  have b2 : 0 ≤ h + vd ∧ h + vd ≤ 2150000000000 := by omega
  have b3 : 0 ≤ T + vd + q ∧ T + vd + q ≤ 2150000000000 := by omega
  clear R2
  cases vb with
  | false =>
    go_enter Try.func19, Try.ntmps19
    obtain ⟨q0, q1, q2, q3⟩ := (H.out.knows.at 2 rfl).four
    obtain ⟨p0, p1, p2, p3, p4⟩ := (H.out.knows.at 1 rfl).five
    go_wp2_with fail
    refine (HP.out _).mono ?_
    rintro r w1 ⟨rfl, hb1⟩
    replace H := Lib.hid (H.out.call hb1)
    clear hb1 q0 q1 q2 q3 p0 p1 p2 p3 p4
    have hdr : ∀ r ∈ ([(w.heap.size + 1 + 1, 49, #[.pointer none, .float .f64 0, .int .i64 0, .int .i64 0]), (w.heap.size + 1, 56, #[.int .u32 vd, .int .i64 vs, .bool false, .int .u16 ve, .int .i64 vo])] : List Row), r.1 ≠ w.heap.size := by intro r hr; simp at hr; rcases hr with rfl | rfl <;> (show _ ≠ _; simp <;> omega)
    replace H := Lib.hid (H.out.few (L' := [(w.heap.size, 49, #[ptr g, .float .f64 x, .int .i64 h, .int .i64 T]), (w.heap.size + 1 + 1, 49, #[.pointer none, .float .f64 0, .int .i64 0, .int .i64 0]), (w.heap.size + 1, 56, #[.int .u32 vd, .int .i64 vs, .bool false, .int .u16 ve, .int .i64 vo])]) (by simp))
    go_wp2_with fail
    refine Iv.region (fun f aa yw => aa = ⟨#[.agg #[ptr g, .float .f64 x, .int .i64 h, .int .i64 T], .agg #[.int .u32 vd, .int .i64 vs, .bool false, .int .u16 ve, .int .i64 vo], .pointer (some ⟨w.heap.size, 0, none⟩), .pointer (some ⟨w.heap.size + 1, 0, none⟩), .pointer (some ⟨w.heap.size + 1 + 1, 0, none⟩), .bool false, .int .i64 vd, .int .i64 m, .int .i64 0, undef, .pointer (some ⟨w.heap.size + 1, 0, none⟩), .int .u32 vd, .int .i64 vd, .tuple #[.int .i64 m, .int .i64 0], .int .i64 vd, .pointer (some ⟨w.heap.size, 1, none⟩), .float .f64 x, .tuple #[.int .i64 m, .int .i64 0], .int .i64 m, .int .i64 0, sl (f 0) (.pointer (some ⟨w.heap.size, 2, none⟩)), sl (f 1) (.int .i64 h), sl (f 2) (.int .i64 vd), sl (f 3) (.int .i64 (h + vd)), sl (f 4) (.pointer (some ⟨w.heap.size, 3, none⟩)), sl (f 5) (.int .i64 T), sl (f 6) (.int .i64 vd), sl (f 7) (.int .i64 (T + vd)), sl (f 8) (.pointer (some ⟨w.heap.size + 1, 1, none⟩)), sl (f 9) (.int .i64 vs), sl (f 10) (.int .i64 m), sl (f 11) (.int .i64 q), sl (f 12) (.int .i64 (T + vd + q)), sl (f 13) (.pointer (some ⟨w.heap.size, 2, none⟩)), sl (f 15) (.pointer (some ⟨w.heap.size, 3, none⟩)), undef, undef, undef, undef, undef, undef, undef, undef, undef, undef, undef, undef, undef, undef, undef, undef, undef, undef, undef, undef, undef, undef, undef, undef, undef, undef], []⟩ ∧ St w yw [(w.heap.size, 49, #[ptr g, .float .f64 x, .int .i64 (if f 14 = true then h + vd else h), .int .i64 (if f 16 = true then T + vd + q else T)]), (w.heap.size + 1 + 1, 49, #[.pointer none, .float .f64 0, .int .i64 0, .int .i64 0]), (w.heap.size + 1, 56, #[.int .u32 vd, .int .i64 vs, .bool false, .int .u16 ve, .int .i64 vo])] ∧ (f 14 = true → f 1 = true) ∧ (f 16 = true → f 5 = true)) (by kernel_rfl) (by kernel_rfl) ?_ ?_ ?_
    · exact ⟨rfl, H.out.drewN 1, (fun h => by cases h), fun h => by cases h⟩
    · refine ⟨?_, ?_, ?_, ?_, ?_, ?_, ?_, ?_, ?_, ?_, ?_, ?_, ?_, ?_, ?_, ?_, ?_, trivial⟩
      · rintro f a0 yw Q' ⟨rfl, hw⟩ hi hd hQ
        replace hQ := Lib.hid hQ
        simp [Iv.depsB, Region.binds] at hd
        try simp only [hi, hd, sl_true, sl_false]
        try simp only [hi, sl_true, sl_false]
        go_wp2_with fail
        refine hQ.out _ _ ⟨?_, ?_⟩
        · simp [Iv.upd, hi, hd, sl_true, sl_false]
        · simpa [Iv.upd, hi, hd] using hw
      · rintro f a0 yw Q' ⟨rfl, hw⟩ hi hd hQ
        replace hQ := Lib.hid hQ
        simp [Iv.depsB, Region.binds] at hd
        try simp only [hi, hd, sl_true, sl_false]
        try simp only [hi, sl_true, sl_false]
        have hwk := hw.1.knows.at 0 rfl
        have ek : f 14 = false := by
          cases hk : f 14 with
          | false => rfl
          | true => have := hw.2.1 hk; rw [hi] at this; cases this
        simp only [ek] at hwk
        obtain ⟨c0, c1, c2, c3⟩ := hwk.four
        clear hwk
        go_wp2_with fail
        refine hQ.out _ _ ⟨?_, ?_⟩
        · simp [Iv.upd, hi, hd, sl_true, sl_false]
        · simpa [Iv.upd, hi, hd] using (show _ ∧ _ from ⟨hw.1, hw.2.2⟩)
      · rintro f a0 yw Q' ⟨rfl, hw⟩ hi hd hQ
        replace hQ := Lib.hid hQ
        simp [Iv.depsB, Region.binds] at hd
        try simp only [hi, hd, sl_true, sl_false]
        try simp only [hi, sl_true, sl_false]
        go_wp2_with fail
        refine hQ.out _ _ ⟨?_, ?_⟩
        · simp [Iv.upd, hi, hd, sl_true, sl_false]
        · simpa [Iv.upd, hi, hd] using hw
      · rintro f a0 yw Q' ⟨rfl, hw⟩ hi hd hQ
        replace hQ := Lib.hid hQ
        simp [Iv.depsB, Region.binds] at hd
        try simp only [hi, hd, sl_true, sl_false]
        try simp only [hi, sl_true, sl_false]
        have ww1 : IntKind.i64.wrap (h + vd) = h + vd := by rw [IntKind.wrap_i64]; omega
        go_wp2_with fail
        refine hQ.out _ _ ⟨?_, ?_⟩
        · simp [Iv.upd, hi, hd, sl_true, sl_false]
        · simpa [Iv.upd, hi, hd] using hw
      · rintro f a0 yw Q' ⟨rfl, hw⟩ hi hd hQ
        replace hQ := Lib.hid hQ
        simp [Iv.depsB, Region.binds] at hd
        try simp only [hi, hd, sl_true, sl_false]
        try simp only [hi, sl_true, sl_false]
        go_wp2_with fail
        refine hQ.out _ _ ⟨?_, ?_⟩
        · simp [Iv.upd, hi, hd, sl_true, sl_false]
        · simpa [Iv.upd, hi, hd] using hw
      · rintro f a0 yw Q' ⟨rfl, hw⟩ hi hd hQ
        replace hQ := Lib.hid hQ
        simp [Iv.depsB, Region.binds] at hd
        try simp only [hi, hd, sl_true, sl_false]
        try simp only [hi, sl_true, sl_false]
        have hwk := hw.1.knows.at 0 rfl
        have ek : f 16 = false := by
          cases hk : f 16 with
          | false => rfl
          | true => have := hw.2.2 hk; rw [hi] at this; cases this
        simp only [ek] at hwk
        obtain ⟨c0, c1, c2, c3⟩ := hwk.four
        clear hwk
        go_wp2_with fail
        refine hQ.out _ _ ⟨?_, ?_⟩
        · simp [Iv.upd, hi, hd, sl_true, sl_false]
        · simpa [Iv.upd, hi, hd] using (show _ ∧ _ from ⟨hw.1, hw.2.1⟩)
      · rintro f a0 yw Q' ⟨rfl, hw⟩ hi hd hQ
        replace hQ := Lib.hid hQ
        simp [Iv.depsB, Region.binds] at hd
        try simp only [hi, hd, sl_true, sl_false]
        try simp only [hi, sl_true, sl_false]
        go_wp2_with fail
        refine hQ.out _ _ ⟨?_, ?_⟩
        · simp [Iv.upd, hi, hd, sl_true, sl_false]
        · simpa [Iv.upd, hi, hd] using hw
      · rintro f a0 yw Q' ⟨rfl, hw⟩ hi hd hQ
        replace hQ := Lib.hid hQ
        simp [Iv.depsB, Region.binds] at hd
        try simp only [hi, hd, sl_true, sl_false]
        try simp only [hi, sl_true, sl_false]
        have ww2 : IntKind.i64.wrap (T + vd) = T + vd := by rw [IntKind.wrap_i64]; omega
        go_wp2_with fail
        refine hQ.out _ _ ⟨?_, ?_⟩
        · simp [Iv.upd, hi, hd, sl_true, sl_false]
        · simpa [Iv.upd, hi, hd] using hw
      · rintro f a0 yw Q' ⟨rfl, hw⟩ hi hd hQ
        replace hQ := Lib.hid hQ
        simp [Iv.depsB, Region.binds] at hd
        try simp only [hi, hd, sl_true, sl_false]
        try simp only [hi, sl_true, sl_false]
        go_wp2_with fail
        refine hQ.out _ _ ⟨?_, ?_⟩
        · simp [Iv.upd, hi, hd, sl_true, sl_false]
        · simpa [Iv.upd, hi, hd] using hw
      · rintro f a0 yw Q' ⟨rfl, hw⟩ hi hd hQ
        replace hQ := Lib.hid hQ
        simp [Iv.depsB, Region.binds] at hd
        try simp only [hi, hd, sl_true, sl_false]
        try simp only [hi, sl_true, sl_false]
        obtain ⟨p0, p1, p2, p3, p4⟩ := (hw.1.knows.at 2 rfl).five
        go_wp2_with fail
        refine hQ.out _ _ ⟨?_, ?_⟩
        · simp [Iv.upd, hi, hd, sl_true, sl_false]
        · simpa [Iv.upd, hi, hd] using hw
      · rintro f a0 yw Q' ⟨rfl, hw⟩ hi hd hQ
        replace hQ := Lib.hid hQ
        simp [Iv.depsB, Region.binds] at hd
        try simp only [hi, hd, sl_true, sl_false]
        try simp only [hi, sl_true, sl_false]
        go_wp2_with fail
        refine hQ.out _ _ ⟨?_, ?_⟩
        · simp [Iv.upd, hi, hd, sl_true, sl_false]
        · simpa [Iv.upd, hi, hd] using hw
      · rintro f a0 yw Q' ⟨rfl, hw⟩ hi hd hQ
        replace hQ := Lib.hid hQ
        simp [Iv.depsB, Region.binds] at hd
        try simp only [hi, hd, sl_true, sl_false]
        try simp only [hi, sl_true, sl_false]
        go_wp2_with fail
        refine (HBr.out _).mono ?_
        rintro e y1 ⟨rfl, hb⟩
        go_wp2_with fail
        refine hQ.out _ _ ⟨?_, ?_⟩
        · simp [Iv.upd, hi, hd, sl_true, sl_false]
        · simpa [Iv.upd, hi, hd] using hw
      · rintro f a0 yw Q' ⟨rfl, hw⟩ hi hd hQ
        replace hQ := Lib.hid hQ
        simp [Iv.depsB, Region.binds] at hd
        try simp only [hi, hd, sl_true, sl_false]
        try simp only [hi, sl_true, sl_false]
        have ww3 : IntKind.i64.wrap (T + vd + q) = T + vd + q := by rw [IntKind.wrap_i64]; omega
        go_wp2_with fail
        refine hQ.out _ _ ⟨?_, ?_⟩
        · simp [Iv.upd, hi, hd, sl_true, sl_false]
        · simpa [Iv.upd, hi, hd] using hw
      · rintro f a0 yw Q' ⟨rfl, hw⟩ hi hd hQ
        replace hQ := Lib.hid hQ
        simp [Iv.depsB, Region.binds] at hd
        try simp only [hi, hd, sl_true, sl_false]
        try simp only [hi, sl_true, sl_false]
        go_wp2_with fail
        refine hQ.out _ _ ⟨?_, ?_⟩
        · simp [Iv.upd, hi, hd, sl_true, sl_false]
        · simpa [Iv.upd, hi, hd] using hw
      · rintro f a0 yw Q' ⟨rfl, hw⟩ hi hd hQ
        replace hQ := Lib.hid hQ
        simp [Iv.depsB, Region.binds] at hd
        try simp only [hi, hd, sl_true, sl_false]
        try simp only [hi, sl_true, sl_false]
        have hwk := hw.1.knows.at 0 rfl
        obtain ⟨c0, c1, c2, c3⟩ := hwk.four
        obtain ⟨d0, d1, d2, d3⟩ := hwk.thaw
        have z0 := hwk.lt
        clear hwk
        have hwn := hw.1.set0 (Nat.le_refl _) hdr 2 (.int .i64 (h + vd))
        go_wp2_with fail
        refine hQ.out _ _ ⟨?_, ?_⟩
        · simp [Iv.upd, hi, hd, sl_true, sl_false]
        · simpa [Iv.upd, hi, hd] using (show _ ∧ _ from ⟨hwn, hw.2.2⟩)
      · rintro f a0 yw Q' ⟨rfl, hw⟩ hi hd hQ
        replace hQ := Lib.hid hQ
        simp [Iv.depsB, Region.binds] at hd
        try simp only [hi, hd, sl_true, sl_false]
        try simp only [hi, sl_true, sl_false]
        go_wp2_with fail
        refine hQ.out _ _ ⟨?_, ?_⟩
        · simp [Iv.upd, hi, hd, sl_true, sl_false]
        · simpa [Iv.upd, hi, hd] using hw
      · rintro f a0 yw Q' ⟨rfl, hw⟩ hi hd hQ
        replace hQ := Lib.hid hQ
        simp [Iv.depsB, Region.binds] at hd
        try simp only [hi, hd, sl_true, sl_false]
        try simp only [hi, sl_true, sl_false]
        have hwk := hw.1.knows.at 0 rfl
        obtain ⟨c0, c1, c2, c3⟩ := hwk.four
        obtain ⟨d0, d1, d2, d3⟩ := hwk.thaw
        have z0 := hwk.lt
        clear hwk
        have hwn := hw.1.set0 (Nat.le_refl _) hdr 3 (.int .i64 (T + vd + q))
        go_wp2_with fail
        refine hQ.out _ _ ⟨?_, ?_⟩
        · simp [Iv.upd, hi, hd, sl_true, sl_false]
        · simpa [Iv.upd, hi, hd] using (show _ ∧ _ from ⟨hwn, hw.2.1⟩)
    · rintro f a0 w2 ⟨rfl, hw⟩ hall
      simp only [hall 0 (by decide), hall 1 (by decide), hall 2 (by decide), hall 3 (by decide), hall 4 (by decide), hall 5 (by decide), hall 6 (by decide), hall 7 (by decide), hall 8 (by decide), hall 9 (by decide), hall 10 (by decide), hall 11 (by decide), hall 12 (by decide), hall 13 (by decide), hall 14 (by decide), hall 15 (by decide), hall 16 (by decide), sl_true, ↓reduceIte] at hw ⊢
      clear hall
      replace H := Lib.hid (hw.1.few (L' := [(w.heap.size + 1 + 1, 49, #[.pointer none, .float .f64 0, .int .i64 0, .int .i64 0]), (w.heap.size + 1, 56, #[.int .u32 vd, .int .i64 vs, .bool false, .int .u16 ve, .int .i64 vo]), (w.heap.size, 49, #[ptr g, .float .f64 x, .int .i64 (h + vd), .int .i64 (T + vd + q)])]) (by simp))
      clear hw
      obtain ⟨q0, q1, q2, q3⟩ := (H.out.knows.at 2 rfl).four
      obtain ⟨t0, t1, t2, t3⟩ := (H.out.knows.at 2 rfl).thaw
      obtain ⟨p0, p1, p2, p3, p4⟩ := (H.out.knows.at 1 rfl).five
      obtain ⟨z0, z1, z2, z3⟩ := (H.out.knows.at 0 rfl).four
      obtain ⟨y0, y1, y2, y3⟩ := (H.out.knows.at 0 rfl).thaw
      have zlt := (H.out.knows.at 0 rfl).lt
      go_wp2_with fail
      refine bodyPost_ret (by simp [results, Try.results19, go_sem, z0, z1, z2, z3, y0, y1, y2, y3, zlt]; try rfl) rfl ?_
      refine ⟨c, rfl, run_still HRK.out HR2.out HX.out HW.out ?_⟩
      have hb := H.out.below
      go_grown
  | true =>
    have HB2 := Lib.hid (fun w0 => brought_any vo ve (by omega) w0)
    have hq2 := bro_range vo ve ge.1
    have HSE := Lib.hid (run_setE HR2.out ve vo (by omega) (by omega) ge)
    have HSR := Lib.hid (fun w0 (k : Clk w0 g (c.set (h + vd) (byT (T + vd + q + bro vo ve)) ve)) => run_set (w := w) HR2.out HX.out ve vo (by omega) (by omega) ge k)
    have HS := Lib.hid (fun w0 (k : Clk w0 g c) => set_any g c (h + vd) (byT (T + vd + q + bro vo ve)) ve ⟨by omega, by omega⟩ (by have := byT_cases (T + vd + q + bro vo ve); exact ⟨by omega, by omega⟩) ⟨by omega, by omega⟩ w0 k)
    rw [HSE.out] at HS
    have hc := byT_cases (T + vd + q + bro vo ve)
    clear HSE
    generalize bro vo ve = qq at *
    generalize byT (T + vd + q + qq) = b at *
    generalize c.set (h + vd) b ve = cb at *
    have hpg : w.heap.size + 1 + 1 ≠ g := by omega
    rcases hc with ⟨k1, rfl⟩ | ⟨k1, rfl⟩
    · skip
      go_enter Try.func19, Try.ntmps19
      obtain ⟨q0, q1, q2, q3⟩ := (H.out.knows.at 2 rfl).four
      obtain ⟨p0, p1, p2, p3, p4⟩ := (H.out.knows.at 1 rfl).five
      go_wp2_with fail
      refine (HP.out _).mono ?_
      rintro r w1 ⟨rfl, hb1⟩
      replace H := Lib.hid (H.out.call hb1)
      clear hb1 q0 q1 q2 q3 p0 p1 p2 p3 p4
      have hdr : ∀ r ∈ ([(w.heap.size + 1 + 1, 49, #[.pointer none, .float .f64 0, .int .i64 0, .int .i64 0]), (w.heap.size + 1, 56, #[.int .u32 vd, .int .i64 vs, .bool true, .int .u16 ve, .int .i64 vo])] : List Row), r.1 ≠ w.heap.size := by intro r hr; simp at hr; rcases hr with rfl | rfl <;> (show _ ≠ _; simp <;> omega)
      replace H := Lib.hid (H.out.few (L' := [(w.heap.size, 49, #[ptr g, .float .f64 x, .int .i64 h, .int .i64 T]), (w.heap.size + 1 + 1, 49, #[.pointer none, .float .f64 0, .int .i64 0, .int .i64 0]), (w.heap.size + 1, 56, #[.int .u32 vd, .int .i64 vs, .bool true, .int .u16 ve, .int .i64 vo])]) (by simp))
      go_wp2_with fail
      refine Iv.region (fun f aa yw => aa = ⟨#[.agg #[ptr g, .float .f64 x, .int .i64 h, .int .i64 T], .agg #[.int .u32 vd, .int .i64 vs, .bool true, .int .u16 ve, .int .i64 vo], .pointer (some ⟨w.heap.size, 0, none⟩), .pointer (some ⟨w.heap.size + 1, 0, none⟩), .pointer (some ⟨w.heap.size + 1 + 1, 0, none⟩), .bool false, .int .i64 vd, .int .i64 m, .int .i64 0, undef, .pointer (some ⟨w.heap.size + 1, 0, none⟩), .int .u32 vd, .int .i64 vd, .tuple #[.int .i64 m, .int .i64 0], .int .i64 vd, .pointer (some ⟨w.heap.size, 1, none⟩), .float .f64 x, .tuple #[.int .i64 m, .int .i64 0], .int .i64 m, .int .i64 0, sl (f 0) (.pointer (some ⟨w.heap.size, 2, none⟩)), sl (f 1) (.int .i64 h), sl (f 2) (.int .i64 vd), sl (f 3) (.int .i64 (h + vd)), sl (f 4) (.pointer (some ⟨w.heap.size, 3, none⟩)), sl (f 5) (.int .i64 T), sl (f 6) (.int .i64 vd), sl (f 7) (.int .i64 (T + vd)), sl (f 8) (.pointer (some ⟨w.heap.size + 1, 1, none⟩)), sl (f 9) (.int .i64 vs), sl (f 10) (.int .i64 m), sl (f 11) (.int .i64 q), sl (f 12) (.int .i64 (T + vd + q)), sl (f 13) (.pointer (some ⟨w.heap.size, 2, none⟩)), sl (f 15) (.pointer (some ⟨w.heap.size, 3, none⟩)), undef, undef, undef, undef, undef, undef, undef, undef, undef, undef, undef, undef, undef, undef, undef, undef, undef, undef, undef, undef, undef, undef, undef, undef, undef, undef], []⟩ ∧ St w yw [(w.heap.size, 49, #[ptr g, .float .f64 x, .int .i64 (if f 14 = true then h + vd else h), .int .i64 (if f 16 = true then T + vd + q else T)]), (w.heap.size + 1 + 1, 49, #[.pointer none, .float .f64 0, .int .i64 0, .int .i64 0]), (w.heap.size + 1, 56, #[.int .u32 vd, .int .i64 vs, .bool true, .int .u16 ve, .int .i64 vo])] ∧ (f 14 = true → f 1 = true) ∧ (f 16 = true → f 5 = true)) (by kernel_rfl) (by kernel_rfl) ?_ ?_ ?_
      · exact ⟨rfl, H.out.drewN 1, (fun h => by cases h), fun h => by cases h⟩
      · refine ⟨?_, ?_, ?_, ?_, ?_, ?_, ?_, ?_, ?_, ?_, ?_, ?_, ?_, ?_, ?_, ?_, ?_, trivial⟩
        · rintro f a0 yw Q' ⟨rfl, hw⟩ hi hd hQ
          replace hQ := Lib.hid hQ
          simp [Iv.depsB, Region.binds] at hd
          try simp only [hi, hd, sl_true, sl_false]
          try simp only [hi, sl_true, sl_false]
          go_wp2_with fail
          refine hQ.out _ _ ⟨?_, ?_⟩
          · simp [Iv.upd, hi, hd, sl_true, sl_false]
          · simpa [Iv.upd, hi, hd] using hw
        · rintro f a0 yw Q' ⟨rfl, hw⟩ hi hd hQ
          replace hQ := Lib.hid hQ
          simp [Iv.depsB, Region.binds] at hd
          try simp only [hi, hd, sl_true, sl_false]
          try simp only [hi, sl_true, sl_false]
          have hwk := hw.1.knows.at 0 rfl
          have ek : f 14 = false := by
            cases hk : f 14 with
            | false => rfl
            | true => have := hw.2.1 hk; rw [hi] at this; cases this
          simp only [ek] at hwk
          obtain ⟨c0, c1, c2, c3⟩ := hwk.four
          clear hwk
          go_wp2_with fail
          refine hQ.out _ _ ⟨?_, ?_⟩
          · simp [Iv.upd, hi, hd, sl_true, sl_false]
          · simpa [Iv.upd, hi, hd] using (show _ ∧ _ from ⟨hw.1, hw.2.2⟩)
        · rintro f a0 yw Q' ⟨rfl, hw⟩ hi hd hQ
          replace hQ := Lib.hid hQ
          simp [Iv.depsB, Region.binds] at hd
          try simp only [hi, hd, sl_true, sl_false]
          try simp only [hi, sl_true, sl_false]
          go_wp2_with fail
          refine hQ.out _ _ ⟨?_, ?_⟩
          · simp [Iv.upd, hi, hd, sl_true, sl_false]
          · simpa [Iv.upd, hi, hd] using hw
        · rintro f a0 yw Q' ⟨rfl, hw⟩ hi hd hQ
          replace hQ := Lib.hid hQ
          simp [Iv.depsB, Region.binds] at hd
          try simp only [hi, hd, sl_true, sl_false]
          try simp only [hi, sl_true, sl_false]
          have ww1 : IntKind.i64.wrap (h + vd) = h + vd := by rw [IntKind.wrap_i64]; omega
          go_wp2_with fail
          refine hQ.out _ _ ⟨?_, ?_⟩
          · simp [Iv.upd, hi, hd, sl_true, sl_false]
          · simpa [Iv.upd, hi, hd] using hw
        · rintro f a0 yw Q' ⟨rfl, hw⟩ hi hd hQ
          replace hQ := Lib.hid hQ
          simp [Iv.depsB, Region.binds] at hd
          try simp only [hi, hd, sl_true, sl_false]
          try simp only [hi, sl_true, sl_false]
          go_wp2_with fail
          refine hQ.out _ _ ⟨?_, ?_⟩
          · simp [Iv.upd, hi, hd, sl_true, sl_false]
          · simpa [Iv.upd, hi, hd] using hw
        · rintro f a0 yw Q' ⟨rfl, hw⟩ hi hd hQ
          replace hQ := Lib.hid hQ
          simp [Iv.depsB, Region.binds] at hd
          try simp only [hi, hd, sl_true, sl_false]
          try simp only [hi, sl_true, sl_false]
          have hwk := hw.1.knows.at 0 rfl
          have ek : f 16 = false := by
            cases hk : f 16 with
            | false => rfl
            | true => have := hw.2.2 hk; rw [hi] at this; cases this
          simp only [ek] at hwk
          obtain ⟨c0, c1, c2, c3⟩ := hwk.four
          clear hwk
          go_wp2_with fail
          refine hQ.out _ _ ⟨?_, ?_⟩
          · simp [Iv.upd, hi, hd, sl_true, sl_false]
          · simpa [Iv.upd, hi, hd] using (show _ ∧ _ from ⟨hw.1, hw.2.1⟩)
        · rintro f a0 yw Q' ⟨rfl, hw⟩ hi hd hQ
          replace hQ := Lib.hid hQ
          simp [Iv.depsB, Region.binds] at hd
          try simp only [hi, hd, sl_true, sl_false]
          try simp only [hi, sl_true, sl_false]
          go_wp2_with fail
          refine hQ.out _ _ ⟨?_, ?_⟩
          · simp [Iv.upd, hi, hd, sl_true, sl_false]
          · simpa [Iv.upd, hi, hd] using hw
        · rintro f a0 yw Q' ⟨rfl, hw⟩ hi hd hQ
          replace hQ := Lib.hid hQ
          simp [Iv.depsB, Region.binds] at hd
          try simp only [hi, hd, sl_true, sl_false]
          try simp only [hi, sl_true, sl_false]
          have ww2 : IntKind.i64.wrap (T + vd) = T + vd := by rw [IntKind.wrap_i64]; omega
          go_wp2_with fail
          refine hQ.out _ _ ⟨?_, ?_⟩
          · simp [Iv.upd, hi, hd, sl_true, sl_false]
          · simpa [Iv.upd, hi, hd] using hw
        · rintro f a0 yw Q' ⟨rfl, hw⟩ hi hd hQ
          replace hQ := Lib.hid hQ
          simp [Iv.depsB, Region.binds] at hd
          try simp only [hi, hd, sl_true, sl_false]
          try simp only [hi, sl_true, sl_false]
          go_wp2_with fail
          refine hQ.out _ _ ⟨?_, ?_⟩
          · simp [Iv.upd, hi, hd, sl_true, sl_false]
          · simpa [Iv.upd, hi, hd] using hw
        · rintro f a0 yw Q' ⟨rfl, hw⟩ hi hd hQ
          replace hQ := Lib.hid hQ
          simp [Iv.depsB, Region.binds] at hd
          try simp only [hi, hd, sl_true, sl_false]
          try simp only [hi, sl_true, sl_false]
          obtain ⟨p0, p1, p2, p3, p4⟩ := (hw.1.knows.at 2 rfl).five
          go_wp2_with fail
          refine hQ.out _ _ ⟨?_, ?_⟩
          · simp [Iv.upd, hi, hd, sl_true, sl_false]
          · simpa [Iv.upd, hi, hd] using hw
        · rintro f a0 yw Q' ⟨rfl, hw⟩ hi hd hQ
          replace hQ := Lib.hid hQ
          simp [Iv.depsB, Region.binds] at hd
          try simp only [hi, hd, sl_true, sl_false]
          try simp only [hi, sl_true, sl_false]
          go_wp2_with fail
          refine hQ.out _ _ ⟨?_, ?_⟩
          · simp [Iv.upd, hi, hd, sl_true, sl_false]
          · simpa [Iv.upd, hi, hd] using hw
        · rintro f a0 yw Q' ⟨rfl, hw⟩ hi hd hQ
          replace hQ := Lib.hid hQ
          simp [Iv.depsB, Region.binds] at hd
          try simp only [hi, hd, sl_true, sl_false]
          try simp only [hi, sl_true, sl_false]
          go_wp2_with fail
          refine (HBr.out _).mono ?_
          rintro e y1 ⟨rfl, hb⟩
          go_wp2_with fail
          refine hQ.out _ _ ⟨?_, ?_⟩
          · simp [Iv.upd, hi, hd, sl_true, sl_false]
          · simpa [Iv.upd, hi, hd] using hw
        · rintro f a0 yw Q' ⟨rfl, hw⟩ hi hd hQ
          replace hQ := Lib.hid hQ
          simp [Iv.depsB, Region.binds] at hd
          try simp only [hi, hd, sl_true, sl_false]
          try simp only [hi, sl_true, sl_false]
          have ww3 : IntKind.i64.wrap (T + vd + q) = T + vd + q := by rw [IntKind.wrap_i64]; omega
          go_wp2_with fail
          refine hQ.out _ _ ⟨?_, ?_⟩
          · simp [Iv.upd, hi, hd, sl_true, sl_false]
          · simpa [Iv.upd, hi, hd] using hw
        · rintro f a0 yw Q' ⟨rfl, hw⟩ hi hd hQ
          replace hQ := Lib.hid hQ
          simp [Iv.depsB, Region.binds] at hd
          try simp only [hi, hd, sl_true, sl_false]
          try simp only [hi, sl_true, sl_false]
          go_wp2_with fail
          refine hQ.out _ _ ⟨?_, ?_⟩
          · simp [Iv.upd, hi, hd, sl_true, sl_false]
          · simpa [Iv.upd, hi, hd] using hw
        · rintro f a0 yw Q' ⟨rfl, hw⟩ hi hd hQ
          replace hQ := Lib.hid hQ
          simp [Iv.depsB, Region.binds] at hd
          try simp only [hi, hd, sl_true, sl_false]
          try simp only [hi, sl_true, sl_false]
          have hwk := hw.1.knows.at 0 rfl
          obtain ⟨c0, c1, c2, c3⟩ := hwk.four
          obtain ⟨d0, d1, d2, d3⟩ := hwk.thaw
          have z0 := hwk.lt
          clear hwk
          have hwn := hw.1.set0 (Nat.le_refl _) hdr 2 (.int .i64 (h + vd))
          go_wp2_with fail
          refine hQ.out _ _ ⟨?_, ?_⟩
          · simp [Iv.upd, hi, hd, sl_true, sl_false]
          · simpa [Iv.upd, hi, hd] using (show _ ∧ _ from ⟨hwn, hw.2.2⟩)
        · rintro f a0 yw Q' ⟨rfl, hw⟩ hi hd hQ
          replace hQ := Lib.hid hQ
          simp [Iv.depsB, Region.binds] at hd
          try simp only [hi, hd, sl_true, sl_false]
          try simp only [hi, sl_true, sl_false]
          go_wp2_with fail
          refine hQ.out _ _ ⟨?_, ?_⟩
          · simp [Iv.upd, hi, hd, sl_true, sl_false]
          · simpa [Iv.upd, hi, hd] using hw
        · rintro f a0 yw Q' ⟨rfl, hw⟩ hi hd hQ
          replace hQ := Lib.hid hQ
          simp [Iv.depsB, Region.binds] at hd
          try simp only [hi, hd, sl_true, sl_false]
          try simp only [hi, sl_true, sl_false]
          have hwk := hw.1.knows.at 0 rfl
          obtain ⟨c0, c1, c2, c3⟩ := hwk.four
          obtain ⟨d0, d1, d2, d3⟩ := hwk.thaw
          have z0 := hwk.lt
          clear hwk
          have hwn := hw.1.set0 (Nat.le_refl _) hdr 3 (.int .i64 (T + vd + q))
          go_wp2_with fail
          refine hQ.out _ _ ⟨?_, ?_⟩
          · simp [Iv.upd, hi, hd, sl_true, sl_false]
          · simpa [Iv.upd, hi, hd] using (show _ ∧ _ from ⟨hwn, hw.2.1⟩)
      · rintro f a0 w2 ⟨rfl, hw⟩ hall
        simp only [hall 0 (by decide), hall 1 (by decide), hall 2 (by decide), hall 3 (by decide), hall 4 (by decide), hall 5 (by decide), hall 6 (by decide), hall 7 (by decide), hall 8 (by decide), hall 9 (by decide), hall 10 (by decide), hall 11 (by decide), hall 12 (by decide), hall 13 (by decide), hall 14 (by decide), hall 15 (by decide), hall 16 (by decide), sl_true, ↓reduceIte] at hw ⊢
        clear hall
        replace H := Lib.hid (hw.1.few (L' := [(w.heap.size + 1 + 1, 49, #[.pointer none, .float .f64 0, .int .i64 0, .int .i64 0]), (w.heap.size + 1, 56, #[.int .u32 vd, .int .i64 vs, .bool true, .int .u16 ve, .int .i64 vo]), (w.heap.size, 49, #[ptr g, .float .f64 x, .int .i64 (h + vd), .int .i64 (T + vd + q)])]) (by simp))
        clear hw
        obtain ⟨q0, q1, q2, q3⟩ := (H.out.knows.at 2 rfl).four
        obtain ⟨t0, t1, t2, t3⟩ := (H.out.knows.at 2 rfl).thaw
        obtain ⟨p0, p1, p2, p3, p4⟩ := (H.out.knows.at 1 rfl).five
        obtain ⟨z0, z1, z2, z3⟩ := (H.out.knows.at 0 rfl).four
        obtain ⟨y0, y1, y2, y3⟩ := (H.out.knows.at 0 rfl).thaw
        have zlt := (H.out.knows.at 0 rfl).lt
        go_wp2_with fail
        have HS9 := Lib.hid (H.out.few (L' := [(w.heap.size, 49, #[ptr g, .float .f64 x, .int .i64 (h + vd), .int .i64 (T + vd + q)]), (w.heap.size + 1 + 1, 49, #[.pointer none, .float .f64 0, .int .i64 0, .int .i64 0]), (w.heap.size + 1, 56, #[.int .u32 vd, .int .i64 vs, .bool true, .int .u16 ve, .int .i64 vo])]) (by simp))
        go_quiet ((go_at_call 28; exact Calls.quiet_of_same ((HB2.out _).mono (by rintro e x ⟨rfl, rfl⟩; exact ⟨rfl, rfl⟩))))
        go_wp2_with fail
        have hfr : ∀ r ∈ ([(w.heap.size, 49, #[ptr g, .float .f64 x, .int .i64 (h + vd), .int .i64 (T + vd + q)]), (w.heap.size + 1, 56, #[.int .u32 vd, .int .i64 vs, .bool true, .int .u16 ve, .int .i64 vo])] : List Row), r.1 ≠ g := by intro r hr; simp at hr; rcases hr with rfl | rfl <;> (show _ ≠ _; simp <;> omega)
        have hdp : ∀ r ∈ ([(w.heap.size, 49, #[ptr g, .float .f64 x, .int .i64 (h + vd), .int .i64 (T + vd + q)]), (w.heap.size + 1, 56, #[.int .u32 vd, .int .i64 vs, .bool true, .int .u16 ve, .int .i64 vo])] : List Row), r.1 ≠ w.heap.size + 1 + 1 := by intro r hr; simp at hr; rcases hr with rfl | rfl <;> (show _ ≠ _; simp <;> omega)
        refine Iv.region (fun f aa yw => aa = ⟨#[.agg #[ptr g, .float .f64 x, .int .i64 h, .int .i64 T], .agg #[.int .u32 vd, .int .i64 vs, .bool true, .int .u16 ve, .int .i64 vo], .pointer (some ⟨w.heap.size, 0, none⟩), .pointer (some ⟨w.heap.size + 1, 0, none⟩), .pointer (some ⟨w.heap.size + 1 + 1, 0, none⟩), (if f 12 = true then Value.bool true else Value.bool false), .int .i64 vd, .int .i64 m, .int .i64 0, .int .i64 (0), .pointer (some ⟨w.heap.size + 1, 0, none⟩), .int .u32 vd, .int .i64 vd, .tuple #[.int .i64 m, .int .i64 0], .int .i64 vd, .pointer (some ⟨w.heap.size, 1, none⟩), .float .f64 x, .tuple #[.int .i64 m, .int .i64 0], .int .i64 m, .int .i64 0, .pointer (some ⟨w.heap.size, 2, none⟩), .int .i64 h, .int .i64 vd, .int .i64 (h + vd), .pointer (some ⟨w.heap.size, 3, none⟩), .int .i64 T, .int .i64 vd, .int .i64 (T + vd), .pointer (some ⟨w.heap.size + 1, 1, none⟩), .int .i64 vs, .int .i64 m, .int .i64 q, .int .i64 (T + vd + q), .pointer (some ⟨w.heap.size, 2, none⟩), .pointer (some ⟨w.heap.size, 3, none⟩), .pointer (some ⟨w.heap.size + 1, 2, none⟩), .bool true, .bool false, undef, .pointer (some ⟨w.heap.size, 3, none⟩), .int .i64 (T + vd + q), .pointer (some ⟨w.heap.size + 1, 4, none⟩), .int .i64 vo, .pointer (some ⟨w.heap.size + 1, 3, none⟩), .int .u16 ve, .int .i64 ve, .int .i64 qq, .int .i64 (T + vd + q + qq), .int .i64 (T + vd + q + qq), .bool true, sl (f 0) (.agg #[ptr g, .float .f64 x, .int .i64 (h + vd), .int .i64 (T + vd + q)]), sl (f 1) (.pointer (some ⟨w.heap.size, 0, none⟩)), sl (f 2) (ptr g), sl (f 3) (.pointer (some ⟨w.heap.size, 2, none⟩)), sl (f 4) (.int .i64 (h + vd)), sl (f 5) (.int .i64 (0)), sl (f 6) (.pointer (some ⟨w.heap.size + 1, 3, none⟩)), sl (f 7) (.int .u16 ve), sl (f 8) (.int .i64 ve), sl (f 9) (.int .i64 0), sl (f 10) (.bool true)], []⟩ ∧ Sk g w yw [(w.heap.size, 49, #[ptr g, .float .f64 x, .int .i64 (h + vd), .int .i64 (T + vd + q)]), (w.heap.size + 1, 56, #[.int .u32 vd, .int .i64 vs, .bool true, .int .u16 ve, .int .i64 vo])] (w.heap.size + 1 + 1) 49 #[.pointer none, .float .f64 0, .int .i64 0, .int .i64 0] #[ptr g, .float .f64 x, .int .i64 (h + vd), .int .i64 (T + vd + q)] (f 11) (if f 9 = true then cb else c)) (by kernel_rfl) (by kernel_rfl) ?_ ?_ ?_
        · exact ⟨rfl, sk_start HRK.out ((HS9.out.drewN _).drewN 1) _⟩
        · refine ⟨?_, ?_, ?_, ?_, ?_, ?_, ?_, ?_, ?_, ?_, ?_, ?_, ?_, trivial⟩
          · rintro f a0 yw Q' ⟨rfl, hw⟩ hi hd hQ
            replace hQ := Lib.hid hQ
            simp [Iv.depsB, Region.binds] at hd
            try simp only [hi, hd, sl_true, sl_false]
            try simp only [hi, sl_true, sl_false]
            obtain ⟨c0, c1, c2, c3⟩ := (hw.old.at 0 rfl).four
            go_wp2_with fail
            refine hQ.out _ _ ⟨?_, ?_⟩
            · simp [Iv.upd, hi, hd, sl_true, sl_false]
            · simpa [Iv.upd, hi, hd] using hw
          · rintro f a0 yw Q' ⟨rfl, hw⟩ hi hd hQ
            replace hQ := Lib.hid hQ
            simp [Iv.depsB, Region.binds] at hd
            try simp only [hi, hd, sl_true, sl_false]
            try simp only [hi, sl_true, sl_false]
            go_wp2_with fail
            refine hQ.out _ _ ⟨?_, ?_⟩
            · simp [Iv.upd, hi, hd, sl_true, sl_false]
            · simpa [Iv.upd, hi, hd] using hw
          · rintro f a0 yw Q' ⟨rfl, hw⟩ hi hd hQ
            replace hQ := Lib.hid hQ
            simp [Iv.depsB, Region.binds] at hd
            try simp only [hi, hd, sl_true, sl_false]
            try simp only [hi, sl_true, sl_false]
            obtain ⟨c0, c1, c2, c3⟩ := (hw.old.at 0 rfl).four
            go_wp2_with fail
            refine hQ.out _ _ ⟨?_, ?_⟩
            · simp [Iv.upd, hi, hd, sl_true, sl_false]
            · simpa [Iv.upd, hi, hd] using hw
          · rintro f a0 yw Q' ⟨rfl, hw⟩ hi hd hQ
            replace hQ := Lib.hid hQ
            simp [Iv.depsB, Region.binds] at hd
            try simp only [hi, hd, sl_true, sl_false]
            try simp only [hi, sl_true, sl_false]
            go_wp2_with fail
            refine hQ.out _ _ ⟨?_, ?_⟩
            · simp [Iv.upd, hi, hd, sl_true, sl_false]
            · simpa [Iv.upd, hi, hd] using hw
          · rintro f a0 yw Q' ⟨rfl, hw⟩ hi hd hQ
            replace hQ := Lib.hid hQ
            simp [Iv.depsB, Region.binds] at hd
            try simp only [hi, hd, sl_true, sl_false]
            try simp only [hi, sl_true, sl_false]
            obtain ⟨c0, c1, c2, c3⟩ := (hw.old.at 0 rfl).four
            go_wp2_with fail
            refine hQ.out _ _ ⟨?_, ?_⟩
            · simp [Iv.upd, hi, hd, sl_true, sl_false]
            · simpa [Iv.upd, hi, hd] using hw
          · rintro f a0 yw Q' ⟨rfl, hw⟩ hi hd hQ
            replace hQ := Lib.hid hQ
            simp [Iv.depsB, Region.binds] at hd
            try simp only [hi, hd, sl_true, sl_false]
            try simp only [hi, sl_true, sl_false]
            go_wp2_with fail
            refine hQ.out _ _ ⟨?_, ?_⟩
            · simp [Iv.upd, hi, hd, sl_true, sl_false]
            · simpa [Iv.upd, hi, hd] using hw
          · rintro f a0 yw Q' ⟨rfl, hw⟩ hi hd hQ
            replace hQ := Lib.hid hQ
            simp [Iv.depsB, Region.binds] at hd
            try simp only [hi, hd, sl_true, sl_false]
            try simp only [hi, sl_true, sl_false]
            go_wp2_with fail
            refine hQ.out _ _ ⟨?_, ?_⟩
            · simp [Iv.upd, hi, hd, sl_true, sl_false]
            · simpa [Iv.upd, hi, hd] using hw
          · rintro f a0 yw Q' ⟨rfl, hw⟩ hi hd hQ
            replace hQ := Lib.hid hQ
            simp [Iv.depsB, Region.binds] at hd
            try simp only [hi, hd, sl_true, sl_false]
            try simp only [hi, sl_true, sl_false]
            obtain ⟨p0, p1, p2, p3, p4⟩ := (hw.old.at 1 rfl).five
            go_wp2_with fail
            refine hQ.out _ _ ⟨?_, ?_⟩
            · simp [Iv.upd, hi, hd, sl_true, sl_false]
            · simpa [Iv.upd, hi, hd] using hw
          · rintro f a0 yw Q' ⟨rfl, hw⟩ hi hd hQ
            replace hQ := Lib.hid hQ
            simp [Iv.depsB, Region.binds] at hd
            try simp only [hi, hd, sl_true, sl_false]
            try simp only [hi, sl_true, sl_false]
            go_wp2_with fail
            refine hQ.out _ _ ⟨?_, ?_⟩
            · simp [Iv.upd, hi, hd, sl_true, sl_false]
            · simpa [Iv.upd, hi, hd] using hw
          · rintro f a0 yw Q' ⟨rfl, hw⟩ hi hd hQ
            replace hQ := Lib.hid hQ
            simp [Iv.depsB, Region.binds] at hd
            try simp only [hi, hd, sl_true, sl_false]
            try simp only [hi, sl_true, sl_false]
            go_wp2_with fail
            refine (HS.out _ (by simpa [hi] using hw.clk)).mono ?_
            rintro e y1 ⟨rfl, hb⟩
            go_wp2_with fail
            refine hQ.out _ _ ⟨?_, ?_⟩
            · simp [Iv.upd, hi, hd, sl_true, sl_false]
            · simpa [Iv.upd, hi, hd] using (hw.turn hpg hfr hb.1 hb.2)
          · rintro f a0 yw Q' ⟨rfl, hw⟩ hi hd hQ
            replace hQ := Lib.hid hQ
            simp [Iv.depsB, Region.binds] at hd
            try simp only [hi, hd, sl_true, sl_false]
            try simp only [hi, sl_true, sl_false]
            go_wp2_with fail
            refine hQ.out _ _ ⟨?_, ?_⟩
            · simp [Iv.upd, hi, hd, sl_true, sl_false]
            · simpa [Iv.upd, hi, hd] using hw
          · rintro f a0 yw Q' ⟨rfl, hw⟩ hi hd hQ
            replace hQ := Lib.hid hQ
            simp [Iv.depsB, Region.binds] at hd
            try simp only [hi, hd, sl_true, sl_false]
            try simp only [hi, sl_true, sl_false]
            have hw2 := hw
            rw [hi] at hw2
            have hwk : Whole yw (w.heap.size + 1 + 1) 49 #[.pointer none, .float .f64 0, .int .i64 0, .int .i64 0] := hw2.knows.at 0 rfl
            obtain ⟨c0, c1, c2, c3⟩ := hwk.four
            obtain ⟨d0, d1, d2, d3⟩ := hwk.thaw
            have z0 := hwk.lt
            clear hwk
            have hwn := hw2.stored4 (by omega) hdp (by decide) (by decide)
            go_wp2_with fail
            refine hQ.out _ _ ⟨?_, ?_⟩
            · simp [Iv.upd, hi, hd, sl_true, sl_false]
            · simpa [Iv.upd, hi, hd] using hwn
          · rintro f a0 yw Q' ⟨rfl, hw⟩ hi hd hQ
            replace hQ := Lib.hid hQ
            simp [Iv.depsB, Region.binds] at hd
            try simp only [hi, hd, sl_true, sl_false]
            try simp only [hi, sl_true, sl_false]
            go_wp2_with fail
            refine hQ.out _ _ ⟨?_, ?_⟩
            · simp [Iv.upd, hi, hd, sl_true, sl_false]
            · simpa [Iv.upd, hi, hd] using hw
        · rintro f a0 wz ⟨rfl, hw⟩ hall
          simp only [hall 0 (by decide), hall 1 (by decide), hall 2 (by decide), hall 3 (by decide), hall 4 (by decide), hall 5 (by decide), hall 6 (by decide), hall 7 (by decide), hall 8 (by decide), hall 9 (by decide), hall 10 (by decide), hall 11 (by decide), hall 12 (by decide), sl_true, ↓reduceIte] at hw ⊢
          clear hall
          have hwk : Whole wz (w.heap.size + 1 + 1) 49 #[ptr g, .float .f64 x, .int .i64 (h + vd), .int .i64 (T + vd + q)] := hw.knows.at 0 rfl
          obtain ⟨c0, c1, c2, c3⟩ := hwk.four
          obtain ⟨d0, d1, d2, d3⟩ := hwk.thaw
          have z0 := hwk.lt
          have HWB := Lib.hid hw.but
          have HWC := Lib.hid (show Clk wz g cb from hw.clk)
          clear hwk hw
          go_wp2_with fail
          refine bodyPost_ret (by simp [results, Try.results19, go_sem, c0, c1, c2, c3, d0, d1, d2, d3, z0]; try rfl) rfl ?_
          exact ⟨cb, rfl, HWB.out, HSR.out _ HWC.out⟩
    · skip
      go_enter Try.func19, Try.ntmps19
      obtain ⟨q0, q1, q2, q3⟩ := (H.out.knows.at 2 rfl).four
      obtain ⟨p0, p1, p2, p3, p4⟩ := (H.out.knows.at 1 rfl).five
      go_wp2_with fail
      refine (HP.out _).mono ?_
      rintro r w1 ⟨rfl, hb1⟩
      replace H := Lib.hid (H.out.call hb1)
      clear hb1 q0 q1 q2 q3 p0 p1 p2 p3 p4
      have hdr : ∀ r ∈ ([(w.heap.size + 1 + 1, 49, #[.pointer none, .float .f64 0, .int .i64 0, .int .i64 0]), (w.heap.size + 1, 56, #[.int .u32 vd, .int .i64 vs, .bool true, .int .u16 ve, .int .i64 vo])] : List Row), r.1 ≠ w.heap.size := by intro r hr; simp at hr; rcases hr with rfl | rfl <;> (show _ ≠ _; simp <;> omega)
      replace H := Lib.hid (H.out.few (L' := [(w.heap.size, 49, #[ptr g, .float .f64 x, .int .i64 h, .int .i64 T]), (w.heap.size + 1 + 1, 49, #[.pointer none, .float .f64 0, .int .i64 0, .int .i64 0]), (w.heap.size + 1, 56, #[.int .u32 vd, .int .i64 vs, .bool true, .int .u16 ve, .int .i64 vo])]) (by simp))
      go_wp2_with fail
      refine Iv.region (fun f aa yw => aa = ⟨#[.agg #[ptr g, .float .f64 x, .int .i64 h, .int .i64 T], .agg #[.int .u32 vd, .int .i64 vs, .bool true, .int .u16 ve, .int .i64 vo], .pointer (some ⟨w.heap.size, 0, none⟩), .pointer (some ⟨w.heap.size + 1, 0, none⟩), .pointer (some ⟨w.heap.size + 1 + 1, 0, none⟩), .bool false, .int .i64 vd, .int .i64 m, .int .i64 0, undef, .pointer (some ⟨w.heap.size + 1, 0, none⟩), .int .u32 vd, .int .i64 vd, .tuple #[.int .i64 m, .int .i64 0], .int .i64 vd, .pointer (some ⟨w.heap.size, 1, none⟩), .float .f64 x, .tuple #[.int .i64 m, .int .i64 0], .int .i64 m, .int .i64 0, sl (f 0) (.pointer (some ⟨w.heap.size, 2, none⟩)), sl (f 1) (.int .i64 h), sl (f 2) (.int .i64 vd), sl (f 3) (.int .i64 (h + vd)), sl (f 4) (.pointer (some ⟨w.heap.size, 3, none⟩)), sl (f 5) (.int .i64 T), sl (f 6) (.int .i64 vd), sl (f 7) (.int .i64 (T + vd)), sl (f 8) (.pointer (some ⟨w.heap.size + 1, 1, none⟩)), sl (f 9) (.int .i64 vs), sl (f 10) (.int .i64 m), sl (f 11) (.int .i64 q), sl (f 12) (.int .i64 (T + vd + q)), sl (f 13) (.pointer (some ⟨w.heap.size, 2, none⟩)), sl (f 15) (.pointer (some ⟨w.heap.size, 3, none⟩)), undef, undef, undef, undef, undef, undef, undef, undef, undef, undef, undef, undef, undef, undef, undef, undef, undef, undef, undef, undef, undef, undef, undef, undef, undef, undef], []⟩ ∧ St w yw [(w.heap.size, 49, #[ptr g, .float .f64 x, .int .i64 (if f 14 = true then h + vd else h), .int .i64 (if f 16 = true then T + vd + q else T)]), (w.heap.size + 1 + 1, 49, #[.pointer none, .float .f64 0, .int .i64 0, .int .i64 0]), (w.heap.size + 1, 56, #[.int .u32 vd, .int .i64 vs, .bool true, .int .u16 ve, .int .i64 vo])] ∧ (f 14 = true → f 1 = true) ∧ (f 16 = true → f 5 = true)) (by kernel_rfl) (by kernel_rfl) ?_ ?_ ?_
      · exact ⟨rfl, H.out.drewN 1, (fun h => by cases h), fun h => by cases h⟩
      · refine ⟨?_, ?_, ?_, ?_, ?_, ?_, ?_, ?_, ?_, ?_, ?_, ?_, ?_, ?_, ?_, ?_, ?_, trivial⟩
        · rintro f a0 yw Q' ⟨rfl, hw⟩ hi hd hQ
          replace hQ := Lib.hid hQ
          simp [Iv.depsB, Region.binds] at hd
          try simp only [hi, hd, sl_true, sl_false]
          try simp only [hi, sl_true, sl_false]
          go_wp2_with fail
          refine hQ.out _ _ ⟨?_, ?_⟩
          · simp [Iv.upd, hi, hd, sl_true, sl_false]
          · simpa [Iv.upd, hi, hd] using hw
        · rintro f a0 yw Q' ⟨rfl, hw⟩ hi hd hQ
          replace hQ := Lib.hid hQ
          simp [Iv.depsB, Region.binds] at hd
          try simp only [hi, hd, sl_true, sl_false]
          try simp only [hi, sl_true, sl_false]
          have hwk := hw.1.knows.at 0 rfl
          have ek : f 14 = false := by
            cases hk : f 14 with
            | false => rfl
            | true => have := hw.2.1 hk; rw [hi] at this; cases this
          simp only [ek] at hwk
          obtain ⟨c0, c1, c2, c3⟩ := hwk.four
          clear hwk
          go_wp2_with fail
          refine hQ.out _ _ ⟨?_, ?_⟩
          · simp [Iv.upd, hi, hd, sl_true, sl_false]
          · simpa [Iv.upd, hi, hd] using (show _ ∧ _ from ⟨hw.1, hw.2.2⟩)
        · rintro f a0 yw Q' ⟨rfl, hw⟩ hi hd hQ
          replace hQ := Lib.hid hQ
          simp [Iv.depsB, Region.binds] at hd
          try simp only [hi, hd, sl_true, sl_false]
          try simp only [hi, sl_true, sl_false]
          go_wp2_with fail
          refine hQ.out _ _ ⟨?_, ?_⟩
          · simp [Iv.upd, hi, hd, sl_true, sl_false]
          · simpa [Iv.upd, hi, hd] using hw
        · rintro f a0 yw Q' ⟨rfl, hw⟩ hi hd hQ
          replace hQ := Lib.hid hQ
          simp [Iv.depsB, Region.binds] at hd
          try simp only [hi, hd, sl_true, sl_false]
          try simp only [hi, sl_true, sl_false]
          have ww1 : IntKind.i64.wrap (h + vd) = h + vd := by rw [IntKind.wrap_i64]; omega
          go_wp2_with fail
          refine hQ.out _ _ ⟨?_, ?_⟩
          · simp [Iv.upd, hi, hd, sl_true, sl_false]
          · simpa [Iv.upd, hi, hd] using hw
        · rintro f a0 yw Q' ⟨rfl, hw⟩ hi hd hQ
          replace hQ := Lib.hid hQ
          simp [Iv.depsB, Region.binds] at hd
          try simp only [hi, hd, sl_true, sl_false]
          try simp only [hi, sl_true, sl_false]
          go_wp2_with fail
          refine hQ.out _ _ ⟨?_, ?_⟩
          · simp [Iv.upd, hi, hd, sl_true, sl_false]
          · simpa [Iv.upd, hi, hd] using hw
        · rintro f a0 yw Q' ⟨rfl, hw⟩ hi hd hQ
          replace hQ := Lib.hid hQ
          simp [Iv.depsB, Region.binds] at hd
          try simp only [hi, hd, sl_true, sl_false]
          try simp only [hi, sl_true, sl_false]
          have hwk := hw.1.knows.at 0 rfl
          have ek : f 16 = false := by
            cases hk : f 16 with
            | false => rfl
            | true => have := hw.2.2 hk; rw [hi] at this; cases this
          simp only [ek] at hwk
          obtain ⟨c0, c1, c2, c3⟩ := hwk.four
          clear hwk
          go_wp2_with fail
          refine hQ.out _ _ ⟨?_, ?_⟩
          · simp [Iv.upd, hi, hd, sl_true, sl_false]
          · simpa [Iv.upd, hi, hd] using (show _ ∧ _ from ⟨hw.1, hw.2.1⟩)
        · rintro f a0 yw Q' ⟨rfl, hw⟩ hi hd hQ
          replace hQ := Lib.hid hQ
          simp [Iv.depsB, Region.binds] at hd
          try simp only [hi, hd, sl_true, sl_false]
          try simp only [hi, sl_true, sl_false]
          go_wp2_with fail
          refine hQ.out _ _ ⟨?_, ?_⟩
          · simp [Iv.upd, hi, hd, sl_true, sl_false]
          · simpa [Iv.upd, hi, hd] using hw
        · rintro f a0 yw Q' ⟨rfl, hw⟩ hi hd hQ
          replace hQ := Lib.hid hQ
          simp [Iv.depsB, Region.binds] at hd
          try simp only [hi, hd, sl_true, sl_false]
          try simp only [hi, sl_true, sl_false]
          have ww2 : IntKind.i64.wrap (T + vd) = T + vd := by rw [IntKind.wrap_i64]; omega
          go_wp2_with fail
          refine hQ.out _ _ ⟨?_, ?_⟩
          · simp [Iv.upd, hi, hd, sl_true, sl_false]
          · simpa [Iv.upd, hi, hd] using hw
        · rintro f a0 yw Q' ⟨rfl, hw⟩ hi hd hQ
          replace hQ := Lib.hid hQ
          simp [Iv.depsB, Region.binds] at hd
          try simp only [hi, hd, sl_true, sl_false]
          try simp only [hi, sl_true, sl_false]
          go_wp2_with fail
          refine hQ.out _ _ ⟨?_, ?_⟩
          · simp [Iv.upd, hi, hd, sl_true, sl_false]
          · simpa [Iv.upd, hi, hd] using hw
        · rintro f a0 yw Q' ⟨rfl, hw⟩ hi hd hQ
          replace hQ := Lib.hid hQ
          simp [Iv.depsB, Region.binds] at hd
          try simp only [hi, hd, sl_true, sl_false]
          try simp only [hi, sl_true, sl_false]
          obtain ⟨p0, p1, p2, p3, p4⟩ := (hw.1.knows.at 2 rfl).five
          go_wp2_with fail
          refine hQ.out _ _ ⟨?_, ?_⟩
          · simp [Iv.upd, hi, hd, sl_true, sl_false]
          · simpa [Iv.upd, hi, hd] using hw
        · rintro f a0 yw Q' ⟨rfl, hw⟩ hi hd hQ
          replace hQ := Lib.hid hQ
          simp [Iv.depsB, Region.binds] at hd
          try simp only [hi, hd, sl_true, sl_false]
          try simp only [hi, sl_true, sl_false]
          go_wp2_with fail
          refine hQ.out _ _ ⟨?_, ?_⟩
          · simp [Iv.upd, hi, hd, sl_true, sl_false]
          · simpa [Iv.upd, hi, hd] using hw
        · rintro f a0 yw Q' ⟨rfl, hw⟩ hi hd hQ
          replace hQ := Lib.hid hQ
          simp [Iv.depsB, Region.binds] at hd
          try simp only [hi, hd, sl_true, sl_false]
          try simp only [hi, sl_true, sl_false]
          go_wp2_with fail
          refine (HBr.out _).mono ?_
          rintro e y1 ⟨rfl, hb⟩
          go_wp2_with fail
          refine hQ.out _ _ ⟨?_, ?_⟩
          · simp [Iv.upd, hi, hd, sl_true, sl_false]
          · simpa [Iv.upd, hi, hd] using hw
        · rintro f a0 yw Q' ⟨rfl, hw⟩ hi hd hQ
          replace hQ := Lib.hid hQ
          simp [Iv.depsB, Region.binds] at hd
          try simp only [hi, hd, sl_true, sl_false]
          try simp only [hi, sl_true, sl_false]
          have ww3 : IntKind.i64.wrap (T + vd + q) = T + vd + q := by rw [IntKind.wrap_i64]; omega
          go_wp2_with fail
          refine hQ.out _ _ ⟨?_, ?_⟩
          · simp [Iv.upd, hi, hd, sl_true, sl_false]
          · simpa [Iv.upd, hi, hd] using hw
        · rintro f a0 yw Q' ⟨rfl, hw⟩ hi hd hQ
          replace hQ := Lib.hid hQ
          simp [Iv.depsB, Region.binds] at hd
          try simp only [hi, hd, sl_true, sl_false]
          try simp only [hi, sl_true, sl_false]
          go_wp2_with fail
          refine hQ.out _ _ ⟨?_, ?_⟩
          · simp [Iv.upd, hi, hd, sl_true, sl_false]
          · simpa [Iv.upd, hi, hd] using hw
        · rintro f a0 yw Q' ⟨rfl, hw⟩ hi hd hQ
          replace hQ := Lib.hid hQ
          simp [Iv.depsB, Region.binds] at hd
          try simp only [hi, hd, sl_true, sl_false]
          try simp only [hi, sl_true, sl_false]
          have hwk := hw.1.knows.at 0 rfl
          obtain ⟨c0, c1, c2, c3⟩ := hwk.four
          obtain ⟨d0, d1, d2, d3⟩ := hwk.thaw
          have z0 := hwk.lt
          clear hwk
          have hwn := hw.1.set0 (Nat.le_refl _) hdr 2 (.int .i64 (h + vd))
          go_wp2_with fail
          refine hQ.out _ _ ⟨?_, ?_⟩
          · simp [Iv.upd, hi, hd, sl_true, sl_false]
          · simpa [Iv.upd, hi, hd] using (show _ ∧ _ from ⟨hwn, hw.2.2⟩)
        · rintro f a0 yw Q' ⟨rfl, hw⟩ hi hd hQ
          replace hQ := Lib.hid hQ
          simp [Iv.depsB, Region.binds] at hd
          try simp only [hi, hd, sl_true, sl_false]
          try simp only [hi, sl_true, sl_false]
          go_wp2_with fail
          refine hQ.out _ _ ⟨?_, ?_⟩
          · simp [Iv.upd, hi, hd, sl_true, sl_false]
          · simpa [Iv.upd, hi, hd] using hw
        · rintro f a0 yw Q' ⟨rfl, hw⟩ hi hd hQ
          replace hQ := Lib.hid hQ
          simp [Iv.depsB, Region.binds] at hd
          try simp only [hi, hd, sl_true, sl_false]
          try simp only [hi, sl_true, sl_false]
          have hwk := hw.1.knows.at 0 rfl
          obtain ⟨c0, c1, c2, c3⟩ := hwk.four
          obtain ⟨d0, d1, d2, d3⟩ := hwk.thaw
          have z0 := hwk.lt
          clear hwk
          have hwn := hw.1.set0 (Nat.le_refl _) hdr 3 (.int .i64 (T + vd + q))
          go_wp2_with fail
          refine hQ.out _ _ ⟨?_, ?_⟩
          · simp [Iv.upd, hi, hd, sl_true, sl_false]
          · simpa [Iv.upd, hi, hd] using (show _ ∧ _ from ⟨hwn, hw.2.1⟩)
      · rintro f a0 w2 ⟨rfl, hw⟩ hall
        simp only [hall 0 (by decide), hall 1 (by decide), hall 2 (by decide), hall 3 (by decide), hall 4 (by decide), hall 5 (by decide), hall 6 (by decide), hall 7 (by decide), hall 8 (by decide), hall 9 (by decide), hall 10 (by decide), hall 11 (by decide), hall 12 (by decide), hall 13 (by decide), hall 14 (by decide), hall 15 (by decide), hall 16 (by decide), sl_true, ↓reduceIte] at hw ⊢
        clear hall
        replace H := Lib.hid (hw.1.few (L' := [(w.heap.size + 1 + 1, 49, #[.pointer none, .float .f64 0, .int .i64 0, .int .i64 0]), (w.heap.size + 1, 56, #[.int .u32 vd, .int .i64 vs, .bool true, .int .u16 ve, .int .i64 vo]), (w.heap.size, 49, #[ptr g, .float .f64 x, .int .i64 (h + vd), .int .i64 (T + vd + q)])]) (by simp))
        clear hw
        obtain ⟨q0, q1, q2, q3⟩ := (H.out.knows.at 2 rfl).four
        obtain ⟨t0, t1, t2, t3⟩ := (H.out.knows.at 2 rfl).thaw
        obtain ⟨p0, p1, p2, p3, p4⟩ := (H.out.knows.at 1 rfl).five
        obtain ⟨z0, z1, z2, z3⟩ := (H.out.knows.at 0 rfl).four
        obtain ⟨y0, y1, y2, y3⟩ := (H.out.knows.at 0 rfl).thaw
        have zlt := (H.out.knows.at 0 rfl).lt
        go_wp2_with fail
        have HS9 := Lib.hid (H.out.few (L' := [(w.heap.size, 49, #[ptr g, .float .f64 x, .int .i64 (h + vd), .int .i64 (T + vd + q)]), (w.heap.size + 1 + 1, 49, #[.pointer none, .float .f64 0, .int .i64 0, .int .i64 0]), (w.heap.size + 1, 56, #[.int .u32 vd, .int .i64 vs, .bool true, .int .u16 ve, .int .i64 vo])]) (by simp))
        go_quiet ((go_at_call 28; exact Calls.quiet_of_same ((HB2.out _).mono (by rintro e x ⟨rfl, rfl⟩; exact ⟨rfl, rfl⟩))))
        go_wp2_with fail
        have hfr : ∀ r ∈ ([(w.heap.size, 49, #[ptr g, .float .f64 x, .int .i64 (h + vd), .int .i64 (T + vd + q)]), (w.heap.size + 1, 56, #[.int .u32 vd, .int .i64 vs, .bool true, .int .u16 ve, .int .i64 vo])] : List Row), r.1 ≠ g := by intro r hr; simp at hr; rcases hr with rfl | rfl <;> (show _ ≠ _; simp <;> omega)
        have hdp : ∀ r ∈ ([(w.heap.size, 49, #[ptr g, .float .f64 x, .int .i64 (h + vd), .int .i64 (T + vd + q)]), (w.heap.size + 1, 56, #[.int .u32 vd, .int .i64 vs, .bool true, .int .u16 ve, .int .i64 vo])] : List Row), r.1 ≠ w.heap.size + 1 + 1 := by intro r hr; simp at hr; rcases hr with rfl | rfl <;> (show _ ≠ _; simp <;> omega)
        refine Iv.region (fun f aa yw => aa = ⟨#[.agg #[ptr g, .float .f64 x, .int .i64 h, .int .i64 T], .agg #[.int .u32 vd, .int .i64 vs, .bool true, .int .u16 ve, .int .i64 vo], .pointer (some ⟨w.heap.size, 0, none⟩), .pointer (some ⟨w.heap.size + 1, 0, none⟩), .pointer (some ⟨w.heap.size + 1 + 1, 0, none⟩), (if f 12 = true then Value.bool true else Value.bool false), .int .i64 vd, .int .i64 m, .int .i64 0, .int .i64 (T + vd + q + qq), .pointer (some ⟨w.heap.size + 1, 0, none⟩), .int .u32 vd, .int .i64 vd, .tuple #[.int .i64 m, .int .i64 0], .int .i64 vd, .pointer (some ⟨w.heap.size, 1, none⟩), .float .f64 x, .tuple #[.int .i64 m, .int .i64 0], .int .i64 m, .int .i64 0, .pointer (some ⟨w.heap.size, 2, none⟩), .int .i64 h, .int .i64 vd, .int .i64 (h + vd), .pointer (some ⟨w.heap.size, 3, none⟩), .int .i64 T, .int .i64 vd, .int .i64 (T + vd), .pointer (some ⟨w.heap.size + 1, 1, none⟩), .int .i64 vs, .int .i64 m, .int .i64 q, .int .i64 (T + vd + q), .pointer (some ⟨w.heap.size, 2, none⟩), .pointer (some ⟨w.heap.size, 3, none⟩), .pointer (some ⟨w.heap.size + 1, 2, none⟩), .bool true, .bool false, undef, .pointer (some ⟨w.heap.size, 3, none⟩), .int .i64 (T + vd + q), .pointer (some ⟨w.heap.size + 1, 4, none⟩), .int .i64 vo, .pointer (some ⟨w.heap.size + 1, 3, none⟩), .int .u16 ve, .int .i64 ve, .int .i64 qq, .int .i64 (T + vd + q + qq), .int .i64 (T + vd + q + qq), .bool (decide (T + vd + q + qq < 0)), sl (f 0) (.agg #[ptr g, .float .f64 x, .int .i64 (h + vd), .int .i64 (T + vd + q)]), sl (f 1) (.pointer (some ⟨w.heap.size, 0, none⟩)), sl (f 2) (ptr g), sl (f 3) (.pointer (some ⟨w.heap.size, 2, none⟩)), sl (f 4) (.int .i64 (h + vd)), sl (f 5) (.int .i64 (T + vd + q + qq)), sl (f 6) (.pointer (some ⟨w.heap.size + 1, 3, none⟩)), sl (f 7) (.int .u16 ve), sl (f 8) (.int .i64 ve), sl (f 9) (.int .i64 0), sl (f 10) (.bool true)], []⟩ ∧ Sk g w yw [(w.heap.size, 49, #[ptr g, .float .f64 x, .int .i64 (h + vd), .int .i64 (T + vd + q)]), (w.heap.size + 1, 56, #[.int .u32 vd, .int .i64 vs, .bool true, .int .u16 ve, .int .i64 vo])] (w.heap.size + 1 + 1) 49 #[.pointer none, .float .f64 0, .int .i64 0, .int .i64 0] #[ptr g, .float .f64 x, .int .i64 (h + vd), .int .i64 (T + vd + q)] (f 11) (if f 9 = true then cb else c)) (by kernel_rfl) (by kernel_rfl) ?_ ?_ ?_
        · exact ⟨rfl, sk_start HRK.out ((HS9.out.drewN _).drewN 1) _⟩
        · refine ⟨?_, ?_, ?_, ?_, ?_, ?_, ?_, ?_, ?_, ?_, ?_, ?_, ?_, trivial⟩
          · rintro f a0 yw Q' ⟨rfl, hw⟩ hi hd hQ
            replace hQ := Lib.hid hQ
            simp [Iv.depsB, Region.binds] at hd
            try simp only [hi, hd, sl_true, sl_false]
            try simp only [hi, sl_true, sl_false]
            obtain ⟨c0, c1, c2, c3⟩ := (hw.old.at 0 rfl).four
            go_wp2_with fail
            refine hQ.out _ _ ⟨?_, ?_⟩
            · simp [Iv.upd, hi, hd, sl_true, sl_false]
            · simpa [Iv.upd, hi, hd] using hw
          · rintro f a0 yw Q' ⟨rfl, hw⟩ hi hd hQ
            replace hQ := Lib.hid hQ
            simp [Iv.depsB, Region.binds] at hd
            try simp only [hi, hd, sl_true, sl_false]
            try simp only [hi, sl_true, sl_false]
            go_wp2_with fail
            refine hQ.out _ _ ⟨?_, ?_⟩
            · simp [Iv.upd, hi, hd, sl_true, sl_false]
            · simpa [Iv.upd, hi, hd] using hw
          · rintro f a0 yw Q' ⟨rfl, hw⟩ hi hd hQ
            replace hQ := Lib.hid hQ
            simp [Iv.depsB, Region.binds] at hd
            try simp only [hi, hd, sl_true, sl_false]
            try simp only [hi, sl_true, sl_false]
            obtain ⟨c0, c1, c2, c3⟩ := (hw.old.at 0 rfl).four
            go_wp2_with fail
            refine hQ.out _ _ ⟨?_, ?_⟩
            · simp [Iv.upd, hi, hd, sl_true, sl_false]
            · simpa [Iv.upd, hi, hd] using hw
          · rintro f a0 yw Q' ⟨rfl, hw⟩ hi hd hQ
            replace hQ := Lib.hid hQ
            simp [Iv.depsB, Region.binds] at hd
            try simp only [hi, hd, sl_true, sl_false]
            try simp only [hi, sl_true, sl_false]
            go_wp2_with fail
            refine hQ.out _ _ ⟨?_, ?_⟩
            · simp [Iv.upd, hi, hd, sl_true, sl_false]
            · simpa [Iv.upd, hi, hd] using hw
          · rintro f a0 yw Q' ⟨rfl, hw⟩ hi hd hQ
            replace hQ := Lib.hid hQ
            simp [Iv.depsB, Region.binds] at hd
            try simp only [hi, hd, sl_true, sl_false]
            try simp only [hi, sl_true, sl_false]
            obtain ⟨c0, c1, c2, c3⟩ := (hw.old.at 0 rfl).four
            go_wp2_with fail
            refine hQ.out _ _ ⟨?_, ?_⟩
            · simp [Iv.upd, hi, hd, sl_true, sl_false]
            · simpa [Iv.upd, hi, hd] using hw
          · rintro f a0 yw Q' ⟨rfl, hw⟩ hi hd hQ
            replace hQ := Lib.hid hQ
            simp [Iv.depsB, Region.binds] at hd
            try simp only [hi, hd, sl_true, sl_false]
            try simp only [hi, sl_true, sl_false]
            go_wp2_with fail
            refine hQ.out _ _ ⟨?_, ?_⟩
            · simp [Iv.upd, hi, hd, sl_true, sl_false]
            · simpa [Iv.upd, hi, hd] using hw
          · rintro f a0 yw Q' ⟨rfl, hw⟩ hi hd hQ
            replace hQ := Lib.hid hQ
            simp [Iv.depsB, Region.binds] at hd
            try simp only [hi, hd, sl_true, sl_false]
            try simp only [hi, sl_true, sl_false]
            go_wp2_with fail
            refine hQ.out _ _ ⟨?_, ?_⟩
            · simp [Iv.upd, hi, hd, sl_true, sl_false]
            · simpa [Iv.upd, hi, hd] using hw
          · rintro f a0 yw Q' ⟨rfl, hw⟩ hi hd hQ
            replace hQ := Lib.hid hQ
            simp [Iv.depsB, Region.binds] at hd
            try simp only [hi, hd, sl_true, sl_false]
            try simp only [hi, sl_true, sl_false]
            obtain ⟨p0, p1, p2, p3, p4⟩ := (hw.old.at 1 rfl).five
            go_wp2_with fail
            refine hQ.out _ _ ⟨?_, ?_⟩
            · simp [Iv.upd, hi, hd, sl_true, sl_false]
            · simpa [Iv.upd, hi, hd] using hw
          · rintro f a0 yw Q' ⟨rfl, hw⟩ hi hd hQ
            replace hQ := Lib.hid hQ
            simp [Iv.depsB, Region.binds] at hd
            try simp only [hi, hd, sl_true, sl_false]
            try simp only [hi, sl_true, sl_false]
            go_wp2_with fail
            refine hQ.out _ _ ⟨?_, ?_⟩
            · simp [Iv.upd, hi, hd, sl_true, sl_false]
            · simpa [Iv.upd, hi, hd] using hw
          · rintro f a0 yw Q' ⟨rfl, hw⟩ hi hd hQ
            replace hQ := Lib.hid hQ
            simp [Iv.depsB, Region.binds] at hd
            try simp only [hi, hd, sl_true, sl_false]
            try simp only [hi, sl_true, sl_false]
            go_wp2_with fail
            refine (HS.out _ (by simpa [hi] using hw.clk)).mono ?_
            rintro e y1 ⟨rfl, hb⟩
            go_wp2_with fail
            refine hQ.out _ _ ⟨?_, ?_⟩
            · simp [Iv.upd, hi, hd, sl_true, sl_false]
            · simpa [Iv.upd, hi, hd] using (hw.turn hpg hfr hb.1 hb.2)
          · rintro f a0 yw Q' ⟨rfl, hw⟩ hi hd hQ
            replace hQ := Lib.hid hQ
            simp [Iv.depsB, Region.binds] at hd
            try simp only [hi, hd, sl_true, sl_false]
            try simp only [hi, sl_true, sl_false]
            go_wp2_with fail
            refine hQ.out _ _ ⟨?_, ?_⟩
            · simp [Iv.upd, hi, hd, sl_true, sl_false]
            · simpa [Iv.upd, hi, hd] using hw
          · rintro f a0 yw Q' ⟨rfl, hw⟩ hi hd hQ
            replace hQ := Lib.hid hQ
            simp [Iv.depsB, Region.binds] at hd
            try simp only [hi, hd, sl_true, sl_false]
            try simp only [hi, sl_true, sl_false]
            have hw2 := hw
            rw [hi] at hw2
            have hwk : Whole yw (w.heap.size + 1 + 1) 49 #[.pointer none, .float .f64 0, .int .i64 0, .int .i64 0] := hw2.knows.at 0 rfl
            obtain ⟨c0, c1, c2, c3⟩ := hwk.four
            obtain ⟨d0, d1, d2, d3⟩ := hwk.thaw
            have z0 := hwk.lt
            clear hwk
            have hwn := hw2.stored4 (by omega) hdp (by decide) (by decide)
            go_wp2_with fail
            refine hQ.out _ _ ⟨?_, ?_⟩
            · simp [Iv.upd, hi, hd, sl_true, sl_false]
            · simpa [Iv.upd, hi, hd] using hwn
          · rintro f a0 yw Q' ⟨rfl, hw⟩ hi hd hQ
            replace hQ := Lib.hid hQ
            simp [Iv.depsB, Region.binds] at hd
            try simp only [hi, hd, sl_true, sl_false]
            try simp only [hi, sl_true, sl_false]
            go_wp2_with fail
            refine hQ.out _ _ ⟨?_, ?_⟩
            · simp [Iv.upd, hi, hd, sl_true, sl_false]
            · simpa [Iv.upd, hi, hd] using hw
        · rintro f a0 wz ⟨rfl, hw⟩ hall
          simp only [hall 0 (by decide), hall 1 (by decide), hall 2 (by decide), hall 3 (by decide), hall 4 (by decide), hall 5 (by decide), hall 6 (by decide), hall 7 (by decide), hall 8 (by decide), hall 9 (by decide), hall 10 (by decide), hall 11 (by decide), hall 12 (by decide), sl_true, ↓reduceIte] at hw ⊢
          clear hall
          have hwk : Whole wz (w.heap.size + 1 + 1) 49 #[ptr g, .float .f64 x, .int .i64 (h + vd), .int .i64 (T + vd + q)] := hw.knows.at 0 rfl
          obtain ⟨c0, c1, c2, c3⟩ := hwk.four
          obtain ⟨d0, d1, d2, d3⟩ := hwk.thaw
          have z0 := hwk.lt
          have HWB := Lib.hid hw.but
          have HWC := Lib.hid (show Clk wz g cb from hw.clk)
          clear hwk hw
          go_wp2_with fail
          refine bodyPost_ret (by simp [results, Try.results19, go_sem, c0, c1, c2, c3, d0, d1, d2, d3, z0]; try rfl) rfl ?_
          exact ⟨cb, rfl, HWB.out, HSR.out _ HWC.out⟩

set_option maxHeartbeats 8000000 in
theorem follow_any (w : World) (g x : Nat) (c : Ck) (h T d : Int) (v : Sp6) (gv : GS v) (hd : 0 ≤ d ∧ d ≤ 4294967295) (y : Nat) (hy : FloatKind.f64.format.div x 4611686018427387904 = some y ∧ crated y = true ∧ 2 * sz y ≤ sz x + 1) (R : Run w g x c h T) (hh : 0 ≤ h ∧ h ≤ 2100000000000) (hT : 0 ≤ T ∧ T ≤ 2100000000000) :
    Calls Try.prog 20 #[.agg #[ptr g, .float .f64 x, .int .i64 h, .int .i64 T], .int .i64 d, .agg #[.int .u32 v.d, .int .i64 v.s, .bool v.b, .int .u16 v.e, .int .i64 v.o]] w fun r w' =>
      ∃ c' : Ck, r = .returned (.tuple #[.agg #[ptr g, .float .f64 x, .int .i64 (h + d - bro v.s (prodF d y)), .int .i64 (T + d)], .bool true]) ∧ But g w w' ∧ Run w' g x c' (h + d - bro v.s (prodF d y)) (T + d) := by
  obtain ⟨rk, rr, rx, rw'⟩ := R
  have hcr := rr.ok.rate
  rw [rx] at hcr
  obtain ⟨vd, vs, vb, ve, vo⟩ := v
  obtain ⟨gd, gs, ge, go⟩ := gv
  simp only at gd gs ge go ⊢
  obtain ⟨y1, y2, y3⟩ := hy
  have hm := prod_range d y hd.1 (crated_rated y2)
  have hq := bro_range vs (prodF d y) hm.1
  have R2 : Right c (h + d - bro vs (prodF d y)) (T + d) := by
    have := rr.step (d - bro vs (prodF d y)) (bro vs (prodF d y)) (by omega) ⟨prodF d y, hm.1, hq.2, by omega, by
      have := half_allows hcr y3 d (prodF d y) (bro vs (prodF d y)) hd hm.1 hq.2 (prod_down d y)
      rwa [rx]⟩ (by omega)
    rw [show h + (d - bro vs (prodF d y)) = h + d - bro vs (prodF d y) by omega, show T + (d - bro vs (prodF d y)) + bro vs (prodF d y) = T + d by omega] at this
    exact this
  have HQ := (fun w0 : World => run_float_arith (P := Try.prog) w0 .quo 22 .f64 x 4611686018427387904 y y1)
  have HP := Lib.hid (fun w0 => rprod_any d y false (crated_num y2) (by omega) (by omega) w0)
  rw [prodD_value hd (crated_rated y2)] at HP
  have HBr := Lib.hid (fun w0 => brought_any vs (prodF d y) (by omega) w0)
  have H := Lib.hid ((((St.start w).alloc w.heap.size rfl 49 #[ptr g, .float .f64 x, .int .i64 h, .int .i64 T]).alloc (w.heap.size + 1) (by simp) 56 #[.int .u32 vd, .int .i64 vs, .bool vb, .int .u16 ve, .int .i64 vo]).alloc (w.heap.size + 1 + 1) (by simp) 49 #[.pointer none, .float .f64 0, .int .i64 0, .int .i64 0])
  have HRK := Lib.hid rk
  have glt := rk.lt
  have HR2 := Lib.hid R2
  have HX := Lib.hid rx
  have HW := Lib.hid rw'
  clear rk rr rx rw' hcr y1 y2 y3
  generalize bro vs (prodF d y) = q at *
  generalize prodF d y = m at *
  have b2 : 0 ≤ h + d - q ∧ h + d - q ≤ 2150000000000 := by omega
  have b3 : 0 ≤ T + d ∧ T + d ≤ 2150000000000 := by omega
  clear R2
  cases vb with
  | false =>
    go_enter Try.func20, Try.ntmps20
    obtain ⟨q0, q1, q2, q3⟩ := (H.out.knows.at 2 rfl).four
    obtain ⟨p0, p1, p2, p3, p4⟩ := (H.out.knows.at 1 rfl).five
    go_wp2_with fail
    refine (HP.out _).mono ?_
    rintro r w1 ⟨rfl, hb1⟩
    replace H := Lib.hid (H.out.call hb1)
    clear hb1 q0 q1 q2 q3 p0 p1 p2 p3 p4
    obtain ⟨q0, q1, q2, q3⟩ := (H.out.knows.at 2 rfl).four
    obtain ⟨t0, t1, t2, t3⟩ := (H.out.knows.at 2 rfl).thaw
    obtain ⟨p0, p1, p2, p3, p4⟩ := (H.out.knows.at 1 rfl).five
    obtain ⟨z0, z1, z2, z3⟩ := (H.out.knows.at 0 rfl).four
    obtain ⟨y0, y1, y2, y3⟩ := (H.out.knows.at 0 rfl).thaw
    have zlt := (H.out.knows.at 0 rfl).lt
    go_wp2_with fail
    refine (HBr.out _).mono ?_
    rintro r w2 ⟨rfl, e2⟩
    subst w2
    go_wp2_with fail
    refine bodyPost_ret (by simp [results, Try.results20, go_sem, z0, z1, z2, z3, y0, y1, y2, y3, zlt]; try rfl) rfl ?_
    refine ⟨c, rfl, run_still HRK.out HR2.out HX.out HW.out ?_⟩
    have hb := H.out.below
    go_grown
  | true =>
    have HB2 := Lib.hid (fun w0 => brought_any vo ve (by omega) w0)
    have hq2 := bro_range vo ve ge.1
    have HSE := Lib.hid (run_setE HR2.out ve vo (by omega) (by omega) ge)
    have HSR := Lib.hid (fun w0 (k : Clk w0 g (c.set (h + d - q) (byT (T + d + bro vo ve)) ve)) => run_set (w := w) HR2.out HX.out ve vo (by omega) (by omega) ge k)
    have HS := Lib.hid (fun w0 (k : Clk w0 g c) => set_any g c (h + d - q) (byT (T + d + bro vo ve)) ve ⟨by omega, by omega⟩ (by have := byT_cases (T + d + bro vo ve); exact ⟨by omega, by omega⟩) ⟨by omega, by omega⟩ w0 k)
    rw [HSE.out] at HS
    have hc := byT_cases (T + d + bro vo ve)
    clear HSE
    generalize bro vo ve = qq at *
    generalize byT (T + d + qq) = b at *
    generalize c.set (h + d - q) b ve = cb at *
    have hpg : w.heap.size + 1 + 1 ≠ g := by omega
    rcases hc with ⟨k1, rfl⟩ | ⟨k1, rfl⟩
    · skip
      go_enter Try.func20, Try.ntmps20
      obtain ⟨q0, q1, q2, q3⟩ := (H.out.knows.at 2 rfl).four
      obtain ⟨p0, p1, p2, p3, p4⟩ := (H.out.knows.at 1 rfl).five
      go_wp2_with fail
      refine (HP.out _).mono ?_
      rintro r w1 ⟨rfl, hb1⟩
      replace H := Lib.hid (H.out.call hb1)
      clear hb1 q0 q1 q2 q3 p0 p1 p2 p3 p4
      obtain ⟨q0, q1, q2, q3⟩ := (H.out.knows.at 2 rfl).four
      obtain ⟨t0, t1, t2, t3⟩ := (H.out.knows.at 2 rfl).thaw
      obtain ⟨p0, p1, p2, p3, p4⟩ := (H.out.knows.at 1 rfl).five
      obtain ⟨z0, z1, z2, z3⟩ := (H.out.knows.at 0 rfl).four
      obtain ⟨y0, y1, y2, y3⟩ := (H.out.knows.at 0 rfl).thaw
      have zlt := (H.out.knows.at 0 rfl).lt
      go_wp2_with fail
      refine (HBr.out _).mono ?_
      rintro r w2 ⟨rfl, e2⟩
      subst w2
      go_wp2_with fail
      have HS9 := Lib.hid (((H.out.few (L' := [(w.heap.size, 49, #[ptr g, .float .f64 x, .int .i64 h, .int .i64 T]), (w.heap.size + 1 + 1, 49, #[.pointer none, .float .f64 0, .int .i64 0, .int .i64 0]), (w.heap.size + 1, 56, #[.int .u32 vd, .int .i64 vs, .bool true, .int .u16 ve, .int .i64 vo])]) (by simp)).set0 (Nat.le_refl _) (by intro r hr; simp at hr; rcases hr with rfl | rfl <;> (show _ ≠ _; simp <;> omega)) 2 (.int .i64 (h + d - q))).set0 (Nat.le_refl _) (by intro r hr; simp at hr; rcases hr with rfl | rfl <;> (show _ ≠ _; simp <;> omega)) 3 (.int .i64 (T + d)))
      go_quiet ((go_at_call 28; exact Calls.quiet_of_same ((HB2.out _).mono (by rintro e x ⟨rfl, rfl⟩; exact ⟨rfl, rfl⟩))))
      go_wp2_with fail
      have hfr : ∀ r ∈ ([(w.heap.size, 49, #[ptr g, .float .f64 x, .int .i64 (h + d - q), .int .i64 (T + d)]), (w.heap.size + 1, 56, #[.int .u32 vd, .int .i64 vs, .bool true, .int .u16 ve, .int .i64 vo])] : List Row), r.1 ≠ g := by intro r hr; simp at hr; rcases hr with rfl | rfl <;> (show _ ≠ _; simp <;> omega)
      have hdp : ∀ r ∈ ([(w.heap.size, 49, #[ptr g, .float .f64 x, .int .i64 (h + d - q), .int .i64 (T + d)]), (w.heap.size + 1, 56, #[.int .u32 vd, .int .i64 vs, .bool true, .int .u16 ve, .int .i64 vo])] : List Row), r.1 ≠ w.heap.size + 1 + 1 := by intro r hr; simp at hr; rcases hr with rfl | rfl <;> (show _ ≠ _; simp <;> omega)
      refine Iv.region (fun f aa yw => aa = ⟨#[.agg #[ptr g, .float .f64 x, .int .i64 h, .int .i64 T], .int .i64 d, .agg #[.int .u32 vd, .int .i64 vs, .bool true, .int .u16 ve, .int .i64 vo], .pointer (some ⟨w.heap.size, 0, none⟩), undef, .pointer (some ⟨w.heap.size + 1, 0, none⟩), .pointer (some ⟨w.heap.size + 1 + 1, 0, none⟩), (if f 12 = true then Value.bool true else Value.bool false), .int .i64 m, .int .i64 0, .int .i64 q, .int .i64 (0), .tuple #[.int .i64 m, .int .i64 0], .int .i64 d, .pointer (some ⟨w.heap.size, 1, none⟩), .float .f64 x, .float .f64 y, .tuple #[.int .i64 m, .int .i64 0], .int .i64 m, .int .i64 0, .pointer (some ⟨w.heap.size + 1, 1, none⟩), .int .i64 vs, .int .i64 m, .int .i64 q, .pointer (some ⟨w.heap.size, 2, none⟩), .int .i64 h, .int .i64 d, .int .i64 (h + d), .int .i64 q, .int .i64 (h + d - q), .pointer (some ⟨w.heap.size, 3, none⟩), .int .i64 T, .int .i64 d, .int .i64 (T + d), .pointer (some ⟨w.heap.size, 2, none⟩), .pointer (some ⟨w.heap.size, 3, none⟩), .pointer (some ⟨w.heap.size + 1, 2, none⟩), .bool true, .bool false, undef, .pointer (some ⟨w.heap.size, 3, none⟩), .int .i64 (T + d), .pointer (some ⟨w.heap.size + 1, 4, none⟩), .int .i64 vo, .pointer (some ⟨w.heap.size + 1, 3, none⟩), .int .u16 ve, .int .i64 ve, .int .i64 qq, .int .i64 (T + d + qq), .int .i64 (T + d + qq), .bool true, sl (f 0) (.agg #[ptr g, .float .f64 x, .int .i64 (h + d - q), .int .i64 (T + d)]), sl (f 1) (.pointer (some ⟨w.heap.size, 0, none⟩)), sl (f 2) (ptr g), sl (f 3) (.pointer (some ⟨w.heap.size, 2, none⟩)), sl (f 4) (.int .i64 (h + d - q)), sl (f 5) (.int .i64 (0)), sl (f 6) (.pointer (some ⟨w.heap.size + 1, 3, none⟩)), sl (f 7) (.int .u16 ve), sl (f 8) (.int .i64 ve), sl (f 9) (.int .i64 0), sl (f 10) (.bool true)], []⟩ ∧ Sk g w yw [(w.heap.size, 49, #[ptr g, .float .f64 x, .int .i64 (h + d - q), .int .i64 (T + d)]), (w.heap.size + 1, 56, #[.int .u32 vd, .int .i64 vs, .bool true, .int .u16 ve, .int .i64 vo])] (w.heap.size + 1 + 1) 49 #[.pointer none, .float .f64 0, .int .i64 0, .int .i64 0] #[ptr g, .float .f64 x, .int .i64 (h + d - q), .int .i64 (T + d)] (f 11) (if f 9 = true then cb else c)) (by kernel_rfl) (by kernel_rfl) ?_ ?_ ?_
      · exact ⟨rfl, sk_start HRK.out ((HS9.out.drewN _).drewN 1) _⟩
      · refine ⟨?_, ?_, ?_, ?_, ?_, ?_, ?_, ?_, ?_, ?_, ?_, ?_, ?_, trivial⟩
        · rintro f a0 yw Q' ⟨rfl, hw⟩ hi hd hQ
          replace hQ := Lib.hid hQ
          simp [Iv.depsB, Region.binds] at hd
          try simp only [hi, hd, sl_true, sl_false]
          try simp only [hi, sl_true, sl_false]
          obtain ⟨c0, c1, c2, c3⟩ := (hw.old.at 0 rfl).four
          go_wp2_with fail
          refine hQ.out _ _ ⟨?_, ?_⟩
          · simp [Iv.upd, hi, hd, sl_true, sl_false]
          · simpa [Iv.upd, hi, hd] using hw
        · rintro f a0 yw Q' ⟨rfl, hw⟩ hi hd hQ
          replace hQ := Lib.hid hQ
          simp [Iv.depsB, Region.binds] at hd
          try simp only [hi, hd, sl_true, sl_false]
          try simp only [hi, sl_true, sl_false]
          go_wp2_with fail
          refine hQ.out _ _ ⟨?_, ?_⟩
          · simp [Iv.upd, hi, hd, sl_true, sl_false]
          · simpa [Iv.upd, hi, hd] using hw
        · rintro f a0 yw Q' ⟨rfl, hw⟩ hi hd hQ
          replace hQ := Lib.hid hQ
          simp [Iv.depsB, Region.binds] at hd
          try simp only [hi, hd, sl_true, sl_false]
          try simp only [hi, sl_true, sl_false]
          obtain ⟨c0, c1, c2, c3⟩ := (hw.old.at 0 rfl).four
          go_wp2_with fail
          refine hQ.out _ _ ⟨?_, ?_⟩
          · simp [Iv.upd, hi, hd, sl_true, sl_false]
          · simpa [Iv.upd, hi, hd] using hw
        · rintro f a0 yw Q' ⟨rfl, hw⟩ hi hd hQ
          replace hQ := Lib.hid hQ
          simp [Iv.depsB, Region.binds] at hd
          try simp only [hi, hd, sl_true, sl_false]
          try simp only [hi, sl_true, sl_false]
          go_wp2_with fail
          refine hQ.out _ _ ⟨?_, ?_⟩
          · simp [Iv.upd, hi, hd, sl_true, sl_false]
          · simpa [Iv.upd, hi, hd] using hw
        · rintro f a0 yw Q' ⟨rfl, hw⟩ hi hd hQ
          replace hQ := Lib.hid hQ
          simp [Iv.depsB, Region.binds] at hd
          try simp only [hi, hd, sl_true, sl_false]
          try simp only [hi, sl_true, sl_false]
          obtain ⟨c0, c1, c2, c3⟩ := (hw.old.at 0 rfl).four
          go_wp2_with fail
          refine hQ.out _ _ ⟨?_, ?_⟩
          · simp [Iv.upd, hi, hd, sl_true, sl_false]
          · simpa [Iv.upd, hi, hd] using hw
        · rintro f a0 yw Q' ⟨rfl, hw⟩ hi hd hQ
          replace hQ := Lib.hid hQ
          simp [Iv.depsB, Region.binds] at hd
          try simp only [hi, hd, sl_true, sl_false]
          try simp only [hi, sl_true, sl_false]
          go_wp2_with fail
          refine hQ.out _ _ ⟨?_, ?_⟩
          · simp [Iv.upd, hi, hd, sl_true, sl_false]
          · simpa [Iv.upd, hi, hd] using hw
        · rintro f a0 yw Q' ⟨rfl, hw⟩ hi hd hQ
          replace hQ := Lib.hid hQ
          simp [Iv.depsB, Region.binds] at hd
          try simp only [hi, hd, sl_true, sl_false]
          try simp only [hi, sl_true, sl_false]
          go_wp2_with fail
          refine hQ.out _ _ ⟨?_, ?_⟩
          · simp [Iv.upd, hi, hd, sl_true, sl_false]
          · simpa [Iv.upd, hi, hd] using hw
        · rintro f a0 yw Q' ⟨rfl, hw⟩ hi hd hQ
          replace hQ := Lib.hid hQ
          simp [Iv.depsB, Region.binds] at hd
          try simp only [hi, hd, sl_true, sl_false]
          try simp only [hi, sl_true, sl_false]
          obtain ⟨p0, p1, p2, p3, p4⟩ := (hw.old.at 1 rfl).five
          go_wp2_with fail
          refine hQ.out _ _ ⟨?_, ?_⟩
          · simp [Iv.upd, hi, hd, sl_true, sl_false]
          · simpa [Iv.upd, hi, hd] using hw
        · rintro f a0 yw Q' ⟨rfl, hw⟩ hi hd hQ
          replace hQ := Lib.hid hQ
          simp [Iv.depsB, Region.binds] at hd
          try simp only [hi, hd, sl_true, sl_false]
          try simp only [hi, sl_true, sl_false]
          go_wp2_with fail
          refine hQ.out _ _ ⟨?_, ?_⟩
          · simp [Iv.upd, hi, hd, sl_true, sl_false]
          · simpa [Iv.upd, hi, hd] using hw
        · rintro f a0 yw Q' ⟨rfl, hw⟩ hi hd hQ
          replace hQ := Lib.hid hQ
          simp [Iv.depsB, Region.binds] at hd
          try simp only [hi, hd, sl_true, sl_false]
          try simp only [hi, sl_true, sl_false]
          go_wp2_with fail
          refine (HS.out _ (by simpa [hi] using hw.clk)).mono ?_
          rintro e y1 ⟨rfl, hb⟩
          go_wp2_with fail
          refine hQ.out _ _ ⟨?_, ?_⟩
          · simp [Iv.upd, hi, hd, sl_true, sl_false]
          · simpa [Iv.upd, hi, hd] using (hw.turn hpg hfr hb.1 hb.2)
        · rintro f a0 yw Q' ⟨rfl, hw⟩ hi hd hQ
          replace hQ := Lib.hid hQ
          simp [Iv.depsB, Region.binds] at hd
          try simp only [hi, hd, sl_true, sl_false]
          try simp only [hi, sl_true, sl_false]
          go_wp2_with fail
          refine hQ.out _ _ ⟨?_, ?_⟩
          · simp [Iv.upd, hi, hd, sl_true, sl_false]
          · simpa [Iv.upd, hi, hd] using hw
        · rintro f a0 yw Q' ⟨rfl, hw⟩ hi hd hQ
          replace hQ := Lib.hid hQ
          simp [Iv.depsB, Region.binds] at hd
          try simp only [hi, hd, sl_true, sl_false]
          try simp only [hi, sl_true, sl_false]
          have hw2 := hw
          rw [hi] at hw2
          have hwk : Whole yw (w.heap.size + 1 + 1) 49 #[.pointer none, .float .f64 0, .int .i64 0, .int .i64 0] := hw2.knows.at 0 rfl
          obtain ⟨c0, c1, c2, c3⟩ := hwk.four
          obtain ⟨d0, d1, d2, d3⟩ := hwk.thaw
          have z0 := hwk.lt
          clear hwk
          have hwn := hw2.stored4 (by omega) hdp (by decide) (by decide)
          go_wp2_with fail
          refine hQ.out _ _ ⟨?_, ?_⟩
          · simp [Iv.upd, hi, hd, sl_true, sl_false]
          · simpa [Iv.upd, hi, hd] using hwn
        · rintro f a0 yw Q' ⟨rfl, hw⟩ hi hd hQ
          replace hQ := Lib.hid hQ
          simp [Iv.depsB, Region.binds] at hd
          try simp only [hi, hd, sl_true, sl_false]
          try simp only [hi, sl_true, sl_false]
          go_wp2_with fail
          refine hQ.out _ _ ⟨?_, ?_⟩
          · simp [Iv.upd, hi, hd, sl_true, sl_false]
          · simpa [Iv.upd, hi, hd] using hw
      · rintro f a0 wz ⟨rfl, hw⟩ hall
        simp only [hall 0 (by decide), hall 1 (by decide), hall 2 (by decide), hall 3 (by decide), hall 4 (by decide), hall 5 (by decide), hall 6 (by decide), hall 7 (by decide), hall 8 (by decide), hall 9 (by decide), hall 10 (by decide), hall 11 (by decide), hall 12 (by decide), sl_true, ↓reduceIte] at hw ⊢
        clear hall
        have hwk : Whole wz (w.heap.size + 1 + 1) 49 #[ptr g, .float .f64 x, .int .i64 (h + d - q), .int .i64 (T + d)] := hw.knows.at 0 rfl
        obtain ⟨c0, c1, c2, c3⟩ := hwk.four
        obtain ⟨d0, d1, d2, d3⟩ := hwk.thaw
        have z0 := hwk.lt
        have HWB := Lib.hid hw.but
        have HWC := Lib.hid (show Clk wz g cb from hw.clk)
        clear hwk hw
        go_wp2_with fail
        refine bodyPost_ret (by simp [results, Try.results20, go_sem, c0, c1, c2, c3, d0, d1, d2, d3, z0]; try rfl) rfl ?_
        exact ⟨cb, rfl, HWB.out, HSR.out _ HWC.out⟩
    · skip
      go_enter Try.func20, Try.ntmps20
      obtain ⟨q0, q1, q2, q3⟩ := (H.out.knows.at 2 rfl).four
      obtain ⟨p0, p1, p2, p3, p4⟩ := (H.out.knows.at 1 rfl).five
      go_wp2_with fail
      refine (HP.out _).mono ?_
      rintro r w1 ⟨rfl, hb1⟩
      replace H := Lib.hid (H.out.call hb1)
      clear hb1 q0 q1 q2 q3 p0 p1 p2 p3 p4
      obtain ⟨q0, q1, q2, q3⟩ := (H.out.knows.at 2 rfl).four
      obtain ⟨t0, t1, t2, t3⟩ := (H.out.knows.at 2 rfl).thaw
      obtain ⟨p0, p1, p2, p3, p4⟩ := (H.out.knows.at 1 rfl).five
      obtain ⟨z0, z1, z2, z3⟩ := (H.out.knows.at 0 rfl).four
      obtain ⟨y0, y1, y2, y3⟩ := (H.out.knows.at 0 rfl).thaw
      have zlt := (H.out.knows.at 0 rfl).lt
      go_wp2_with fail
      refine (HBr.out _).mono ?_
      rintro r w2 ⟨rfl, e2⟩
      subst w2
      go_wp2_with fail
      have HS9 := Lib.hid (((H.out.few (L' := [(w.heap.size, 49, #[ptr g, .float .f64 x, .int .i64 h, .int .i64 T]), (w.heap.size + 1 + 1, 49, #[.pointer none, .float .f64 0, .int .i64 0, .int .i64 0]), (w.heap.size + 1, 56, #[.int .u32 vd, .int .i64 vs, .bool true, .int .u16 ve, .int .i64 vo])]) (by simp)).set0 (Nat.le_refl _) (by intro r hr; simp at hr; rcases hr with rfl | rfl <;> (show _ ≠ _; simp <;> omega)) 2 (.int .i64 (h + d - q))).set0 (Nat.le_refl _) (by intro r hr; simp at hr; rcases hr with rfl | rfl <;> (show _ ≠ _; simp <;> omega)) 3 (.int .i64 (T + d)))
      go_quiet ((go_at_call 28; exact Calls.quiet_of_same ((HB2.out _).mono (by rintro e x ⟨rfl, rfl⟩; exact ⟨rfl, rfl⟩))))
      go_wp2_with fail
      have hfr : ∀ r ∈ ([(w.heap.size, 49, #[ptr g, .float .f64 x, .int .i64 (h + d - q), .int .i64 (T + d)]), (w.heap.size + 1, 56, #[.int .u32 vd, .int .i64 vs, .bool true, .int .u16 ve, .int .i64 vo])] : List Row), r.1 ≠ g := by intro r hr; simp at hr; rcases hr with rfl | rfl <;> (show _ ≠ _; simp <;> omega)
      have hdp : ∀ r ∈ ([(w.heap.size, 49, #[ptr g, .float .f64 x, .int .i64 (h + d - q), .int .i64 (T + d)]), (w.heap.size + 1, 56, #[.int .u32 vd, .int .i64 vs, .bool true, .int .u16 ve, .int .i64 vo])] : List Row), r.1 ≠ w.heap.size + 1 + 1 := by intro r hr; simp at hr; rcases hr with rfl | rfl <;> (show _ ≠ _; simp <;> omega)
      refine Iv.region (fun f aa yw => aa = ⟨#[.agg #[ptr g, .float .f64 x, .int .i64 h, .int .i64 T], .int .i64 d, .agg #[.int .u32 vd, .int .i64 vs, .bool true, .int .u16 ve, .int .i64 vo], .pointer (some ⟨w.heap.size, 0, none⟩), undef, .pointer (some ⟨w.heap.size + 1, 0, none⟩), .pointer (some ⟨w.heap.size + 1 + 1, 0, none⟩), (if f 12 = true then Value.bool true else Value.bool false), .int .i64 m, .int .i64 0, .int .i64 q, .int .i64 (T + d + qq), .tuple #[.int .i64 m, .int .i64 0], .int .i64 d, .pointer (some ⟨w.heap.size, 1, none⟩), .float .f64 x, .float .f64 y, .tuple #[.int .i64 m, .int .i64 0], .int .i64 m, .int .i64 0, .pointer (some ⟨w.heap.size + 1, 1, none⟩), .int .i64 vs, .int .i64 m, .int .i64 q, .pointer (some ⟨w.heap.size, 2, none⟩), .int .i64 h, .int .i64 d, .int .i64 (h + d), .int .i64 q, .int .i64 (h + d - q), .pointer (some ⟨w.heap.size, 3, none⟩), .int .i64 T, .int .i64 d, .int .i64 (T + d), .pointer (some ⟨w.heap.size, 2, none⟩), .pointer (some ⟨w.heap.size, 3, none⟩), .pointer (some ⟨w.heap.size + 1, 2, none⟩), .bool true, .bool false, undef, .pointer (some ⟨w.heap.size, 3, none⟩), .int .i64 (T + d), .pointer (some ⟨w.heap.size + 1, 4, none⟩), .int .i64 vo, .pointer (some ⟨w.heap.size + 1, 3, none⟩), .int .u16 ve, .int .i64 ve, .int .i64 qq, .int .i64 (T + d + qq), .int .i64 (T + d + qq), .bool (decide (T + d + qq < 0)), sl (f 0) (.agg #[ptr g, .float .f64 x, .int .i64 (h + d - q), .int .i64 (T + d)]), sl (f 1) (.pointer (some ⟨w.heap.size, 0, none⟩)), sl (f 2) (ptr g), sl (f 3) (.pointer (some ⟨w.heap.size, 2, none⟩)), sl (f 4) (.int .i64 (h + d - q)), sl (f 5) (.int .i64 (T + d + qq)), sl (f 6) (.pointer (some ⟨w.heap.size + 1, 3, none⟩)), sl (f 7) (.int .u16 ve), sl (f 8) (.int .i64 ve), sl (f 9) (.int .i64 0), sl (f 10) (.bool true)], []⟩ ∧ Sk g w yw [(w.heap.size, 49, #[ptr g, .float .f64 x, .int .i64 (h + d - q), .int .i64 (T + d)]), (w.heap.size + 1, 56, #[.int .u32 vd, .int .i64 vs, .bool true, .int .u16 ve, .int .i64 vo])] (w.heap.size + 1 + 1) 49 #[.pointer none, .float .f64 0, .int .i64 0, .int .i64 0] #[ptr g, .float .f64 x, .int .i64 (h + d - q), .int .i64 (T + d)] (f 11) (if f 9 = true then cb else c)) (by kernel_rfl) (by kernel_rfl) ?_ ?_ ?_
      · exact ⟨rfl, sk_start HRK.out ((HS9.out.drewN _).drewN 1) _⟩
      · refine ⟨?_, ?_, ?_, ?_, ?_, ?_, ?_, ?_, ?_, ?_, ?_, ?_, ?_, trivial⟩
        · rintro f a0 yw Q' ⟨rfl, hw⟩ hi hd hQ
          replace hQ := Lib.hid hQ
          simp [Iv.depsB, Region.binds] at hd
          try simp only [hi, hd, sl_true, sl_false]
          try simp only [hi, sl_true, sl_false]
          obtain ⟨c0, c1, c2, c3⟩ := (hw.old.at 0 rfl).four
          go_wp2_with fail
          refine hQ.out _ _ ⟨?_, ?_⟩
          · simp [Iv.upd, hi, hd, sl_true, sl_false]
          · simpa [Iv.upd, hi, hd] using hw
        · rintro f a0 yw Q' ⟨rfl, hw⟩ hi hd hQ
          replace hQ := Lib.hid hQ
          simp [Iv.depsB, Region.binds] at hd
          try simp only [hi, hd, sl_true, sl_false]
          try simp only [hi, sl_true, sl_false]
          go_wp2_with fail
          refine hQ.out _ _ ⟨?_, ?_⟩
          · simp [Iv.upd, hi, hd, sl_true, sl_false]
          · simpa [Iv.upd, hi, hd] using hw
        · rintro f a0 yw Q' ⟨rfl, hw⟩ hi hd hQ
          replace hQ := Lib.hid hQ
          simp [Iv.depsB, Region.binds] at hd
          try simp only [hi, hd, sl_true, sl_false]
          try simp only [hi, sl_true, sl_false]
          obtain ⟨c0, c1, c2, c3⟩ := (hw.old.at 0 rfl).four
          go_wp2_with fail
          refine hQ.out _ _ ⟨?_, ?_⟩
          · simp [Iv.upd, hi, hd, sl_true, sl_false]
          · simpa [Iv.upd, hi, hd] using hw
        · rintro f a0 yw Q' ⟨rfl, hw⟩ hi hd hQ
          replace hQ := Lib.hid hQ
          simp [Iv.depsB, Region.binds] at hd
          try simp only [hi, hd, sl_true, sl_false]
          try simp only [hi, sl_true, sl_false]
          go_wp2_with fail
          refine hQ.out _ _ ⟨?_, ?_⟩
          · simp [Iv.upd, hi, hd, sl_true, sl_false]
          · simpa [Iv.upd, hi, hd] using hw
        · rintro f a0 yw Q' ⟨rfl, hw⟩ hi hd hQ
          replace hQ := Lib.hid hQ
          simp [Iv.depsB, Region.binds] at hd
          try simp only [hi, hd, sl_true, sl_false]
          try simp only [hi, sl_true, sl_false]
          obtain ⟨c0, c1, c2, c3⟩ := (hw.old.at 0 rfl).four
          go_wp2_with fail
          refine hQ.out _ _ ⟨?_, ?_⟩
          · simp [Iv.upd, hi, hd, sl_true, sl_false]
          · simpa [Iv.upd, hi, hd] using hw
        · rintro f a0 yw Q' ⟨rfl, hw⟩ hi hd hQ
          replace hQ := Lib.hid hQ
          simp [Iv.depsB, Region.binds] at hd
          try simp only [hi, hd, sl_true, sl_false]
          try simp only [hi, sl_true, sl_false]
          go_wp2_with fail
          refine hQ.out _ _ ⟨?_, ?_⟩
          · simp [Iv.upd, hi, hd, sl_true, sl_false]
          · simpa [Iv.upd, hi, hd] using hw
        · rintro f a0 yw Q' ⟨rfl, hw⟩ hi hd hQ
          replace hQ := Lib.hid hQ
          simp [Iv.depsB, Region.binds] at hd
          try simp only [hi, hd, sl_true, sl_false]
          try simp only [hi, sl_true, sl_false]
          go_wp2_with fail
          refine hQ.out _ _ ⟨?_, ?_⟩
          · simp [Iv.upd, hi, hd, sl_true, sl_false]
          · simpa [Iv.upd, hi, hd] using hw
        · rintro f a0 yw Q' ⟨rfl, hw⟩ hi hd hQ
          replace hQ := Lib.hid hQ
          simp [Iv.depsB, Region.binds] at hd
          try simp only [hi, hd, sl_true, sl_false]
          try simp only [hi, sl_true, sl_false]
          obtain ⟨p0, p1, p2, p3, p4⟩ := (hw.old.at 1 rfl).five
          go_wp2_with fail
          refine hQ.out _ _ ⟨?_, ?_⟩
          · simp [Iv.upd, hi, hd, sl_true, sl_false]
          · simpa [Iv.upd, hi, hd] using hw
        · rintro f a0 yw Q' ⟨rfl, hw⟩ hi hd hQ
          replace hQ := Lib.hid hQ
          simp [Iv.depsB, Region.binds] at hd
          try simp only [hi, hd, sl_true, sl_false]
          try simp only [hi, sl_true, sl_false]
          go_wp2_with fail
          refine hQ.out _ _ ⟨?_, ?_⟩
          · simp [Iv.upd, hi, hd, sl_true, sl_false]
          · simpa [Iv.upd, hi, hd] using hw
        · rintro f a0 yw Q' ⟨rfl, hw⟩ hi hd hQ
          replace hQ := Lib.hid hQ
          simp [Iv.depsB, Region.binds] at hd
          try simp only [hi, hd, sl_true, sl_false]
          try simp only [hi, sl_true, sl_false]
          go_wp2_with fail
          refine (HS.out _ (by simpa [hi] using hw.clk)).mono ?_
          rintro e y1 ⟨rfl, hb⟩
          go_wp2_with fail
          refine hQ.out _ _ ⟨?_, ?_⟩
          · simp [Iv.upd, hi, hd, sl_true, sl_false]
          · simpa [Iv.upd, hi, hd] using (hw.turn hpg hfr hb.1 hb.2)
        · rintro f a0 yw Q' ⟨rfl, hw⟩ hi hd hQ
          replace hQ := Lib.hid hQ
          simp [Iv.depsB, Region.binds] at hd
          try simp only [hi, hd, sl_true, sl_false]
          try simp only [hi, sl_true, sl_false]
          go_wp2_with fail
          refine hQ.out _ _ ⟨?_, ?_⟩
          · simp [Iv.upd, hi, hd, sl_true, sl_false]
          · simpa [Iv.upd, hi, hd] using hw
        · rintro f a0 yw Q' ⟨rfl, hw⟩ hi hd hQ
          replace hQ := Lib.hid hQ
          simp [Iv.depsB, Region.binds] at hd
          try simp only [hi, hd, sl_true, sl_false]
          try simp only [hi, sl_true, sl_false]
          have hw2 := hw
          rw [hi] at hw2
          have hwk : Whole yw (w.heap.size + 1 + 1) 49 #[.pointer none, .float .f64 0, .int .i64 0, .int .i64 0] := hw2.knows.at 0 rfl
          obtain ⟨c0, c1, c2, c3⟩ := hwk.four
          obtain ⟨d0, d1, d2, d3⟩ := hwk.thaw
          have z0 := hwk.lt
          clear hwk
          have hwn := hw2.stored4 (by omega) hdp (by decide) (by decide)
          go_wp2_with fail
          refine hQ.out _ _ ⟨?_, ?_⟩
          · simp [Iv.upd, hi, hd, sl_true, sl_false]
          · simpa [Iv.upd, hi, hd] using hwn
        · rintro f a0 yw Q' ⟨rfl, hw⟩ hi hd hQ
          replace hQ := Lib.hid hQ
          simp [Iv.depsB, Region.binds] at hd
          try simp only [hi, hd, sl_true, sl_false]
          try simp only [hi, sl_true, sl_false]
          go_wp2_with fail
          refine hQ.out _ _ ⟨?_, ?_⟩
          · simp [Iv.upd, hi, hd, sl_true, sl_false]
          · simpa [Iv.upd, hi, hd] using hw
      · rintro f a0 wz ⟨rfl, hw⟩ hall
        simp only [hall 0 (by decide), hall 1 (by decide), hall 2 (by decide), hall 3 (by decide), hall 4 (by decide), hall 5 (by decide), hall 6 (by decide), hall 7 (by decide), hall 8 (by decide), hall 9 (by decide), hall 10 (by decide), hall 11 (by decide), hall 12 (by decide), sl_true, ↓reduceIte] at hw ⊢
        clear hall
        have hwk : Whole wz (w.heap.size + 1 + 1) 49 #[ptr g, .float .f64 x, .int .i64 (h + d - q), .int .i64 (T + d)] := hw.knows.at 0 rfl
        obtain ⟨c0, c1, c2, c3⟩ := hwk.four
        obtain ⟨d0, d1, d2, d3⟩ := hwk.thaw
        have z0 := hwk.lt
        have HWB := Lib.hid hw.but
        have HWC := Lib.hid (show Clk wz g cb from hw.clk)
        clear hwk hw
        go_wp2_with fail
        refine bodyPost_ret (by simp [results, Try.results20, go_sem, c0, c1, c2, c3, d0, d1, d2, d3, z0]; try rfl) rfl ?_
        exact ⟨cb, rfl, HWB.out, HSR.out _ HWC.out⟩
end Go.Proofs.Ytpnojhcjaneleaa
