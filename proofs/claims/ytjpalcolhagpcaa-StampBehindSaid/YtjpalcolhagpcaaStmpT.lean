/- Layer 10, what StampBehind alone needs: two right clocks and two sources; turns opened. -/
import Derived.Test.YtjpalcolhagpcaaStmpO
import Derived.Test.YtjpalcolhagpcaaClkA
namespace Go.Tp
open Go.Fl Go.Sp Go.Ck
set_option linter.unusedVariables false
/-! ### Plain: the rate 1/128, and what a right clock tells at most -/
theorem part_rate : 128 * size 4575657221408423936 = unit := by
  have hm : mant 4575657221408423936 = 2 ^ 52 := by decide +kernel
  have hu : 7 + (52 + up 4575657221408423936) = ex := by rw [ex_eq]; decide +kernel
  rw [size_eq, hm, ← Nat.pow_add, show (128 : Nat) = 2 ^ 7 from rfl, ← Nat.pow_add, hu, unit_eq]
theorem rate_ok : crated 4575657221408423936 = true := by decide +kernel
theorem rate_sz : 128 * sz 4575657221408423936 = (unit : Int) := by
  have h := part_rate
  unfold sz
  rw [if_neg (by decide), rung_lt (by decide)]
  omega
/-- A right clock goes on: its reading by d less a skew that half its rate allows, while the true time goes on by d. -/
theorem goes {c : Ck} {h T : Int} (R : Right c h T) (hx : c.rate = 4575657221408423936) (d q : Int) (hd : 0 ≤ d) (hq : -(d / 256) ≤ q ∧ q ≤ d / 256) : Right c (h + (d - q)) (T + d) := by
  have hz := rate_sz
  have hu : (0 : Int) < unit := by have := unit_pos; omega
  have key : ∃ a : Int, 0 ≤ a ∧ q ≤ a ∧ -q ≤ a ∧ a * unit ≤ sz c.rate * (d - q) := by
    refine ⟨d / 256, by omega, by omega, by omega, ?_⟩
    rw [hx]
    have h0 : 0 ≤ sz 4575657221408423936 := by omega
    generalize sz 4575657221408423936 = z at *
    rw [← hz, show d / 256 * (128 * z) = z * (128 * (d / 256)) by rw [Int.mul_left_comm, Int.mul_left_comm z, Int.mul_comm (d / 256) z]]
    exact Int.mul_le_mul_of_nonneg_left (by omega) h0
  have := R.step (d - q) q (by omega) key (by omega)
  rwa [show T + (d - q) + q = T + d by omega] at this
/-- What it tells at most. -/
theorem tells {c : Ck} {h T : Int} (R : Right c h T) (hh : h ≤ 1099511627776 * 2) (hT : T ≤ 1099511627776 * 2) (he : c.e ≤ 65535) : 0 ≤ c.lo h ∧ c.lo h ≤ T ∧ T ≤ c.hi h ∧ c.hi h ≤ T + 2 * c.e + 2 * h ∧ c.hi h ≤ 1125899906842624 := by
  obtain ⟨e0, e1, e2, -⟩ := R.now hh hT he
  obtain ⟨u1, u2, u3⟩ := R.sum
  obtain ⟨b1, b2, b3⟩ := R.ok.basis R.on
  obtain ⟨S, s0, s1, s2, s3⟩ := R.near
  have hS : S ≤ c.more h := more_up _ _ _ s3
  have hf := R.ok.floor
  rcases now_cases c R.ok h with ⟨_, _, _, h1, h2, _, hs', hn, hm, h3, h6, h4, h5, _⟩ | ⟨E, _⟩ | ⟨E, _⟩ | ⟨E, _⟩ | ⟨E, _⟩
  · have hs : c.sum h = c.t + (h - c.r) := rfl
    have M := mn_cases (c.sum h + c.e + c.more h) 1125899906842624
    have H := mx_cases (mn (c.sum h + c.e + c.more h) 1125899906842624) (c.lo h)
    have e3 : c.hi h = mx (mn (c.sum h + c.e + c.more h) 1125899906842624) (c.lo h) := rfl
    rw [← e3] at H
    omega
  all_goals rw [e0] at E; cases E
/-- A clock as the law has it: right, of this rate, set by a width of at most 255. -/
structure Rx (c : Ck) (h T : Int) : Prop where
  right : Right c h T
  rate : c.rate = 4575657221408423936
  wide : 0 ≤ c.e ∧ c.e ≤ 255
theorem Rx.begun (T t e : Int) (hT : 0 ≤ T) (ht : 0 ≤ t ∧ t ≤ 1125899906842624) (he : 0 ≤ e ∧ e ≤ 255) (h1 : T - t ≤ e) (h2 : t - T ≤ e) : (fresh 4575657221408423936).setE 0 t e = 0 ∧ Rx ((fresh 4575657221408423936).set 0 t e) 0 T := by
  obtain ⟨a, b, c, d⟩ := Right.begun rate_ok T t e hT ht (by omega) h1 h2
  exact ⟨a, b, d, by omega⟩
theorem Rx.goes {c : Ck} {h T : Int} (R : Rx c h T) (d q : Int) (hd : 0 ≤ d) (hq : -(d / 256) ≤ q ∧ q ≤ d / 256) : Rx c (h + (d - q)) (T + d) := ⟨Tp.goes R.right R.rate d q hd hq, R.rate, R.wide⟩
theorem Rx.asked {c : Ck} {h T : Int} (R : Rx c h T) (hh : h ≤ 1099511627776 * 2) (hT : T ≤ 1099511627776 * 2) :
    c.nowE h = 0 ∧ ∃ lo hi : Int, c.nowL h = lo ∧ c.nowH h = hi ∧ 0 ≤ lo ∧ lo ≤ T ∧ T ≤ hi ∧ hi ≤ T + 510 + 2 * h ∧ hi ≤ 1125899906842624 ∧ isS lo hi = true ∧ Rx (c.now h) h T := by
  have hw := R.wide
  obtain ⟨e0, e1, e2, e3, e4, e5, e6, e7⟩ := R.right.now hh hT (by omega)
  obtain ⟨t1, t2, t3, t4, t5⟩ := tells R.right hh hT (by omega)
  exact ⟨e0, c.lo h, c.hi h, e3, e4, t1, t2, t3, by omega, t5, (isS_iff _ _).2 (by omega), e5, by rw [e7]; exact R.rate, by rw [e6]; exact hw⟩
def bro (n m : Int) : Int := if m < n then m else if n < -m then -m else n
theorem bro_cases (n m : Int) : (m < n ∧ bro n m = m) ∨ (n ≤ m ∧ n < -m ∧ bro n m = -m) ∨ (n ≤ m ∧ -m ≤ n ∧ bro n m = n) := by
  unfold bro
  split
  · omega
  · split <;> omega
theorem bro_range (n m : Int) (hm : 0 ≤ m) : -m ≤ bro n m ∧ bro n m ≤ m := by
  rcases bro_cases n m with h | h | h <;> omega
end Go.Tp
namespace Go.Proofs.Ytjpalcolhagpcaa
open Go.ChangeShapes Go.WideShapes Go.ChangeAt Go.RowKit Go.Sp Go.Fl Go.Ck Go.Tp
set_option linter.unusedVariables false
set_option linter.unusedSimpArgs false
set_option maxRecDepth 100000
theorem brought_any (n m : Int) (hm : 0 ≤ m ∧ m ≤ 1125899906842624) (w : World) : Calls Try.prog 21 #[.int .i64 n, .int .i64 m] w fun e w' => e = .returned (.int .i64 (bro n m)) ∧ w' = w := by
  rcases bro_cases n m with ⟨h, e⟩ | ⟨h, h2, e⟩ | ⟨h, h2, e⟩
  all_goals
    rw [e]
    clear e
    go_enter Try.func21, Try.ntmps21
    go_wp2_with fail
    go_ret
    exact ⟨by first | rfl | (simp [go_sem]; omega), rfl⟩
/-- The low forty bits of a whole number. -/
theorem and40 (n : Int) : 0 ≤ bits .and .i64 n 1099511627775 ∧ bits .and .i64 n 1099511627775 ≤ 1099511627775 := by
  have e : bits .and .i64 n 1099511627775 = IntKind.i64.wrap ((BitVec.ofInt 64 n &&& BitVec.ofInt 64 1099511627775).toNat : Int) := rfl
  rw [e, BitVec.toNat_and, show (BitVec.ofInt 64 1099511627775).toNat = 1099511627775 by decide, IntKind.wrap_i64]
  have h := Nat.and_le_right (n := (BitVec.ofInt 64 n).toNat) (m := 1099511627775)
  generalize (BitVec.ofInt 64 n).toNat &&& 1099511627775 = v at *
  omega

/-! ### Two clocks, two sources, and what was given -/
/-- What was given: forty whole numbers, of which the first so many are stamps. -/
structure Gv (G : Array Value) (many : Nat) : Prop where
  size : G.size = 40
  ints : ∀ q, q < 40 → ∃ v : Int, G[q]? = some (.int .i64 v)
  good : ∀ q, q < many → ∃ v : Int, G[q]? = some (.int .i64 v) ∧ isK v = true
theorem Gv.start : Gv (Array.replicate 40 (.int .i64 0)) 0 := ⟨by simp, fun q hq => ⟨0, by simp [hq]⟩, fun q hq => by omega⟩
theorem Gv.more {G : Array Value} {many : Nat} (h : Gv G many) (hm : many < 40) (v : Int) (hv : isK v = true) : Gv (G.setIfInBounds many (.int .i64 v)) (many + 1) := by
  refine ⟨by simp [h.size], fun q hq => ?_, fun q hq => ?_⟩
  · by_cases e : q = many
    · subst e
      exact ⟨v, by rw [Array.getElem?_setIfInBounds_self_of_lt (by rw [h.size]; exact hm)]⟩
    · obtain ⟨u, hu⟩ := h.ints q hq
      exact ⟨u, by rw [Array.getElem?_setIfInBounds_ne (fun e2 => e e2.symm)]; exact hu⟩
  · by_cases e : q = many
    · subst e
      exact ⟨v, by rw [Array.getElem?_setIfInBounds_self_of_lt (by rw [h.size]; exact hm)], hv⟩
    · obtain ⟨u, hu, hk⟩ := h.good q (by omega)
      exact ⟨u, by rw [Array.getElem?_setIfInBounds_ne (fun e2 => e e2.symm)]; exact hu, hk⟩

/-- Where the law stands: two clocks (a, b), two sources (x, y), the box of what was given (g), and other blocks that are known; nothing of W has changed. -/
structure Bh (W w : World) (L : List Row) (a b x y g : Nat) (ca cb : Ck) (nx ny : Int) (G : Array Value) : Prop where
  st : St W w L
  ca : Clk w a ca
  cb : Clk w b cb
  sx : Src w x nx
  sy : Src w y ny
  gv : Whole w g 51 G
  new : W.heap.size ≤ a ∧ W.heap.size ≤ b ∧ W.heap.size ≤ x ∧ W.heap.size ≤ y ∧ W.heap.size ≤ g
  ne : a ≠ b ∧ x ≠ y
  far : ∀ r ∈ L, r.1 ≠ a ∧ r.1 ≠ b ∧ r.1 ≠ x ∧ r.1 ≠ y ∧ r.1 ≠ g
/-- A clock, where a block that is none of its own has changed. -/
theorem Clk.but {w w' : World} {g x : Nat} {c : Ck} {t : TypeId} {cs : Array Value} (h : Clk w g c) (k : Whole w x t cs) (h1 : t ≠ 68) (h2 : t ≠ 70) (hb : But x w w') : Clk w' g c := by
  obtain ⟨p, hw, h3, h4⟩ := h.is
  refine ⟨p, hb.whole hw (whole_unlike hw k (fun e => h1 e.symm)), h3, fun on => ?_⟩
  obtain ⟨q, hp, hq⟩ := h4 on
  exact ⟨q, hp, hb.whole hq (whole_unlike hq k (fun e => h2 e.symm))⟩
theorem Clk.apart {w : World} {g x : Nat} {c : Ck} {t : TypeId} {cs : Array Value} (h : Clk w g c) (k : Whole w x t cs) (h1 : t ≠ 68) : x ≠ g := by
  obtain ⟨p, hw, -⟩ := h.is
  exact whole_unlike k hw h1
section
variable {W w w' : World} {L : List Row} {a b x y g : Nat} {ca cb ca' cb' : Ck} {nx ny n' : Int} {G : Array Value}
theorem Bh.call (h : Bh W w L a b x y g ca cb nx ny G) (hb : Below w.heap.size w w') : Bh W w' L a b x y g ca cb nx ny G :=
  ⟨h.st.call hb, h.ca.call hb, h.cb.call hb, Whole.below h.sx hb h.sx.lt, Whole.below h.sy hb h.sy.lt, h.gv.below hb h.gv.lt, h.new, h.ne, h.far⟩
theorem Bh.drewN (h : Bh W w L a b x y g ca cb nx ny G) (k : Nat) : Bh W (w.drewN k) L a b x y g ca cb nx ny G := h.call (drew_below w k)
theorem Bh.alloc (h : Bh W w L a b x y g ca cb nx ny G) (z : Nat) (hz : z = w.heap.size) (t : TypeId) (cs : Array Value) : Bh W (w.alloc (.cells cs t)) ((z, t, cs) :: L) a b x y g ca cb nx ny G := by
  have k := h.call (w' := w.alloc (.cells cs t)) ((Below.refl _ _).alloc (Nat.le_refl _) _)
  refine ⟨h.st.alloc z hz t cs, k.ca, k.cb, k.sx, k.sy, k.gv, h.new, h.ne, fun r hr => ?_⟩
  rcases List.mem_cons.1 hr with rfl | hr
  · have h1 := h.ca.lt
    have h2 := h.cb.lt
    have h3 := h.sx.lt
    have h4 := h.sy.lt
    have h5 := h.gv.lt
    refine ⟨?_, ?_, ?_, ?_, ?_⟩ <;> (show z ≠ _; omega)
  · exact h.far r hr
theorem Bh.few {L' : List Row} (h : Bh W w L a b x y g ca cb nx ny G) (hl : ∀ r ∈ L', r ∈ L) : Bh W w L' a b x y g ca cb nx ny G := ⟨h.st.few hl, h.ca, h.cb, h.sx, h.sy, h.gv, h.new, h.ne, fun r hr => h.far r (hl r hr)⟩
theorem St.away {z : Nat} (h : St W w L) (hb : But z w w') (hz : W.heap.size ≤ z) (hf : ∀ r ∈ L, r.1 ≠ z) : St W w' L := ⟨h.below.trans (hb.below h.below.size hz), fun r hr => hb.whole (h.knows r hr) (hf r hr)⟩
theorem Bh.turnA (h : Bh W w L a b x y g ca cb nx ny G) (hb : But a w w') (hc : Clk w' a ca') : Bh W w' L a b x y g ca' cb nx ny G :=
  ⟨h.st.away hb h.new.1 (fun r hr => (h.far r hr).1), hc, h.cb.other h.ca (fun e => h.ne.1 e.symm) hb, hb.whole h.sx (h.ca.apart h.sx (by decide)), hb.whole h.sy (h.ca.apart h.sy (by decide)), hb.whole h.gv (h.ca.apart h.gv (by decide)), h.new, h.ne, h.far⟩
theorem Bh.turnB (h : Bh W w L a b x y g ca cb nx ny G) (hb : But b w w') (hc : Clk w' b cb') : Bh W w' L a b x y g ca cb' nx ny G :=
  ⟨h.st.away hb h.new.2.1 (fun r hr => (h.far r hr).2.1), h.ca.other h.cb h.ne.1 hb, hc, hb.whole h.sx (h.cb.apart h.sx (by decide)), hb.whole h.sy (h.cb.apart h.sy (by decide)), hb.whole h.gv (h.cb.apart h.gv (by decide)), h.new, h.ne, h.far⟩
theorem Bh.turnX (h : Bh W w L a b x y g ca cb nx ny G) (hb : But x w w') (hs : Src w' x n') : Bh W w' L a b x y g ca cb n' ny G :=
  ⟨h.st.away hb h.new.2.2.1 (fun r hr => (h.far r hr).2.2.1), h.ca.but h.sx (by decide) (by decide) hb, h.cb.but h.sx (by decide) (by decide) hb, hs, hb.whole h.sy (fun e => h.ne.2 e.symm), hb.whole h.gv (whole_unlike h.gv h.sx (by decide)), h.new, h.ne, h.far⟩
theorem Bh.turnY (h : Bh W w L a b x y g ca cb nx ny G) (hb : But y w w') (hs : Src w' y n') : Bh W w' L a b x y g ca cb nx n' G :=
  ⟨h.st.away hb h.new.2.2.2.1 (fun r hr => (h.far r hr).2.2.2.1), h.ca.but h.sy (by decide) (by decide) hb, h.cb.but h.sy (by decide) (by decide) hb, hb.whole h.sx h.ne.2, hs, hb.whole h.gv (whole_unlike h.gv h.sy (by decide)), h.new, h.ne, h.far⟩
theorem Bh.setG (h : Bh W w L a b x y g ca cb nx ny G) (k : Nat) (u : Value) : Bh W (w.setCell ⟨g, k, none⟩ u) L a b x y g ca cb nx ny (G.setIfInBounds k u) := by
  have hb : But g w (w.setCell ⟨g, k, none⟩ u) := (But.refl g w).set k u
  exact ⟨h.st.away hb h.new.2.2.2.2 (fun r hr => (h.far r hr).2.2.2.2), h.ca.but h.gv (by decide) (by decide) hb, h.cb.but h.gv (by decide) (by decide) hb, hb.whole h.sx (whole_unlike h.sx h.gv (by decide)), hb.whole h.sy (whole_unlike h.sy h.gv (by decide)), h.gv.set k u, h.new, h.ne, h.far⟩
/-- A known block of two cells is set anew. -/
theorem Bh.set2 {z : Nat} {t : TypeId} {c0 c1 d0 d1 : Value} (h : Bh W w ((z, t, #[c0, c1]) :: L) a b x y g ca cb nx ny G) (hz : W.heap.size ≤ z) (hd : ∀ r ∈ L, r.1 ≠ z) (h1 : t ≠ 68) (h2 : t ≠ 70) :
    Bh W ((w.setCell ⟨z, 0, none⟩ d0).setCell ⟨z, 1, none⟩ d1) ((z, t, #[d0, d1]) :: L) a b x y g ca cb nx ny G := by
  have hb : But z w ((w.setCell ⟨z, 0, none⟩ d0).setCell ⟨z, 1, none⟩ d1) := ((But.refl z w).set 0 d0).set 1 d1
  have hw := h.st.knows.at 0 rfl
  obtain ⟨f1, f2, f3, f4, f5⟩ := h.far _ (List.mem_cons_self ..)
  refine ⟨by simpa using (h.st.set0 hz hd 0 d0).set0 hz hd 1 d1, h.ca.but hw h1 h2 hb, h.cb.but hw h1 h2 hb, hb.whole h.sx (fun e => f3 e.symm), hb.whole h.sy (fun e => f4 e.symm), hb.whole h.gv (fun e => f5 e.symm), h.new, h.ne, fun r hr => ?_⟩
  rcases List.mem_cons.1 hr with rfl | hr
  · exact ⟨f1, f2, f3, f4, f5⟩
  · exact h.far r (List.mem_cons_of_mem _ hr)
theorem Bh.class (h : Bh W w L a b x y g ca cb nx ny G) : ∃ C : World → Prop, C w.drew ∧ Hid (∀ u v, C u → Below u.heap.size u v → C v) ∧ Hid (∀ u, C u → Bh W u L a b x y g ca cb nx ny G) :=
  ⟨fun u => Bh W u L a b x y g ca cb nx ny G, h.drewN 1, Lib.hid fun u v hu hv => hu.call hv, Lib.hid fun u hu => hu⟩
end

/-! ### Turns opened -/
structure Tu where
  d : Int
  a : Int
  b : Int
  who : Bool
  wait : Bool
instance : Inhabited Tu := ⟨⟨0, 0, 0, false, false⟩⟩
def encT (v : Tu) : List Value := [.int .u16 v.d, .int .i64 v.a, .int .i64 v.b, .bool v.who, .bool v.wait]
def GT (v : Tu) : Prop := (0 ≤ v.d ∧ v.d ≤ 65535) ∧ R64 v.a ∧ R64 v.b
theorem encT_len (v : Tu) : (encT v).length = 5 := rfl
section
variable {H : Type} {enc : TypeId × Value → H} {W : World} {base : Nat} {spare : Nat → Bool} {held : Bool}
theorem turn_cells {m : Nat} {cs : List Value} {x : DataW H × List MemPlace} (hm : DataW.trod enc Try.prog W base spare held m 54 cs = some x) : ∃ v, cs = encT v ∧ GT v := by
  obtain ⟨xs, n, -, -, hl, hxl, hf⟩ := DataW.trod_struct Try.underlying54 hm
  rw [show Try.prog.cellsOf 54 = 5 by kernel_rfl] at hl
  obtain ⟨c0, c1, c2, c3, c4, rfl⟩ := list5 hl
  obtain ⟨y0, y1, y2, y3, y4, rfl⟩ := list5 (l := xs) (by simpa using hxl)
  have h0 : DataW.trod enc Try.prog W base spare held n 52 (([c0, c1, c2, c3, c4].drop 0).take (Try.prog.cellsOf 52)) = some y0 := hf 0 _ rfl
  have h1 : DataW.trod enc Try.prog W base spare held n 2 (([c0, c1, c2, c3, c4].drop 1).take (Try.prog.cellsOf 2)) = some y1 := hf 1 _ rfl
  have h2 : DataW.trod enc Try.prog W base spare held n 2 (([c0, c1, c2, c3, c4].drop 2).take (Try.prog.cellsOf 2)) = some y2 := hf 2 _ rfl
  have h3 : DataW.trod enc Try.prog W base spare held n 4 (([c0, c1, c2, c3, c4].drop 3).take (Try.prog.cellsOf 4)) = some y3 := hf 3 _ rfl
  have h4 : DataW.trod enc Try.prog W base spare held n 4 (([c0, c1, c2, c3, c4].drop 4).take (Try.prog.cellsOf 4)) = some y4 := hf 4 _ rfl
  rw [show Try.prog.cellsOf 52 = 1 by kernel_rfl] at h0
  rw [show Try.prog.cellsOf 2 = 1 by kernel_rfl] at h1 h2
  rw [show Try.prog.cellsOf 4 = 1 by kernel_rfl] at h3 h4
  obtain ⟨a, e0, -, w0⟩ := DataW.trod_int Try.underlying52 h0
  obtain ⟨b, e1, -, w1⟩ := DataW.trod_int Try.underlying2 h1
  obtain ⟨c, e2, -, w2⟩ := DataW.trod_int Try.underlying2 h2
  obtain ⟨d, e3⟩ := bool_of Try.underlying4 h3
  obtain ⟨f, e4⟩ := bool_of Try.underlying4 h4
  simp only [List.drop_succ_cons, List.drop_zero, List.take_succ_cons, List.take_zero, List.cons.injEq, and_true] at e0 e1 e2 e3 e4
  subst e0 e1 e2 e3 e4
  exact ⟨⟨a, b, c, d, f⟩, rfl, bounds_u16 w0, sr64_of (bounds_i64 w1), sr64_of (bounds_i64 w2)⟩
theorem open_turns {A : Option Addr} {len cap : Nat} {d : DataW H} {p : List MemPlace} (h : DataW.Trod enc Try.prog W 0 (fun _ => true) held 44 (.slice A len cap) d p) : ∃ l, IsR W A len cap 5 encT GT l :=
  open_row Try.underlying44 (by kernel_rfl) (by omega) encT_len (fun m cs x hm => turn_cells hm) h
end
end Go.Proofs.Ytjpalcolhagpcaa
