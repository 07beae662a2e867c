/- Contracts at layer 10: the document's Last, Keep, Wait. -/
import Derived.Test.YtjpalcolhagpcaaStmpR
namespace Go.Proofs.Ytjpalcolhagpcaa
open Go.RowKit Go.Sp Go.Fl Go.Ck Go.Tp
set_option linter.unusedVariables false
set_option linter.unusedSimpArgs false
set_option maxRecDepth 100000

theorem rlast_any (A : Option Addr) (cap : Nat) (l : List Int) (w : World) (hr : Rw w A cap l) :
    Calls Try.prog 15 #[.slice A l.length cap] w fun e w' => e = .returned (.int .i64 (top 0 l)) ∧ w' = w := by
  have HR := Lib.hid hr
  have htop := hr.top
  have hroom := hr.room
  clear hr
  go_enter Try.func15, Try.ntmps15
  go_wp2_with fail
  go_loopw [3, 4] (fun v i wr => ∃ k : Nat, k ≤ l.length ∧ i = .int .i64 (k : Int) ∧ v = .int .i64 (top 0 (l.take k)) ∧ wr = w) (fun _ i _ => l.length - (intOf i).toNat)
  case atStart => exact ⟨0, by omega, rfl, rfl, rfl⟩
  case round =>
    obtain ⟨k, hk, rfl, rfl, e⟩ := hrel
    subst e
    by_cases hlt : k < l.length
    · obtain ⟨n, hn⟩ : ∃ n, l[k]? = some n := ⟨_, List.getElem?_eq_getElem hlt⟩
      obtain ⟨b0, off, rfl, hb0, g0⟩ := HR.out.cell k n hn
      have HT := Lib.hid (top_take 0 l k n hn)
      have hkl : (k : Int) < (l.length : Int) := by omega
      have hm := mx_cases (top 0 (l.take k)) n
      clear hn
      generalize top 0 (l.take k) = S at *
      rcases hm with ⟨m1, m2⟩ | ⟨m1, m2⟩
      all_goals
        rw [m2] at HT
        go_wp2_with fail
        go_roundw
        case rel => exact ⟨k + 1, by omega, by go_num, by rw [HT.out], by first | rfl | trivial⟩
        case measure => simp [intOf]; omega
    · obtain rfl : k = l.length := by omega
      rw [List.take_length]
      go_wp2_with fail
      go_ret
      exact ⟨rfl, rfl⟩

theorem info_i64 : (Try.prog.info? 2).map (fun i => (i.zero, i.size, i.bytes)) = some (some (.int .i64 0), 1, 8) := by kernel_rfl
theorem own_block_ge {w : World} {B size n k : Nat} {e : TypeId} {v : Value} {xs : List Value} (h : w.ownsRow B e size v n xs) (hk : v.ownBlock = some k) : B ≤ k := by
  rcases h.2 with ⟨rfl, _⟩ | ⟨g, cap, cur, rfl, hb, _⟩
  · simp [Value.ownBlock] at hk
  · have : g = k := by simpa [Value.ownBlock] using hk
    omega
theorem own_at0 (w : World) (e : TypeId) (size g : Nat) (hg : g = w.heap.size) : (w.alloc (.cells #[] e)).ownsRow g e size (.slice (some ⟨g, 0, none⟩) 0 0) 0 [] := by
  subst hg
  exact own_empty w e size
theorem own_low {w : World} {B size n c m : Nat} {e : TypeId} {A : Option Addr} {xs : List Value} {p : Addr} (h : w.ownsRow B e size (.slice A n c) n xs) (hp : A = some p) (hm : m ≤ B) : m ≤ p.block := by
  subst hp
  rcases h.2 with ⟨hn, -⟩ | ⟨g, cap, cur, e1, hb, -⟩
  · cases hn
  · injection e1 with e1 e2 e3
    injection e1 with e1
    subst e1
    exact Nat.le_trans hm hb
theorem rw_of_own {w : World} {B n : Nat} {A : Option Addr} {c : Nat} {l : List Int} (h : w.ownsRow B 2 1 (.slice A n c) n (ints l)) (hl : l.length = n) : Rw w A c l := by
  obtain ⟨a, c', e, h1, h2, h3⟩ := own_slice0 h
  injection e with e1 e2 e3
  subst e1 e3
  subst hl
  exact ⟨Sees.own h, h1, h2, h3⟩
theorem sees_one (w : World) (g : Nat) (hg : g = w.heap.size) (v : Int) : Sees (w.alloc (.cells #[.int .i64 v] 2)) (g + 1) 1 (some ⟨g, 0, none⟩) 1 (ints [v]) := by
  subst hg
  refine ⟨rfl, fun _ => ⟨w.heap.size, 0, rfl, by omega, fun j u hu => ?_⟩⟩
  rw [Nat.zero_add, (Whole.fresh w _ _).cell j, ← Array.getElem?_toList]
  exact hu

def kept (m : List Int) (t : Int) : List Int := if isK t then m ++ [t] else m
set_option maxHeartbeats 4000000 in
theorem rkeep_any (A : Option Addr) (cap : Nat) (m : List Int) (t : Int) (w : World) (hr : Rw w A cap m) (hm : m.length ≤ 1000) :
    Calls Try.prog 12 #[.slice A m.length cap, .int .i64 t] w fun e w' => ∃ A' cap', e = .returned (.tuple #[.slice A' (kept m t).length cap', .int .i64 (keepE t)]) ∧ Below w.heap.size w w' ∧ Rw w' A' cap' (kept m t) ∧ (A' = A ∨ ∀ a, A' = some a → w.heap.size ≤ a.block) := by
  have HR := Lib.hid hr
  have htop := hr.top
  have hroom := hr.room
  have HI := Lib.hid (fun w0 => risk_any t w0)
  have hnil := Lib.hid hr.nil
  clear hr
  unfold kept
  rcases keep_cases 0 t with ⟨e1, -, e2, -⟩ | ⟨e1, -, e2, -⟩
  · rw [e1] at HI
    rw [e2, if_pos e1]
    clear e1 e2
    go_enter Try.func12, Try.ntmps12
    go_wp2_with fail
    refine (HI.out _).mono ?_
    rintro e w1 ⟨rfl, e1⟩
    subst w1
    go_wp2_with (at_builtin; refine wpList_appG rfl (.tmp 10) (.tmp 11) _ 2 _ 1 8 rfl info_i64 Try.underlying26 rfl (by decide) w.heap.size _ 0 [] rfl (own_at0 _ 2 1 _ rfl) w.heap.size _ _ cap (ints m) rfl (HR.out.sees.alloc (Nat.le_refl _) _) hnil.out (ints_one m) (by omega) (by omega) (by simp) ?_)
    intro v1 y1 ho1 hg1
    try rw [Nat.zero_add] at ho1
    try rw [List.nil_append] at ho1
    have hb1 : Below w.heap.size w y1 := ((Below.refl _ _).alloc (Nat.le_refl _) _).grown hg1 (by simp) (fun k hk => by
      have : some w.heap.size = some k := hk
      injection this with this
      omega)
    have HO1 := Lib.hid ho1
    have HB1 := Lib.hid hb1
    have hy1 := hb1.size
    obtain ⟨A1, cp1, rfl, -, -, -⟩ := own_slice0 ho1
    clear ho1 hg1 hb1
    go_wp2_with (at_builtin; refine wpList_appG rfl (.tmp 12) (.tmp 14) _ 2 _ 1 8 rfl info_i64 Try.underlying26 rfl (by decide) w.heap.size _ m.length (ints m) rfl (HO1.out.alloc _) (y1.heap.size + 1) (some ⟨y1.heap.size, 0, none⟩) 1 1 (ints [t]) rfl (sees_one y1 _ rfl t) (fun h => by cases h) (ints_one [t]) (by omega) (by omega) (by simp; omega) ?_)
    intro v2 y2 ho2 hg2
    rw [← ints_append] at ho2
    have hb2 : Below w.heap.size w y2 := (HB1.out.alloc hy1 _).grown hg2 (by simp; omega) (fun k hk => own_block_ge HO1.out hk)
    obtain ⟨A2, cp2, rfl, -, -, -⟩ := own_slice0 ho2
    go_wp2_with fail
    go_ret2
    exact ⟨A2, cp2, by simp, hb2, rw_of_own (by simpa using ho2) (by simp), .inr (fun a ha => own_low ho2 ha (Nat.le_refl _))⟩
  · rw [e1] at HI
    rw [e2, if_neg (by rw [e1]; simp)]
    clear e1 e2
    go_enter Try.func12, Try.ntmps12
    go_wp2_with fail
    refine (HI.out _).mono ?_
    rintro e w1 ⟨rfl, e1⟩
    subst w1
    go_wp2_with fail
    go_ret2
    exact ⟨A, cap, rfl, Below.refl _ _, HR.out, .inl rfl⟩
set_option maxHeartbeats 4000000 in
theorem rwait_any (t lo hi : Int) (w : World) : Calls Try.prog 17 #[.int .i64 t, .agg #[.int .i64 lo, .int .i64 hi]] w fun e w' => e = .returned (.tuple #[.int .i64 (waitV t lo hi), .int .i64 (waitE t lo hi)]) ∧ Below w.heap.size w w' := by
  have HI := Lib.hid (fun w0 => risk_any t w0)
  have HC := Lib.hid (fun w0 => ris_any lo hi w0)
  have H := Lib.hid ((St.start w).alloc w.heap.size rfl 28 #[.int .i64 lo, .int .i64 hi])
  rcases wait_cases t lo hi with ⟨e1, e2, e3, e4⟩ | ⟨e1, e2, e3, e4⟩ | ⟨e1, e3, e4⟩
  · have hS := (isS_iff _ _).1 e2
    have hK := (isK_iff _).1 e1
    rw [e1] at HI
    rw [e2] at HC
    rw [e3]
    clear e1 e2 e3
    rcases e4 with ⟨k1, k2⟩ | ⟨k1, k2⟩
    all_goals
      rw [k2]
      clear k2
      go_enter Try.func17, Try.ntmps17
      go_wp2_with fail
      refine (HI.out _).mono ?_
      rintro e w1 ⟨rfl, e1⟩
      subst w1
      obtain ⟨c0, c1, d0, d1, z0⟩ := H.out.two 0 w.heap.size rfl
      go_wp2_with fail
      refine (HC.out _).mono ?_
      rintro e w1 ⟨rfl, hb⟩
      have H1 := Lib.hid (H.out.call hb)
      clear hb c0 c1 d0 d1 z0
      obtain ⟨c0, c1, d0, d1, z0⟩ := H1.out.two 0 w.heap.size rfl
      go_wp2_with fail
      go_ret2
      exact ⟨by first | rfl | (simp; done) | (simp; omega), H1.out.below⟩
  · rw [e1] at HI
    rw [e2] at HC
    rw [e3, e4]
    clear e1 e2 e3 e4
    go_enter Try.func17, Try.ntmps17
    go_wp2_with fail
    refine (HI.out _).mono ?_
    rintro e w1 ⟨rfl, e1⟩
    subst w1
    obtain ⟨c0, c1, d0, d1, z0⟩ := H.out.two 0 w.heap.size rfl
    go_wp2_with fail
    refine (HC.out _).mono ?_
    rintro e w1 ⟨rfl, hb⟩
    have H1 := Lib.hid (H.out.call hb)
    clear hb c0 c1 d0 d1 z0
    go_wp2_with fail
    go_ret2
    exact ⟨rfl, H1.out.below⟩
  · rw [e1] at HI
    rw [e3, e4]
    clear e1 e3 e4
    go_enter Try.func17, Try.ntmps17
    go_wp2_with fail
    refine (HI.out _).mono ?_
    rintro e w1 ⟨rfl, e1⟩
    subst w1
    go_wp2_with fail
    go_ret2
    exact ⟨rfl, H.out.below⟩
end Go.Proofs.Ytjpalcolhagpcaa
