/- Contracts of Pack, the program's and the document's. -/
import Derived.Test.YtmaeacklloaeaaaWireB
namespace Go.Proofs.Ytmaeacklloaeaaa
open Go.RowKit Go.Fl Go.Wr
set_option linter.unusedVariables false
set_option linter.unusedSimpArgs false

/-- The cells of a list of values. -/
def rowV (l : List Val) : List Value := l.flatMap cellsV
theorem rowV_length (l : List Val) : (rowV l).length = l.length * 5 := by
  induction l with
  | nil => rfl
  | cons v l ih => simp [rowV, cellsV] at *; omega
theorem rowV_at (l : List Val) : ∀ (k : Nat) (v : Val), l[k]? = some v → ∀ j, j < 5 → (rowV l)[k * 5 + j]? = (cellsV v)[j]? := by
  induction l with
  | nil => intro k v h; simp at h
  | cons x l ih =>
    intro k v h j hj
    have e : rowV (x :: l) = cellsV x ++ rowV l := rfl
    have hx : (cellsV x).length = 5 := rfl
    cases k with
    | zero =>
      simp at h
      subst h
      rw [e, List.getElem?_append_left (by omega)]; simp
    | succ k =>
      rw [e, List.getElem?_append_right (by omega), hx, show (k + 1) * 5 + j - 5 = k * 5 + j by omega]
      exact ih k v (by simpa using h) j hj

/-- The slice (A, n) shows these values. -/
def SeesV (w : World) (B : Nat) (A : Option Addr) (l : List Val) : Prop := Sees w B 5 A l.length (rowV l)
theorem SeesV.cell {w : World} {B : Nat} {A : Option Addr} {l : List Val} (h : SeesV w B A l) {k : Nat} {v : Val} (hk : l[k]? = some v) :
    ∃ b off, A = some ⟨b, off, none⟩ ∧ b < B ∧ ∀ j u, j < 5 → (cellsV v)[j]? = some u → w.cell? ⟨b, off + k * 5 + j, none⟩ = some u := by
  have hl := (List.getElem?_eq_some_iff.1 hk).1
  obtain ⟨b, off, rfl, hb, hc⟩ := h.2 (by omega)
  exact ⟨b, off, rfl, hb, fun j u hj hu => by rw [Nat.add_assoc]; exact hc (k * 5 + j) u (by rw [rowV_at l k v hk j hj]; exact hu)⟩

theorem encs_snoc (l : List Val) (k : Nat) (v : Val) (h : l[k]? = some v) : encs (l.take (k + 1)) = encs (l.take k) ++ enc v := by
  have hl := (List.getElem?_eq_some_iff.1 h)
  rw [List.take_succ_eq_append_getElem hl.1, hl.2, encs_append]; simp [encs]

theorem err1_take (l : List Val) (k : Nat) (v : Val) (h : l[k]? = some v) (h0 : err1 (l.take k) = 0) :
    (valid v ≠ 0 → err1 l = valid v) ∧ (valid v = 0 → err1 (l.take (k + 1)) = 0) := by
  induction l generalizing k with
  | nil => simp at h
  | cons x l ih =>
    cases k with
    | zero =>
      simp at h
      subst h
      refine ⟨fun hv => by simp only [err1]; rw [if_neg hv], fun hv => by simp [err1, hv]⟩
    | succ k =>
      simp only [List.take_succ_cons, err1] at h0 ⊢
      split at h0
      · rename_i hx
        rw [if_pos hx]
        have := ih k (by simpa using h) h0
        refine ⟨fun hv => this.1 hv, fun hv => ?_⟩
        rw [if_pos hx]; exact this.2 hv
      · rename_i hx; exact absurd h0 hx

theorem enc_le (v : Val) (hw : v.wf) (hv : valid v = 0) : (enc v).length ≤ 1011 := by
  obtain ⟨k, u, i, f, s⟩ := v
  obtain ⟨w1, w2, w3, w4, w5, w6, w7, w8⟩ := hw
  simp only at w1 w2 w3 w4 w5 w6 w7 w8
  simp only [valid] at hv
  (repeat' split at hv) <;> try (exfalso; omega)
  have h1 := num_bound u.toNat (by omega)
  have h2 := num_bound (un i) (un_lt i w5 w6)
  have h3 := eight_length (usu f)
  have h4 := num_bound s.size (by omega)
  have h5 := ba_size s
  simp only [enc, encBody, List.length_cons]
  (repeat' split) <;> (try rw [List.length_append]) <;> omega
theorem encs_le (l : List Val) (hg : Wr.Good l) : (encs l).length ≤ l.length * 1011 := by
  induction l with
  | nil => simp [encs]
  | cons v l ih =>
    have h1 := hg v (by simp)
    have h2 := ih fun x hx => hg x (List.mem_cons_of_mem _ hx)
    have h3 := enc_le v h1.1 h1.2
    rw [encs_cons, List.length_append, List.length_cons]; omega

/-- What Pack leaves. -/
def Packed (w : World) (l : List Val) (e : Ending) (w' : World) : Prop :=
  ∃ v, e = .returned (.tuple #[v, .int .i64 (packE l)]) ∧ OwnB w' w.heap.size v (packB l) ∧ Below w.heap.size w w'

theorem pack_many (A : Option Addr) (cap : Nat) (l : List Val) (w : World) (h : 1000 < l.length) :
    Calls Try.prog 13 #[.slice A l.length cap] w (Packed w l) := by
  have HE : Hid (packE l = 20) := Lib.hid (by unfold packE; rw [if_pos h])
  have HB : Hid (packB l = []) := Lib.hid (by unfold packB; rw [HE.out]; rfl)
  generalize l.length = n at *
  go_enter Try.func13, Try.ntmps13
  go_wp2_with fail
  go_ret2
  refine ⟨.slice none 0 0, by rw [HE.out]; rfl, ?_, Below.refl _ _⟩
  rw [HB.out]
  exact OwnB.none_ _ _

theorem pack_few (B : Nat) (A : Option Addr) (cap : Nat) (l : List Val) (w : World) (h : l.length ≤ 1000) (hw : ∀ v ∈ l, v.wf) (hs : SeesV w B A l) (hB : B ≤ w.heap.size) (hc1 : l.length ≤ cap) (hc2 : cap ≤ 9223372036854775807) :
    Calls Try.prog 13 #[.slice A l.length cap] w (Packed w l) := by
  have hd : decide ((1000 : Int) < (l.length : Int)) = false := by simpa using (by omega : (l.length : Int) ≤ 1000)
  have HS := Lib.hid hs
  have HW := Lib.hid hw
  clear hs hw
  go_enter Try.func13, Try.ntmps13
  go_wp2
  go_loopw [4, 13] (fun b i wr => ∃ k : Nat, k ≤ l.length ∧ i = .int .i64 (k : Int) ∧ OwnB wr w.heap.size b (encs (l.take k)) ∧ Below w.heap.size w wr ∧ err1 (l.take k) = 0) (fun _ i _ => l.length - (intOf i).toNat)
  case atStart => exact ⟨0, by omega, rfl, OwnB.none_ _ _, Below.refl _ _, rfl⟩
  case round =>
    obtain ⟨k, hk, rfl, hown, hbel, he⟩ := hrel
    have HO := Lib.hid hown
    have HB := Lib.hid hbel
    have HE := Lib.hid he
    clear hown hbel he
    by_cases hlt : k < l.length
    · obtain ⟨v, hv⟩ : ∃ v, l[k]? = some v := ⟨_, List.getElem?_eq_getElem hlt⟩
      obtain ⟨b0, off, rfl, hb, hc⟩ := HS.out.cell hv
      have cell : ∀ j u, j < 5 → (cellsV v)[j]? = some u → wr.cell? ⟨b0, off + k * 5 + j, none⟩ = some u := fun j u hj hu => (HB.out.cell (p := ⟨b0, _, none⟩) (show b0 < w.heap.size by omega)).trans (hc j u hj hu)
      have c0 : wr.cell? ⟨b0, off + k * 5, none⟩ = _ := cell 0 _ (by omega) rfl
      have c1 := cell 1 _ (by omega) rfl
      have c2 := cell 2 _ (by omega) rfl
      have c3 := cell 3 _ (by omega) rfl
      have c4 := cell 4 _ (by omega) rfl
      clear hc cell
      have hmem : v ∈ l := List.mem_of_getElem? hv
      have htk := err1_take l k v hv HE.out
      have hgd : Wr.Good (l.take k) := fun x hx => ⟨HW.out x (List.mem_of_mem_take hx), (err1_zero _).1 HE.out x hx⟩
      have hle := encs_le (l.take k) hgd
      have hle2 : (encs (l.take k)).length ≤ 1011000 := by rw [List.length_take] at hle; omega
      have HSN := Lib.hid (encs_snoc l k v hv)
      have HVW := Lib.hid (HW.out v hmem)
      clear hmem hgd hle hv
      have HV2 := Lib.hid (valid_any v HVW.out)
      have hB' := HB.out.size
      by_cases hv0 : valid v = 0
      · have HZ := Lib.hid hv0
        have HT := Lib.hid (htk.2 hv0)
        have HV3 := Lib.hid (fun w0 (hw0 : w.heap.size ≤ w0.heap.size) (b : Value) (ho : OwnB w0 w.heap.size b (encs (l.take k))) => appv_any w.heap.size b (encs (l.take k)) v HVW.out hv0 w0 hw0 ho (by omega))
        clear htk hv0
        rw [HZ.out] at HV2
        generalize encs (l.take k) = ds at *
        go_wp2_with fail
        refine (HV2.out _).mono ?_
        rintro e w1 ⟨rfl, hb⟩
        have hW1 : Whole w1 wr.heap.size 36 _ := (Whole.fresh wr 36 _).below hb (by simp)
        have g0 := hW1.cell 0
        have g1 := hW1.cell 1
        have g2 := hW1.cell 2
        have g3 := hW1.cell 3
        have g4 := hW1.cell 4
        simp at g0 g1 g2 g3 g4
        have hb1 : Below w.heap.size w w1 := (HB.out.alloc hB' _).trans (hb.mono (by simp; omega))
        have ho1 := HO.out.keep ((((Below.refl wr.heap.size wr).alloc (Nat.le_refl _) _)).trans (hb.mono (by simp))) (Nat.le_refl _)
        have HB1 := Lib.hid hb1
        have HO1 := Lib.hid ho1
        clear hW1 hb hb1 ho1
        go_wp2_with fail
        refine (HV3.out _ HB1.out.size _ HO1.out).mono ?_
        rintro e w2 ⟨v2, rfl, ho2, st2⟩
        have HO2 := Lib.hid ho2
        have HB2 := Lib.hid (HB1.out.trans st2.below)
        clear ho2 st2
        go_wp2_with fail
        go_roundw
        case rel => exact ⟨k + 1, by omega, by go_num, by rw [HSN.out]; exact HO2.out, HB2.out, HT.out⟩
        case measure => simp [intOf]; omega
      · have HT := Lib.hid (htk.1 hv0)
        have hne : (valid v != 0) = true := by simpa using hv0
        have HZ := Lib.hid hv0
        have HPE : Hid (packE l = valid v) := Lib.hid (by unfold packE; rw [if_neg (by omega)]; exact HT.out)
        have HPB : Hid (packB l = []) := Lib.hid (by unfold packB; rw [HPE.out, if_neg HZ.out])
        clear htk hv0
        generalize valid v = x at *
        go_wp2_with fail
        refine (HV2.out _).mono ?_
        rintro e w1 ⟨rfl, hb⟩
        have hb1 : Below w.heap.size w w1 := (HB.out.alloc hB' _).trans (hb.mono (by simp; omega))
        have HB1 := Lib.hid hb1
        clear hb hb1
        go_wp2_with fail
        go_ret2
        refine ⟨.slice none 0 0, by rw [HPE.out]; rfl, ?_, HB1.out⟩
        rw [HPB.out]
        exact OwnB.none_ _ _
    · have hkl : k = l.length := by omega
      subst hkl
      rw [List.take_length] at HE HO
      have HPE : Hid (packE l = 0) := Lib.hid (by unfold packE; rw [if_neg (by omega)]; exact HE.out)
      have HPB : Hid (packB l = encs l) := Lib.hid (by unfold packB; rw [HPE.out]; rfl)
      go_wp2_with fail
      go_ret2
      refine ⟨_, by rw [HPE.out]; rfl, ?_, HB.out⟩
      rw [HPB.out]
      exact HO.out
end Go.Proofs.Ytmaeacklloaeaaa
