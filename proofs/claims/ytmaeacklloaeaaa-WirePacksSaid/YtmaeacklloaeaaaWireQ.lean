/- Contracts of the document's Pack, Same and All, and of few. -/
import Derived.Test.YtmaeacklloaeaaaWireK
import Derived.Test.YtmaeacklloaeaaaWireO
namespace Go.Proofs.Ytmaeacklloaeaaa
open Go.RowKit Go.Fl Go.Wr
set_option linter.unusedVariables false
set_option linter.unusedSimpArgs false

/-- What the document's Pack leaves. -/
def RPacked (w : World) (l : List Val) (e : Ending) (w' : World) : Prop :=
  e = .returned (.tuple #[.string (txt (packB l)), .int .i64 (packE l)]) ∧ Below w.heap.size w w'

theorem rpack_many (A : Option Addr) (cap : Nat) (l : List Val) (w : World) (h : 1000 < l.length) :
    Calls Try.prog 14 #[.slice A l.length cap] w (RPacked w l) := by
  have HE : Hid (packE l = 20) := Lib.hid (by unfold packE; rw [if_pos h])
  have HB : Hid (packB l = []) := Lib.hid (by unfold packB; rw [HE.out]; rfl)
  generalize l.length = n at *
  go_enter Try.func14, Try.ntmps14
  go_wp2_with fail
  go_ret2
  refine ⟨?_, Below.refl _ _⟩
  rw [HE.out, HB.out]; rfl

theorem rpack_few (B : Nat) (A : Option Addr) (cap : Nat) (l : List Val) (w : World) (h : l.length ≤ 1000) (hw : ∀ v ∈ l, v.wf) (hs : SeesV w B A l) (hB : B ≤ w.heap.size) (hc1 : l.length ≤ cap) (hc2 : cap ≤ 9223372036854775807) :
    Calls Try.prog 14 #[.slice A l.length cap] w (RPacked w l) := by
  have hd : decide ((1000 : Int) < (l.length : Int)) = false := by simpa using (by omega : (l.length : Int) ≤ 1000)
  have HS := Lib.hid hs
  have HW := Lib.hid hw
  clear hs hw
  go_enter Try.func14, Try.ntmps14
  go_wp2
  go_loopw [4, 5] (fun b i wr => ∃ k : Nat, k ≤ l.length ∧ i = .int .i64 (k : Int) ∧ b = .string (txt (encs (l.take k))) ∧ Below w.heap.size w wr ∧ err1 (l.take k) = 0) (fun _ i _ => l.length - (intOf i).toNat)
  case atStart => exact ⟨0, by omega, rfl, rfl, Below.refl _ _, rfl⟩
  case round =>
    obtain ⟨k, hk, rfl, rfl, hbel, he⟩ := hrel
    have HB := Lib.hid hbel
    have HE := Lib.hid he
    clear hbel he
    by_cases hlt : k < l.length
    · obtain ⟨v, hv⟩ : ∃ v, l[k]? = some v := ⟨_, List.getElem?_eq_getElem hlt⟩
      obtain ⟨b0, off, rfl, hb, hc⟩ := HS.out.cell hv
      have cell : ∀ j u, j < 5 → (cellsV v)[j]? = some u → wr.cell? ⟨b0, off + k * 5 + j, none⟩ = some u := fun j u hj hu => (HB.out.cell (p := ⟨b0, _, none⟩) (show b0 < w.heap.size by omega)).trans (hc j u hj hu)
      have c0 : wr.cell? ⟨b0, off + k * 5, none⟩ = _ := cell 0 _ (by omega) rfl
      have c1 := cell 1 _ (by omega) rfl
      have c2 := cell 2 _ (by omega) rfl
      have c3 := cell 3 _ (by omega) rfl
      have c4 := cell 4 _ (by omega) rfl
      have hmem : v ∈ l := List.mem_of_getElem? hv
      have htk := err1_take l k v hv HE.out
      have hgd : Wr.Good (l.take k) := fun x hx => ⟨HW.out x (List.mem_of_mem_take hx), (err1_zero _).1 HE.out x hx⟩
      have hle := encs_le (l.take k) hgd
      have hle2 : (encs (l.take k)).length ≤ 1011000 := by rw [List.length_take] at hle; omega
      have HSN := Lib.hid (encs_snoc l k v hv)
      have HVW := Lib.hid (HW.out v hmem)
      clear hmem hgd hle hv cell
      have HV2 := Lib.hid (rvalid_any v HVW.out)
      have hB' := HB.out.size
      have HCELL : Hid (∀ w1, Below w.heap.size w w1 → ∀ j u, j < 5 → (cellsV v)[j]? = some u → w1.cell? ⟨b0, off + k * 5 + j, none⟩ = some u) :=
        Lib.hid fun w1 hb1 j u hj hu => (hb1.cell (p := ⟨b0, _, none⟩) (show b0 < w.heap.size by omega)).trans (hc j u hj hu)
      clear hc
      by_cases hv0 : valid v = 0
      · have HZ := Lib.hid hv0
        have HT := Lib.hid (htk.2 hv0)
        have HV3 := Lib.hid (one_any v HVW.out hv0)
        have hel := enc_le v HVW.out hv0
        have ha := add_eq (encs (l.take k)) (enc v)
        have hz := add_fits (encs (l.take k)) (enc v) (by omega)
        rw [← HSN.out] at ha
        have HA := Lib.hid ha
        clear htk hv0 ha
        rw [HZ.out] at HV2
        generalize txt (encs (l.take k)) = ds at *
        generalize enc v = ev at *
        go_wp2_with fail
        refine (HV2.out _).mono ?_
        rintro e w1 ⟨rfl, hb⟩
        have hb1 : Below w.heap.size w w1 := HB.out.trans (hb.mono (by omega))
        have c0 : w1.cell? ⟨b0, off + k * 5, none⟩ = _ := HCELL.out w1 hb1 0 _ (by omega) rfl
        have c1 := HCELL.out w1 hb1 1 _ (by omega) rfl
        have c2 := HCELL.out w1 hb1 2 _ (by omega) rfl
        have c3 := HCELL.out w1 hb1 3 _ (by omega) rfl
        have c4 := HCELL.out w1 hb1 4 _ (by omega) rfl
        have HB1 := Lib.hid hb1
        clear hb hb1
        go_wp2_with fail
        refine (HV3.out _).mono ?_
        rintro e w2 ⟨rfl, hb2⟩
        have HB2 := Lib.hid (HB1.out.trans (hb2.mono HB1.out.size))
        clear hb2
        go_wp2_with fail
        go_roundw
        case rel => exact ⟨k + 1, by omega, by go_num, by rw [HA.out], HB2.out, HT.out⟩
        case measure => simp [intOf]; omega
      · have HT := Lib.hid (htk.1 hv0)
        have hne : (valid v != 0) = true := by simpa using hv0
        have HZ := Lib.hid hv0
        have HPE : Hid (packE l = valid v) := Lib.hid (by unfold packE; rw [if_neg (by omega)]; exact HT.out)
        have HPB : Hid (packB l = []) := Lib.hid (by unfold packB; rw [HPE.out, if_neg HZ.out])
        clear htk hv0
        generalize valid v = x at *
        go_wp2_with fail
        refine (HV2.out _).mono ?_
        rintro e w1 ⟨rfl, hb⟩
        have HB1 := Lib.hid (HB.out.trans (hb.mono (by omega)))
        clear hb
        go_wp2_with fail
        go_ret2
        refine ⟨?_, HB1.out⟩
        rw [HPE.out, HPB.out]; rfl
    · have hkl : k = l.length := by omega
      subst hkl
      rw [List.take_length] at HE
      have HPE : Hid (packE l = 0) := Lib.hid (by unfold packE; rw [if_neg (by omega)]; exact HE.out)
      have HPB : Hid (packB l = encs l) := Lib.hid (by unfold packB; rw [HPE.out]; rfl)
      go_wp2_with fail
      go_ret2
      refine ⟨?_, HB.out⟩
      rw [HPE.out, HPB.out]
      simp
end Go.Proofs.Ytmaeacklloaeaaa
