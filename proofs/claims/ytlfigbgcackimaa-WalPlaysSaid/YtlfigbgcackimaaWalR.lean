/- The document's wal, plain; contract of its Frames. -/
import Derived.Test.YtlfigbgcackimaaDiskT
import Derived.Test.YtlfigbgcackimaaWalL
namespace Go.Wl
open Go.Dk Go.Fm
set_option linter.unusedVariables false
/-- The document's wal. -/
structure Rw where
  log : Int
  ls : List (List UInt8)
  sure : Nat
  dead : Bool
def Rw.none : Rw := ⟨0, [], 0, false⟩
def Rw.met (u : Rw) (e : Int) : Rw := if e = 71 then { u with dead := true } else u
def Rw.did (u : Rw) (kind : Int) (l : List (List UInt8)) : Rw := if kind = 0 then { u with ls := u.ls ++ l } else if kind = 1 then { u with sure := u.ls.length } else { u with ls := l, sure := l.length }
def Long (l : List (List UInt8)) : Prop := ∃ x ∈ l, 65536 < x.length
instance (l : List (List UInt8)) : Decidable (Long l) := inferInstanceAs (Decidable (∃ x ∈ l, 65536 < x.length))
def Rw.act (u : Rw) (r : Rf) (kind : Int) (l : List (List UInt8)) : Rf × Rw × Int :=
  if u.dead then (r, u, 81) else if Long l then (r, u, 30) else
    if (r.act kind u.log (frames l)).2 = 0 then ((r.act kind u.log (frames l)).1, u.did kind l, 0) else ((r.act kind u.log (frames l)).1, u.met (r.act kind u.log (frames l)).2, (r.act kind u.log (frames l)).2)
end Go.Wl
namespace Go.Proofs.Ytlfigbgcackimaa
open Go.RowKit Go.Fm Go.Dk Go.Wl
set_option linter.unusedVariables false
set_option linter.unusedSimpArgs false
set_option maxRecDepth 100000

set_option maxHeartbeats 1000000 in
theorem rframes_any (B : Nat) (A : Option Addr) (cap : Nat) (ls : List (List UInt8)) (w : World) (hs : Sees w B 1 A ls.length (strs ls)) (hB : B ≤ w.heap.size) (hl : ls.length ≤ 1000) (hlen : ∀ l ∈ ls, l.length ≤ 9223372036854775807) :
    Calls Try.prog 57 #[.slice A ls.length cap] w fun e w' => Below w.heap.size w w' ∧ (Long ls → e = .returned (.tuple #[.string ⟨#[]⟩, .bool false])) ∧ (¬ Long ls → e = .returned (.tuple #[.string (txt (frames ls)), .bool true])) := by
  have HS := Lib.hid hs
  have HL := Lib.hid hlen
  clear hs hlen
  have hz : (⟨#[]⟩ : ByteArray) = txt (frames (ls.take 0)) := by simp [frames, txt]
  go_enter Try.func57, Try.ntmps57
  go_wp2_with fail
  go_loopw [4, 5] (fun u i wr => ∃ k : Nat, k ≤ ls.length ∧ i = .int .i64 (k : Int) ∧ u = .string (txt (frames (ls.take k))) ∧ (∀ l ∈ ls.take k, l.length ≤ 65536) ∧ Below w.heap.size w wr) (fun _ i _ => ls.length - (intOf i).toNat)
  case atStart => exact ⟨0, by omega, rfl, by simp [frames, txt], (fun l hl => by simp at hl), Below.refl _ _⟩
  case round =>
    clear hz
    obtain ⟨k, hk, rfl, rfl, hlow, hb⟩ := hrel
    have HLOW := Lib.hid hlow
    have HB' := Lib.hid hb
    clear hlow
    by_cases hlt : k < ls.length
    · obtain ⟨l, hl1⟩ : ∃ l, ls[k]? = some l := ⟨_, List.getElem?_eq_getElem hlt⟩
      obtain ⟨b, off, rfl, hbB, hat⟩ := (HS.out.below (hb.mono hB)).2 (by omega)
      have g0 := hat k _ (strs_at ls k l hl1)
      have hll := HL.out l (List.mem_of_getElem? hl1)
      have hkl : (k : Int) < (ls.length : Int) := by omega
      have hsz : (txt l).size = l.length := txt_size l
      by_cases hlo : 65536 < l.length
      · have HF : Hid (Long ls) := Lib.hid ⟨l, List.mem_of_getElem? hl1, hlo⟩
        have HSL := Lib.hid (rseal_long (txt l) wr (by rw [hsz]; exact hlo))
        clear hat hl1 hb
        go_wp2_with fail
        refine HSL.out.mono ?_
        rintro e w1 ⟨rfl, rfl⟩
        go_wp2_with fail
        go_ret2
        exact ⟨HB'.out, fun _ => rfl, fun h => absurd HF.out h⟩
      · have HSL := Lib.hid (rseal_any l wr (by omega))
        have hfl : (frames (ls.take k)).length ≤ 65544 * k := by
          have : ∀ (xs : List (List UInt8)), (∀ x ∈ xs, x.length ≤ 65536) → (frames xs).length ≤ 65544 * xs.length := fun xs => by
            induction xs with
            | nil => intro _; simp [frames]
            | cons x xs ih =>
              intro h
              rw [frames_cons, List.length_append, frame_length, List.length_cons]
              have h1 := h x (List.mem_cons_self ..)
              have h2 := ih fun y hy => h y (List.mem_cons_of_mem _ hy)
              omega
          have := this _ HLOW.out
          rw [List.length_take] at this
          omega
        have ha1 := txt_add (frames (ls.take k)) (frame l)
        have hz1 := add_fits (frames (ls.take k)) (frame l) (by rw [frame_length]; omega)
        rw [← frames_take ls k l hl1] at ha1
        have HLO : Hid (∀ x ∈ ls.take (k + 1), x.length ≤ 65536) := Lib.hid (by
          rw [List.take_add_one, hl1]
          intro x hx
          rcases List.mem_append.1 hx with hx | hx
          · exact HLOW.out x hx
          · have : x = l := by simpa using hx
            subst this; omega)
        clear hat hl1 hb
        obtain ⟨F1, hF1⟩ : ∃ F, F = frames (ls.take (k + 1)) := ⟨_, rfl⟩
        rw [← hF1] at ha1
        have HF1 := Lib.hid hF1
        generalize frames (ls.take k) = F0 at *
        generalize frame l = fl at *
        clear hF1 hfl
        go_wp2_with fail
        refine HSL.out.mono ?_
        rintro e w1 ⟨rfl, hb1⟩
        have HB1 := Lib.hid (HB'.out.trans (hb1.mono HB'.out.size))
        clear hb1
        go_wp2_with fail
        go_roundw
        case rel => exact ⟨k + 1, by omega, by go_num, by rw [← HF1.out], HLO.out, HB1.out⟩
        case measure => simp [intOf]; omega
    · obtain rfl : k = ls.length := by omega
      rw [List.take_length] at HLOW
      have HF : Hid (¬ Long ls) := Lib.hid (fun ⟨l, h, h'⟩ => by have := HLOW.out l h; omega)
      have HTL : Hid (ls.take ls.length = ls) := Lib.hid (List.take_length)
      clear hb
      rw [HTL.out]
      go_wp2_with fail
      go_ret2
      exact ⟨HB'.out, fun h => absurd h HF.out, fun _ => rfl⟩
end Go.Proofs.Ytlfigbgcackimaa
