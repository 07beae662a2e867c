/- Layer 12: does, of whatever kind. -/
import Derived.Test.YtcpcepbjdohdmaaStoE0
import Derived.Test.YtcpcepbjdohdmaaStoE1
import Derived.Test.YtcpcepbjdohdmaaStoE2
import Derived.Test.YtcpcepbjdohdmaaStoE3
namespace Go.Proofs.Ytcpcepbjdohdmaa
open Go.ChangeShapes Go.WideShapes Go.ChangeAt Go.RowKit Go.Cn Go.So
set_option linter.unusedVariables false
set_option linter.unusedSimpArgs false
set_option maxRecDepth 100000
theorem putD_len (d : Ds) (s : Sto) (t : Int) (l : List En) : (putD d s t l).length ≤ d.l.length + l.length := by
  unfold putD
  split
  · rw [List.length_append, List.length_map]; exact Nat.le_refl _
  · omega
theorem pruneL_len (m : Int) (l : List Dr) : (pruneL m l).length ≤ l.length := by rw [← keepL_all]; exact keepL_len m l l.length
/-- The document's store goes with the program's behind a call, too. -/
structure Go12 (W w : World) (L : List Row) (g : Nat) (s : Sto) (d : Ds) (A : Option Addr) (cap : Nat) : Prop where
  ps : Ps W w L g s (ym A)
  dv : Dv w A cap d.l
  rel : Rel d s
  late : Late s
theorem does_any {W w : World} {L : List Row} {g : Nat} {s : Sto} {d : Ds} {A : Option Addr} {cap : Nat} (k key t : Int) (Ao : Option Addr) (capo : Nat) (lo : List En) (h : Go12 W w L g s d A cap) (hlen : d.l.length ≤ 800000000) (her : Er W Ao capo lo) (h120 : lo.length ≤ 120) (hnil : Ao = none → capo = 0) :
    Calls Try.prog 11 #[ptr g, aggM A d.l.length cap d.closed d.mark, .agg #[.int .i64 k, .int .i64 key, .int .i64 t, .slice Ao lo.length capo]] w fun e w' => ∃ A' cap' d' s', e = .returned (.tuple #[aggM A' d'.l.length cap' d'.closed d'.mark, .bool true]) ∧ Go12 W w' L g s' d' A' cap' ∧ d'.l.length ≤ d.l.length + 120 := by
  obtain ⟨hp, hd, hr, hL⟩ := h
  have hf := hp.fine
  by_cases k0 : k = 0
  · subst k0
    refine (does0_any key t Ao capo lo hp hd hr hL hlen her h120 hnil).mono fun e w' h => ?_
    obtain ⟨A', cap', h1, h2, h3⟩ := h
    obtain ⟨q1, q2⟩ := hr.put hf hL t lo
    exact ⟨A', cap', _, _, h1, ⟨h2, h3, q1, q2⟩, by have := putD_len d s t lo; show (putD d s t lo).length ≤ _; omega⟩
  · by_cases k1 : k = 1
    · subst k1
      refine (does1_any key t Ao capo lo hp hd hr hL hlen her h120 hnil).mono fun e w' h => ?_
      obtain ⟨A', cap', h1, h2, h3⟩ := h
      exact ⟨A', cap', _, _, h1, ⟨h2, h3, hr, hL⟩, by omega⟩
    · by_cases k2 : k = 2
      · subst k2
        refine (does2_any key t Ao capo lo hp hd hr hL hlen her h120 hnil).mono fun e w' h => ?_
        obtain ⟨A', cap', h1, h2, h3⟩ := h
        exact ⟨A', cap', _, _, h1, ⟨h2, h3, hr, hL⟩, by omega⟩
      · by_cases k3 : k = 3
        · subst k3
          refine (does3_any key t Ao capo lo hp hd hr hL hlen her h120 hnil).mono fun e w' h => ?_
          obtain ⟨A', cap', h1, h2, h3⟩ := h
          obtain ⟨q1, q2⟩ := hr.prune hf hL t
          refine ⟨A', cap', _, _, h1, ⟨h2, h3, q1, q2⟩, ?_⟩
          unfold pruneD
          split
          · have := pruneL_len (max d.mark t) d.l
            show (pruneL (max d.mark t) d.l).length ≤ _
            omega
          · omega
        · by_cases k4 : k = 4
          · subst k4
            refine (does4_any key t Ao capo lo hp hd hr hL hlen her h120 hnil).mono fun e w' h => ?_
            obtain ⟨A', cap', h1, h2, h3⟩ := h
            obtain ⟨q1, q2⟩ := hr.close hL t
            refine ⟨A', cap', _, _, h1, ⟨h2, h3, q1, q2⟩, ?_⟩
            unfold closeD
            split
            · show d.l.length ≤ _; omega
            · omega
          · refine (does9_any k key t k0 k1 k2 k3 k4 Ao capo lo hp hd hr hL hlen her h120 hnil).mono fun e w' h => ?_
            obtain ⟨A', cap', h1, h2, h3⟩ := h
            exact ⟨A', cap', _, _, h1, ⟨h2, h3, hr, hL⟩, by omega⟩
end Go.Proofs.Ytcpcepbjdohdmaa
