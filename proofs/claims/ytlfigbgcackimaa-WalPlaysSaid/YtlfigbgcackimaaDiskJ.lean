/- The document's disk: its Act (written by gract.py). -/
import Derived.Test.YtlfigbgcackimaaDiskJ0
import Derived.Test.YtlfigbgcackimaaDiskJ1
import Derived.Test.YtlfigbgcackimaaDiskJ2
namespace Go.Proofs.Ytlfigbgcackimaa
open Go.RowKit Go.Dk
set_option linter.unusedVariables false
set_option linter.unusedSimpArgs false
set_option maxRecDepth 100000

theorem ract_any (r : Rf) (o : Rok r) (G : Nat → Prop) (AL : Option Addr) (cL : Nat) (AK : Option Addr) (cK : Nat) (kind : Int) (hk : W64 kind) (log : Int) (hlog : W64 log) (b : List UInt8) (hb : b.length ≤ 4194304) (w : World) (hm : IsM G w AL cL AK cK r) :
    Calls Try.prog 40 #[vM AL cL AK cK r, .int .i64 kind, .int .i64 log, .string (txt b)] w fun e w' => ∃ A1 c1 A2 c2, e = .returned (.tuple #[vM A1 c1 A2 c2 (r.act kind log b).1, .int .i64 (r.act kind log b).2]) ∧ Below w.heap.size w w' ∧ ∀ G, IsM G w AL cL AK cK r → IsM (fun b => G b ∨ w.heap.size ≤ b) w' A1 c1 A2 c2 (r.act kind log b).1 := by
  by_cases h0 : kind = 0
  · exact ract_k0 r o G AL cL AK cK kind hk h0 log hlog b hb w hm
  · by_cases h1 : kind = 1
    · exact ract_k1 r o G AL cL AK cK kind hk h1 log hlog b hb w hm
    · exact ract_k2 r o G AL cL AK cK kind hk ⟨h0, h1⟩ log hlog b hb w hm
end Go.Proofs.Ytlfigbgcackimaa
