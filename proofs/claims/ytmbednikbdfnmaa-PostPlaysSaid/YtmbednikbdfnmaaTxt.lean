/- Texts as lists of bytes; a bool that is returned. (No types of a layer; XByte holds the same words.) -/
import Derived.Test.YtmbednikbdfnmaaMem
namespace Go.Proofs.Ytmbednikbdfnmaa
set_option linter.unusedVariables false
theorem ret_bool {a b : Bool} (h : a = b) : Ending.returned (.bool a) = .returned (.bool b) := by rw [h]
def txt (l : List UInt8) : ByteArray := ⟨l.toArray⟩
theorem txt_of (s : ByteArray) : txt s.data.toList = s := by cases s; simp [txt]
theorem txt_list (l : List UInt8) : (txt l).data.toList = l := by simp [txt]
theorem txt_size (l : List UInt8) : (txt l).size = l.length := by simp [txt, ByteArray.size]
theorem txt_eq {a b : List UInt8} : txt a = txt b ↔ a = b := ⟨fun h => by rw [← txt_list a, ← txt_list b, h], fun h => by rw [h]⟩
end Go.Proofs.Ytmbednikbdfnmaa
