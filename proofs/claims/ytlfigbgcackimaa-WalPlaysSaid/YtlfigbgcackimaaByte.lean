/- Words for bytes in memory, for any layer: what is owned, what is read, texts and bytes turned into each other; bytes.Clone. (No types of a layer.) -/
import Derived.Lib.SlBytesConst
import Derived.Lib.SliceRun
import Derived.Test.YtlfigbgcackimaaMem
namespace Go.Proofs.Ytlfigbgcackimaa
open Go.RowKit
set_option linter.unusedVariables false
set_option linter.unusedSimpArgs false
set_option maxRecDepth 100000

theorem info_byte : (Try.prog.info? 5).map (fun i => (i.zero, i.size, i.bytes)) = some (some (.int .u8 0), 1, 1) := by kernel_rfl

/-- What a step that writes bytes of the call's own leaves: nothing below B has changed, nor have whole blocks of other types. -/
structure StepB (B : Nat) (w w' : World) : Prop where
  below : Below B w w'
  keep : KeepT 5 w w'
theorem StepB.refl (B : Nat) (w : World) : StepB B w w := ⟨Below.refl _ _, KeepT.refl _ _⟩
theorem StepB.trans {B : Nat} {a b c : World} (h : StepB B a b) (k : StepB B b c) : StepB B a c := ⟨h.below.trans k.below, h.keep.trans k.keep⟩
theorem StepB.alloc {B : Nat} {a w : World} (h : StepB B a w) (hB : B ≤ w.heap.size) (o : Obj) : StepB B a (w.alloc o) := ⟨h.below.alloc hB o, h.keep.alloc o⟩

/-- The bytes bs are the call's own, in a block from B on (or there are none, and no block). -/
def OwnB (w : World) (B : Nat) (v : Value) (bs : List UInt8) : Prop := w.ownsRow B 5 1 v bs.length (Lib.byteCells bs)
theorem OwnB.none_ (w : World) (B : Nat) : OwnB w B (.slice none 0 0) [] := World.ownsRow_nil _ _ _ _
theorem OwnB.keep {w w' : World} {B B' : Nat} {v : Value} {bs : List UInt8} (h : OwnB w B v bs) (k : Below B' w w') (hB : w.heap.size ≤ B') : OwnB w' B v bs := by
  refine ⟨h.1, ?_⟩
  rcases h.2 with hn | ⟨g, cap, cur, rfl, hb, hg, r⟩
  · exact .inl hn
  · exact .inr ⟨g, cap, cur, rfl, hb, (k.block g (Nat.lt_of_lt_of_le (Array.getElem?_eq_some_iff.1 hg).1 hB)).trans hg, r⟩
theorem OwnB.less {w : World} {B B' : Nat} {v : Value} {bs : List UInt8} (h : OwnB w B v bs) (hB : B' ≤ B) : OwnB w B' v bs := by
  refine ⟨h.1, ?_⟩
  rcases h.2 with hn | ⟨g, cap, cur, rfl, hb, r⟩
  · exact .inl hn
  · exact .inr ⟨g, cap, cur, rfl, by omega, r⟩
theorem OwnB.slice {w : World} {B : Nat} {v : Value} {bs : List UInt8} (h : OwnB w B v bs) : ∃ a c, v = .slice a bs.length c ∧ bs.length ≤ c ∧ c ≤ maxLen := by
  rcases h.2 with ⟨h, h0⟩ | ⟨g, c, cur, h, _, _, h1, h2, _⟩
  · exact ⟨none, 0, by rw [h, h0], by omega, by unfold maxLen; omega⟩
  · exact ⟨_, c, h, h1, h2⟩
theorem OwnB.below {w w' : World} {B : Nat} {v : Value} {bs : List UInt8} (h : OwnB w B v bs) (hg : w.grownBy w' v.ownBlock) (hB : B ≤ w.heap.size) : Below B w w' :=
  (Below.refl B w).grown hg hB fun k hk => (h.lt k hk).1

theorem byte_one (bs : List UInt8) : ∀ u ∈ Lib.byteCells bs, u.oneCell' = true := by
  intro u hu
  obtain ⟨c, _, rfl⟩ := List.mem_map.1 hu
  rfl

theorem ret_u32 {a b : Int} (h : a = b) : Ending.returned (.int .u32 a) = .returned (.int .u32 b) := by rw [h]
theorem ret_bool {a b : Bool} (h : a = b) : Ending.returned (.bool a) = .returned (.bool b) := by rw [h]
theorem ba_eta (s : ByteArray) : (⟨s.data.toList.toArray⟩ : ByteArray) = s := by cases s; simp
/-- A slice that came in as nil has no room. -/
theorem OwnB.slice0 {w : World} {B : Nat} {v : Value} {bs : List UInt8} (h : OwnB w B v bs) : ∃ a c, v = .slice a bs.length c ∧ bs.length ≤ c ∧ c ≤ maxLen ∧ (a = none → c = 0) := by
  rcases h.2 with ⟨h, h0⟩ | ⟨g, c, cur, h, _, _, h1, h2, _⟩
  · exact ⟨none, 0, by rw [h, h0], by omega, by unfold maxLen; omega, fun _ => rfl⟩
  · exact ⟨_, c, h, h1, h2, fun h => by cases h⟩
theorem conv_bytes (bl : List UInt8) (A : Option Addr) (c B : Nat) (w : World) (h : Sees w B 1 A bl.length (Lib.byteCells bl)) :
    (convert 52 9 (.slice A bl.length c)).run Try.prog w = .ok (.string ⟨bl.toArray⟩) w := by
  rcases Nat.eq_zero_or_pos bl.length with h0 | h0
  · obtain rfl : bl = [] := List.eq_nil_of_length_eq_zero h0
    cases A with
    | none => rw [run_convert_bytes_string w 52 9 5 none _ c Try.underlying52 Try.underlying5 Try.underlying9]; rfl
    | some a => exact run_convert_bytes_back w 52 9 5 a c [] Try.underlying52 Try.underlying5 Try.underlying9 (fun j hj => by simp at hj)
  · obtain ⟨b, off, rfl, hb, hc⟩ := h.2 h0
    refine run_convert_bytes_back w 52 9 5 ⟨b, off, none⟩ c bl Try.underlying52 Try.underlying5 Try.underlying9 fun j hj => ?_
    have := hc j (.int .u8 (bl[j].toNat : Int)) (by unfold Lib.byteCells; rw [List.getElem?_map, List.getElem?_eq_getElem hj]; rfl)
    rw [show (⟨b, off, none⟩ : Addr).add j = ⟨b, off + j, none⟩ by simp [Addr.add]]
    exact this

theorem seesB_whole {w : World} {g : Nat} {t : TypeId} {bs : List UInt8} (h : Whole w g t (Lib.byteCells bs).toArray) : Sees w (g + 1) 1 (some ⟨g, 0, none⟩) bs.length (Lib.byteCells bs) :=
  ⟨by simp [Lib.byteCells], fun _ => ⟨g, 0, rfl, by omega, fun j u hu => by rw [Nat.zero_add, h.cell j]; simpa using hu⟩⟩
theorem seesB_mark (w : World) (t : TypeId) (bs : List UInt8) (fr : Nat × Nat) : Sees (w.alloc (.cells (Lib.byteCells bs).toArray t fr)) (w.heap.size + 1) 1 (some ⟨w.heap.size, 0, none⟩) bs.length (Lib.byteCells bs) :=
  ⟨by simp [Lib.byteCells], fun _ => ⟨w.heap.size, 0, rfl, by omega, fun j u hu => by rw [Nat.zero_add, World.cell?_alloc_mark]; simpa using hu⟩⟩
theorem OwnB.sees {w : World} {B : Nat} {A : Option Addr} {n c : Nat} {l : List UInt8} (h : OwnB w B (.slice A n c) l) (hn : n = l.length) : Sees w w.heap.size 1 A l.length (Lib.byteCells l) := by
  subst hn; exact Sees.own h

def txt (l : List UInt8) : ByteArray := ⟨l.toArray⟩
theorem txt_of (s : ByteArray) : txt s.data.toList = s := ba_eta s
theorem txt_list (l : List UInt8) : (txt l).data.toList = l := by simp [txt]
theorem txt_size (l : List UInt8) : (txt l).size = l.length := by simp [txt, ByteArray.size]
theorem take_cells (bs : List UInt8) (n : Nat) : (Lib.byteCells bs).take n = Lib.byteCells (bs.take n) := by unfold Lib.byteCells; rw [List.map_take]
theorem Sees.firstB {w : World} {B : Nat} {A : Option Addr} {bs : List UInt8} (h : Sees w B 1 A bs.length (Lib.byteCells bs)) {k : Nat} (hk : k ≤ bs.length) : Sees w B 1 A (bs.take k).length (Lib.byteCells (bs.take k)) := by
  have := Sees.first h hk
  rw [Nat.mul_one, take_cells] at this
  rw [List.length_take, Nat.min_eq_left hk]; exact this
theorem clone_any (B : Nat) (A : Option Addr) (cap : Nat) (bs : List UInt8) (w : World) (hs : Sees w B 1 A bs.length (Lib.byteCells bs)) (hB : B ≤ w.heap.size) (h1 : bs.length ≤ cap) (h2 : cap ≤ 9223372036854775807) (hn : A = none → cap = 0) (hlen : bs.length ≤ 140737488355328) :
    Calls Try.prog 49 #[.slice A bs.length cap] w fun e w' => ∃ v, e = .returned v ∧ OwnB w' w.heap.size v bs ∧ Below w.heap.size w w' := by
  have HS := Lib.hid hs
  clear hs
  have qT : ∀ (w : World) (a : Option Addr) (n c n' c' : Nat), (binOp .eql 52 (.slice a n c) (.slice none n' c')).run Try.prog w = .ok (.bool a.isNone) w := fun w a n c n' c' => Lib.run_eql_slice_nil w _ _ a n c n' c' Try.underlying52
  cases A with
  | none =>
    obtain rfl : cap = 0 := hn rfl
    obtain rfl : bs = [] := List.eq_nil_of_length_eq_zero (by omega)
    go_enter Try.func49, Try.ntmps49
    go_wp2_with fail
    go_ret
    exact ⟨_, rfl, OwnB.none_ _ _, Below.refl _ _⟩
  | some a =>
    go_enter Try.func49, Try.ntmps49
    go_wp2_with (at_builtin; refine wpList_appG rfl (.tmp 5) (.tmp 6) _ 5 _ 1 1 rfl info_byte Try.underlying52 rfl (by decide) w.heap.size _ 0 [] rfl (own_empty w 5 1) B (some a) bs.length cap (Lib.byteCells bs) rfl (HS.out.alloc hB _) hn (byte_one _) (by omega) (by omega) (by simp) ?_)
    intro v' w' ho hg
    have HB : Hid (Below w.heap.size w w') := Lib.hid (((Below.refl w.heap.size w).alloc (Nat.le_refl _) _).grown hg (by simp) fun k hk => by
      have : some w.heap.size = some k := hk
      injection this with this; omega)
    have HO : Hid (OwnB w' w.heap.size v' bs) := Lib.hid ho
    clear ho hg
    go_wp2_with fail
    go_ret
    exact ⟨v', rfl, HO.out, HB.out⟩

end Go.Proofs.Ytlfigbgcackimaa
