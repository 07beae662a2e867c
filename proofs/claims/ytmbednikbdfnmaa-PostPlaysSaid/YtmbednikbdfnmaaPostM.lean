/- Layer 9, plain: letters and nets, and what each call makes of them. (No memory.) -/
import Derived.Test.YtmbednikbdfnmaaRows
namespace Go.Po
/-- A letter. -/
structure Lt (α : Type) where
  id : Int
  frm : Int
  to : Int
  m : α
/-- A net: its nodes, how many letters were sent, those under way, who is cut off; and how often somebody was cut off. -/
structure Nt (α : Type) where
  nodes : Int
  sent : Nat
  under : List (Lt α)
  off : Int → Bool
  puts : Nat
variable {α : Type}
def Nt.new (nodes : Int) : Nt α := ⟨nodes, 0, [], fun _ => false, 0⟩
def Nt.has (n : Nt α) (x : Int) : Prop := 0 ≤ x ∧ x < n.nodes
def Nt.holds (n : Nt α) (i : Int) : Prop := 0 ≤ i ∧ i < n.under.length
instance (n : Nt α) (x : Int) : Decidable (n.has x) := inferInstanceAs (Decidable (0 ≤ x ∧ x < n.nodes))
instance (n : Nt α) (x : Int) : Decidable (n.holds x) := inferInstanceAs (Decidable (0 ≤ x ∧ x < n.under.length))
def Nt.put (n : Nt α) (l : Lt α) : Nt α × Int := if n.under.length = 1000 then (n, 91) else ({ n with under := n.under ++ [l] }, 0)
def Nt.drop (n : Nt α) (i : Nat) : Nt α := { n with under := n.under.take i ++ n.under.drop (i + 1) }
/-- What Send leaves, its number, its error. -/
def Nt.send (n : Nt α) (a b : Int) (m : α) : Nt α × Int × Int :=
  if ¬ (n.has a ∧ n.has b) then (n, 0, 90) else if n.under.length = 1000 then (n, 0, 91) else ({ n with under := n.under ++ [⟨n.sent + 1, a, b, m⟩], sent := n.sent + 1 }, n.sent + 1, 0)
/-- What Take leaves, the letter (none where it is refused), its error. -/
def Nt.take (n : Nt α) (i : Int) : Nt α × Option (Lt α) × Int :=
  match n.under[i.toNat]? with
  | some l => if i < 0 then (n, none, 92) else if n.off l.frm || n.off l.to then (n, none, 93) else (n.drop i.toNat, some l, 0)
  | none => (n, none, 92)
def Nt.copy (n : Nt α) (i : Int) : Nt α × Int :=
  match n.under[i.toNat]? with
  | some l => if i < 0 then (n, 92) else n.put l
  | none => (n, 92)
def Nt.lose (n : Nt α) (i : Int) : Nt α × Int := if n.holds i then (n.drop i.toNat, 0) else (n, 92)
def Nt.cut (n : Nt α) (x : Int) (off : Bool) : Nt α × Int := if n.has x then ({ n with off := fun y => if y = x then off else n.off y, puts := n.puts + 1 }, 0) else (n, 90)
def Nt.purge (n : Nt α) (x : Int) : Nt α × Int := if n.has x then ({ n with under := n.under.filter fun l => decide (l.to ≠ x) }, 0) else (n, 90)
/-- Letters that may be under way in a net of so many nodes behind so many that were sent. -/
structure Lt.fine (l : Lt α) (nodes : Int) (sent : Nat) : Prop where
  id : 1 ≤ l.id ∧ l.id ≤ (sent : Int) + 1
  frm : 0 ≤ l.frm ∧ l.frm < nodes
  to : 0 ≤ l.to ∧ l.to < nodes
structure Fine (n : Nt α) : Prop where
  nodes : 1 ≤ n.nodes ∧ n.nodes ≤ 64
  few : n.under.length ≤ 1000
  good : ∀ l ∈ n.under, l.fine n.nodes n.sent
theorem Fine.new {nodes : Int} (h : 1 ≤ nodes ∧ nodes ≤ 64) : Fine (Nt.new (α := α) nodes) := ⟨h, by simp [Nt.new], fun l hl => by simp [Nt.new] at hl⟩
theorem drop_len (n : Nt α) (i : Nat) (h : i < n.under.length) : (n.drop i).under.length + 1 = n.under.length := by simp [Nt.drop]; omega
theorem Fine.sub {n : Nt α} (h : Fine n) {l : List (Lt α)} (hl : ∀ x ∈ l, x ∈ n.under) (hn : l.length ≤ 1000) : Fine { n with under := l } := ⟨h.nodes, hn, fun x hx => h.good x (hl x hx)⟩
theorem Fine.drop {n : Nt α} (h : Fine n) (i : Nat) : Fine (n.drop i) := h.sub (fun x hx => by
  rcases List.mem_append.1 hx with hx | hx
  · exact List.mem_of_mem_take hx
  · exact List.mem_of_mem_drop hx) (by have := h.few; simp; omega)
theorem Fine.put {n : Nt α} (h : Fine n) {l : Lt α} (hl : l.fine n.nodes n.sent) : Fine (n.put l).1 := by
  unfold Nt.put
  split
  · exact h
  · rename_i hne
    refine ⟨h.nodes, ?_, fun x hx => ?_⟩
    · have := h.few
      simp; omega
    · rcases List.mem_append.1 hx with hx | hx
      · exact h.good x hx
      · rw [List.mem_singleton.1 hx]; exact hl
theorem Fine.send {n : Nt α} (h : Fine n) (a b : Int) (m : α) : Fine (n.send a b m).1 := by
  unfold Nt.send
  split
  · exact h
  · split
    · exact h
    · rename_i h1 h2
      have h1 : n.has a ∧ n.has b := Classical.not_not.1 h1
      obtain ⟨⟨a1, a2⟩, ⟨b1, b2⟩⟩ := h1
      refine ⟨h.nodes, ?_, fun x hx => ?_⟩
      · have := h.few
        simp; omega
      · rcases List.mem_append.1 hx with hx | hx
        · have g := h.good x hx
          refine ⟨⟨g.id.1, ?_⟩, g.frm, g.to⟩
          have := g.id.2
          simp; omega
        · rw [List.mem_singleton.1 hx]
          exact ⟨⟨by simp; omega, by simp; omega⟩, ⟨a1, a2⟩, ⟨b1, b2⟩⟩
theorem Fine.copy {n : Nt α} (h : Fine n) (i : Int) : Fine (n.copy i).1 := by
  unfold Nt.copy
  split
  · rename_i l hl
    split
    · exact h
    · exact h.put (h.good l (List.mem_of_getElem? hl))
  · exact h
theorem Fine.lose {n : Nt α} (h : Fine n) (i : Int) : Fine (n.lose i).1 := by
  unfold Nt.lose
  split
  · exact h.drop _
  · exact h
theorem Fine.take {n : Nt α} (h : Fine n) (i : Int) : Fine (n.take i).1 := by
  unfold Nt.take
  split
  · split
    · exact h
    · split
      · exact h
      · exact h.drop _
  · exact h
theorem Fine.cut {n : Nt α} (h : Fine n) (x : Int) (off : Bool) : Fine (n.cut x off).1 := by
  unfold Nt.cut
  split
  · exact ⟨h.nodes, h.few, h.good⟩
  · exact h
theorem Fine.purge {n : Nt α} (h : Fine n) (x : Int) : Fine (n.purge x).1 := by
  unfold Nt.purge
  split
  · refine h.sub (fun y hy => (List.mem_filter.1 hy).1) ?_
    have := h.few
    have := List.length_filter_le (fun l : Lt α => decide (l.to ≠ x)) n.under
    omega
  · exact h
/-- An index of a letter. -/
theorem Nt.number (n : Nt α) (i : Int) : (¬ n.holds i ∧ (i < 0 ∨ n.under[i.toNat]? = none)) ∨ ∃ (k : Nat) (l : Lt α), i = k ∧ k < n.under.length ∧ n.under[k]? = some l ∧ n.holds i := by
  by_cases h : n.holds i
  · obtain ⟨h1, h2⟩ := h
    refine .inr ⟨i.toNat, n.under[i.toNat]'(by omega), by omega, by omega, by simp, h1, h2⟩
  · refine .inl ⟨h, ?_⟩
    unfold Nt.holds at h
    by_cases h0 : i < 0
    · exact .inl h0
    · refine .inr (List.getElem?_eq_none ?_)
      omega
theorem send_sent (n : Nt α) (a b : Int) (m : α) : (n.send a b m).1.sent ≤ n.sent + 1 := by
  unfold Nt.send
  split
  · exact Nat.le_succ _
  · split
    · exact Nat.le_succ _
    · exact Nat.le_refl _
end Go.Po
