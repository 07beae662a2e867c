/- What has been scanned so far (plain), rows of texts, and the contract of the document's Scan. -/
import Derived.Test.YtlfigbgcackimaaFrQ
namespace Go.Proofs.Ytlfigbgcackimaa
open Go.RowKit Go.Fm
set_option linter.unusedVariables false
set_option linter.unusedSimpArgs false
set_option maxRecDepth 100000

/-- The frames of ls are what bytes begin with. -/
structure Parsed (bs : List UInt8) (ls : List (List UInt8)) (pos : Nat) : Prop where
  all : bs = frames ls ++ bs.drop pos
  len : pos = (frames ls).length
  low : ∀ l ∈ ls, l.length ≤ 65536
theorem Parsed.le {bs : List UInt8} {ls : List (List UInt8)} {pos : Nat} (h : Parsed bs ls pos) : pos ≤ bs.length := by
  have := congrArg List.length h.all
  rw [List.length_append] at this
  have := h.len
  omega
theorem Parsed.none_ (bs : List UInt8) : Parsed bs [] 0 := ⟨rfl, rfl, fun l h => by simp at h⟩
theorem frames_many (ls : List (List UInt8)) : ls.length * 8 ≤ (frames ls).length := by
  induction ls with
  | nil => simp [frames]
  | cons l m ih => rw [frames_cons, List.length_append, frame_length, List.length_cons]; omega
theorem Parsed.more {bs : List UInt8} {ls : List (List UInt8)} {pos : Nat} (h : Parsed bs ls pos) (h0 : (opened (bs.drop pos)).2.2 = 0) :
    Parsed bs (ls ++ [(opened (bs.drop pos)).1]) (pos + (opened (bs.drop pos)).2.1) := by
  have e : opened (bs.drop pos) = ((opened (bs.drop pos)).1, (opened (bs.drop pos)).2.1, 0) := by rw [← h0]
  obtain ⟨h1, h2, h3⟩ := opened_only e
  have hf : frames (ls ++ [(opened (bs.drop pos)).1]) = frames ls ++ frame (opened (bs.drop pos)).1 := by rw [frames_append]; simp [frames]
  refine ⟨?_, ?_, ?_⟩
  · rw [hf, List.append_assoc, ← List.drop_drop, ← h3]; exact h.all
  · rw [hf, List.length_append, frame_length, ← h.len, h2]
  · intro l hl
    rcases List.mem_append.1 hl with hl | hl
    · exact h.low l hl
    · rw [List.mem_singleton.1 hl]; exact h1
theorem Parsed.done {bs : List UInt8} {ls : List (List UInt8)} {pos : Nat} (h : Parsed bs ls pos) (h0 : (opened (bs.drop pos)).2.2 ≠ 0) : scan bs = (ls, pos) := by
  rw [h.all, scan_frames _ _ h.low, scan_err h0, List.append_nil, Nat.add_zero, ← h.len]

theorem scan_parsed (n : Nat) : ∀ bs : List UInt8, bs.length ≤ n → Parsed bs (scan bs).1 (scan bs).2 := by
  induction n with
  | zero =>
    intro bs h
    have e : (opened bs).2.2 ≠ 0 := by unfold opened; rw [if_pos (by omega)]; simp
    rw [scan_err e]; exact Parsed.none_ bs
  | succ n ih =>
    intro bs h
    by_cases e : (opened bs).2.2 = 0
    · have hp := opened_pos e
      have hb : opened bs = ((opened bs).1, (opened bs).2.1, 0) := by rw [← e]
      obtain ⟨h1, h2, h3⟩ := opened_only hb
      have hi := ih (bs.drop (opened bs).2.1) (by rw [List.length_drop]; omega)
      rw [scan_ok e]
      refine ⟨?_, ?_, ?_⟩
      · show bs = frames (_ :: _) ++ bs.drop (_ + _)
        rw [frames_cons, List.append_assoc, ← List.drop_drop, ← hi.all]; exact h3
      · show _ + _ = (frames (_ :: _)).length
        rw [frames_cons, List.length_append, frame_length, ← hi.len, ← h2]
      · intro l hl
        rcases List.mem_cons.1 hl with rfl | hl
        · exact h1
        · exact hi.low l hl
    · rw [scan_err e]; exact Parsed.none_ bs
theorem scan_sizes (bs : List UInt8) : (frames (scan bs).1).length ≤ bs.length ∧ (scan bs).1.length * 8 ≤ bs.length := by
  have h := scan_parsed bs.length bs (Nat.le_refl _)
  have h1 := h.le
  have h2 := h.len
  have h3 := frames_many (scan bs).1
  omega

/-- Texts as cells. -/
def strs (ls : List (List UInt8)) : List Value := ls.map fun l => Value.string (txt l)
theorem strs_length (ls : List (List UInt8)) : (strs ls).length = ls.length := by simp [strs]
theorem strs_one (ls : List (List UInt8)) : ∀ u ∈ strs ls, u.oneCell' = true := by
  intro u hu
  obtain ⟨c, _, rfl⟩ := List.mem_map.1 hu
  rfl
theorem strs_append (l m : List (List UInt8)) : strs (l ++ m) = strs l ++ strs m := by simp [strs]
theorem strs_at (ls : List (List UInt8)) (k : Nat) (l : List UInt8) (h : ls[k]? = some l) : (strs ls)[k]? = some (.string (txt l)) := by
  unfold strs; rw [List.getElem?_map, h]; rfl
/-- The texts ls are the call's own. -/
def OwnS (w : World) (B : Nat) (v : Value) (ls : List (List UInt8)) : Prop := w.ownsRow B 9 1 v ls.length (strs ls)
theorem OwnS.keep {w w' : World} {B B' : Nat} {v : Value} {ls : List (List UInt8)} (h : OwnS w B v ls) (k : Below B' w w') (hB : w.heap.size ≤ B') : OwnS w' B v ls := own_keep h k hB
theorem info_str : (Try.prog.info? 9).map (fun i => (i.zero, i.size, i.bytes)) = some (some (.string ⟨#[]⟩), 1, 16) := by kernel_rfl

/-- append(v, s): one text more. -/
theorem wpList_appS {ops : Array Oper} {rest : List Oper} {o : Oper} {a : Act} {Q : Exit → Act → World → Prop} {w : World} (hgd : o.guard = none) (s x : Operand)
    (ho : o.op = .call { callee := .builtin .append, args := #[s, x], argTypes := #[35, 35] })
    (B : Nat) (v : Value) (ls : List (List UInt8)) (hs : a.eval s = v) (hown : OwnS w B v ls) (l : List UInt8) (g : Nat) (hx : a.eval x = .slice (some ⟨g, 0, none⟩) 1 1) (hgs : g = w.heap.size)
    (hB : B ≤ w.heap.size) (hlen : ls.length + 1 ≤ 1000000000)
    (h : ∀ v' w', OwnS w' B v' (ls ++ [l]) → Below B w w' → wpList Try.prog ops Q rest (a.put o.dst v') w') :
    wpList Try.prog ops Q (o :: rest) a (w.alloc (.cells #[.string (txt l)] 9)) := by
  subst hgs
  have hse : Sees (w.alloc (.cells #[.string (txt l)] 9)) (w.heap.size + 1) 1 (some ⟨w.heap.size, 0, none⟩) 1 (strs [l]) := by
    refine ⟨rfl, fun _ => ⟨w.heap.size, 0, rfl, by omega, fun j u hu => ?_⟩⟩
    rw [Nat.zero_add, (Whole.fresh w 9 _).cell j]; simpa [strs] using hu
  refine wpList_appG hgd s x 35 9 _ 1 16 ho info_str Try.underlying35 rfl (by decide) B v ls.length (strs ls) hs (World.ownsRow.alloc hown _) _ _ 1 1 (strs [l]) hx hse (fun h => by cases h) (strs_one _) (by omega) (by omega) (by simp; omega) ?_
  intro v' w' ho' hg
  refine h v' w' ?_ (((Below.refl B w).alloc hB _).grown hg (by simp; omega) fun k hk => (hown.lt k hk).1)
  unfold OwnS
  rw [strs_append, List.length_append]; exact ho'

/-- What the document's Scan tells. -/
def RScans (w : World) (bs : List UInt8) (e : Ending) (w' : World) : Prop :=
  ∃ v, e = .returned (.tuple #[v, .int .i64 ((scan bs).2 : Nat)]) ∧ OwnS w' w.heap.size v (scan bs).1 ∧ Below w.heap.size w w'

theorem rscan_any (bs : List UInt8) (w : World) (hl : bs.length ≤ 4194304) :
    Calls Try.prog 25 #[.string (txt bs)] w (RScans w bs) := by
  have hsz := txt_size bs
  go_enter Try.func25, Try.ntmps25
  go_wp2_with fail
  go_loopw [4, 5] (fun v i wr => ∃ ls pos, i = .int .i64 ((pos : Nat) : Int) ∧ OwnS wr w.heap.size v ls ∧ Below w.heap.size w wr ∧ Parsed bs ls pos) (fun _ i _ => bs.length - (intOf i).toNat)
  case atStart => exact ⟨[], 0, rfl, own_empty w 9 1, (Below.refl w.heap.size w).alloc (Nat.le_refl _) _, Parsed.none_ bs⟩
  case round =>
    obtain ⟨ls, pos, rfl, hown, hbel, hp⟩ := hrel
    have hle := hp.le
    have hmany := frames_many ls
    rw [← hp.len] at hmany
    have HO := Lib.hid hown
    have HB := Lib.hid hbel
    have HP := Lib.hid hp
    have hcf := cut_txt_from bs pos hle (pos : Int) rfl
    have HOP := Lib.hid (fun w => ropen_any (bs.drop pos) w (by rw [List.length_drop]; omega))
    have hle2 : (pos : Int) ≤ (bs.length : Int) := by omega
    clear hown hbel hp
    by_cases h0 : (opened (bs.drop pos)).2.2 = 0
    · have hpos := opened_pos h0
      have HM := Lib.hid (HP.out.more h0)
      unfold ROpens at HOP
      rw [h0] at HOP
      have hll : (opened (bs.drop pos)).2.1 ≤ bs.length - pos := by rw [List.length_drop] at hpos; exact hpos.2
      have hl8 := hpos.1
      clear h0 hpos
      generalize (opened (bs.drop pos)).2.1 = N at *
      generalize (opened (bs.drop pos)).1 = L at *
      generalize bs.drop pos = D at *
      go_wp2_with fail
      refine (HOP.out _).mono ?_
      rintro e w1 ⟨rfl, hb1⟩
      have HZ := HB.out.size
      have HB1 := Lib.hid (HB.out.trans (hb1.mono HZ))
      have HZ1 := HB1.out.size
      have HO1 := Lib.hid (HO.out.keep hb1 (Nat.le_refl _))
      clear hb1
      go_wp2_with (at_builtin; refine wpList_appS rfl (.tmp 24) (.tmp 26) rfl w.heap.size _ ls rfl HO1.out L _ rfl rfl HZ1 (by omega) ?_)
      intro v' w' ho' hb'
      have HO2 := Lib.hid ho'
      have HB2 := Lib.hid (HB1.out.trans hb')
      clear ho' hb'
      go_wp2_with fail
      go_roundw
      case rel => exact ⟨ls ++ [L], pos + N, by go_num, HO2.out, HB2.out, HM.out⟩
      case measure => simp [intOf]; omega
    · have HD := Lib.hid (HP.out.done h0)
      have hne : ((opened (bs.drop pos)).2.2 != 0) = true := by simpa using h0
      clear h0
      unfold ROpens at HOP
      generalize (opened (bs.drop pos)).2.2 = E at *
      generalize (opened (bs.drop pos)).2.1 = N at *
      generalize (opened (bs.drop pos)).1 = L at *
      generalize bs.drop pos = D at *
      go_wp2_with fail
      refine (HOP.out _).mono ?_
      rintro e w1 ⟨rfl, hb1⟩
      have HZ := HB.out.size
      have HB1 := Lib.hid (HB.out.trans (hb1.mono HZ))
      have HO1 := Lib.hid (HO.out.keep hb1 (Nat.le_refl _))
      clear hb1
      go_wp2_with fail
      go_ret2
      refine ⟨_, by rw [HD.out]; rfl, by rw [HD.out]; exact HO1.out, HB1.out⟩
end Go.Proofs.Ytlfigbgcackimaa
