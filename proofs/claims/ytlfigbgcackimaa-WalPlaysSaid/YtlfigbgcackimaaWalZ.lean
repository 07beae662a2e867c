/- Where a law of layer 8 stands; the program's calls there; lists that grow beside a disk; the wal's words, plain. -/
import Derived.Test.YtlfigbgcackimaaWalO
namespace Go.Wl
open Go.Dk Go.Fm
set_option linter.unusedVariables false
set_option linter.unusedSimpArgs false
/-- The program's wal of a log that has these loads. -/
def Wk.wv (k : Wk) (log : Int) : Wv := ⟨k.loads.length, k.sure, log, false⟩
/-- A disk with power, a wal's log on it. -/
structure Runs (d : D) (log : Int) (k : Wk) : Prop where
  ok : Ok d
  fits : Fits d log k
  down : d.down = false
theorem Runs.check {d : D} {log : Int} {k : Wk} (h : Runs d log k) : d.check log = 0 := by
  unfold D.check
  rw [if_pos h.fits.is, if_neg (by simp [h.down])]
theorem done_len (d : D) (i : Nat) (c : Lg) : (d.done i c).logs.length = d.logs.length := by simp [D.done]
/-- An act that is neither refused nor meets the loss of power. -/
theorem act_ok {d : D} {log : Int} {size : Nat} {c : Lg} (hc : d.check log = 0) (hs : size ≤ 4194304) (ha : d.ahead ≠ 1) : d.act log size c = (d.done log.toNat c, 0) := by
  unfold D.act
  rw [if_neg (by simp [hc]), if_neg (by omega), if_neg ha]
/-- An act in which the power goes. -/
theorem act_lost {d : D} {log : Int} {size : Nat} {c : Lg} (hc : d.check log = 0) (hs : size ≤ 4194304) (ha : d.ahead = 1) : d.act log size c = (d.lose d.keep, 71) := by
  unfold D.act
  rw [if_neg (by simp [hc]), if_neg (by omega), if_pos ha]
/-- What an act that is no loss leaves of the rest. -/
structure Past (d d' : D) (n : Nat) : Prop where
  acts : d'.acts = d.acts + n
  ahead : d'.ahead = d.ahead - n
  keep : d'.keep = d.keep
  len : d'.logs.length = d.logs.length
theorem Past.refl (d : D) : Past d d 0 := ⟨rfl, rfl, rfl, rfl⟩
theorem Past.done (d : D) (i : Nat) (c : Lg) : Past d (d.done i c) 1 := ⟨rfl, rfl, rfl, done_len d i c⟩
theorem Past.trans {a b c : D} {n m : Nat} (h : Past a b n) (k : Past b c m) : Past a c (n + m) :=
  ⟨by rw [k.acts, h.acts]; omega, by rw [k.ahead, h.ahead]; omega, k.keep.trans h.keep, k.len.trans h.len⟩
theorem Runs.append {d : D} {log : Int} {k : Wk} (h : Runs d log k) {b : List UInt8} (hb : b.length ≤ 65536) (hs : (frames k.loads).length + (8 + b.length) ≤ 4194304) (ha : d.ahead ≠ 1) :
    ∃ d', (k.wv log).append d b = (d', (⟨k.loads ++ [b], k.sure⟩ : Wk).wv log, 0) ∧ Runs d' log ⟨k.loads ++ [b], k.sure⟩ ∧ Past d d' 1 ∧ ∀ j, j ≠ log → d'.of j = d.of j := by
  have e : d.append log (frame b) = (d.done log.toNat ⟨(d.of log).all ++ frame b, (d.of log).sure⟩, 0) := act_ok h.check (by rw [h.fits.all, frame_length]; exact hs) ha
  refine ⟨_, ?_, ⟨?_, h.fits.append hb (by rw [e]), ?_⟩, ?_, ?_⟩
  · unfold Wv.append
    rw [if_neg (by simp [Wk.wv]), if_neg (by omega)]
    show ((d.append log (frame b)).1, (if (d.append log (frame b)).2 = 0 then _ else _), (d.append log (frame b)).2) = _
    rw [e]
    simp [Wk.wv]
  · exact h.ok.append log (frame b)
  · rw [e]; exact h.down
  · rw [e]; exact .done ..
  · intro j hj
    rw [e]
    unfold D.of D.done
    simp only [List.length_set]
    split
    · rename_i hi
      have := h.fits.is
      simp only [List.getD_eq_getElem?_getD]
      rw [List.getElem?_set_ne (by omega)]
    · rfl
theorem Runs.sync {d : D} {log : Int} {k : Wk} (h : Runs d log k) (ha : d.ahead ≠ 1) :
    ∃ d', (k.wv log).sync d = (d', (⟨k.loads, k.loads.length⟩ : Wk).wv log, 0) ∧ Runs d' log ⟨k.loads, k.loads.length⟩ ∧ Past d d' 1 ∧ ∀ j, j ≠ log → d'.of j = d.of j := by
  have e : d.sync log = (d.done log.toNat ⟨(d.of log).all, (d.of log).all.length⟩, 0) := act_ok h.check (okay_of h.ok log).2 ha
  refine ⟨_, ?_, ⟨?_, h.fits.sync (by rw [e]), ?_⟩, ?_, ?_⟩
  · unfold Wv.sync
    rw [if_neg (by simp [Wk.wv])]
    show ((d.sync log).1, (if (d.sync log).2 = 0 then _ else _), (d.sync log).2) = _
    rw [e]
    simp [Wk.wv]
  · exact h.ok.sync log
  · rw [e]; exact h.down
  · rw [e]; exact .done ..
  · intro j hj
    rw [e]
    unfold D.of D.done
    simp only [List.length_set]
    split
    · rename_i hi
      have := h.fits.is
      simp only [List.getD_eq_getElem?_getD]
      rw [List.getElem?_set_ne (by omega)]
    · rfl
theorem Runs.fresh {d : D} {log : Int} {k : Wk} (h : Runs d log k) {ls : List (List UInt8)} (hl : Low ls) (hs : (frames ls).length ≤ 4194304) (ha : d.ahead ≠ 1) :
    ∃ d', (k.wv log).fresh d ls = (d', (⟨ls, ls.length⟩ : Wk).wv log, 0) ∧ Runs d' log ⟨ls, ls.length⟩ ∧ Past d d' 1 := by
  have e : d.swap log (frames ls) = (d.done log.toNat ⟨frames ls, (frames ls).length⟩, 0) := act_ok h.check hs ha
  have hno : ¬ ∃ l ∈ ls, 65536 < l.length := fun ⟨l, h1, h2⟩ => by have := hl l h1; omega
  refine ⟨_, ?_, ⟨?_, fresh_fits hl (by rw [e]), ?_⟩, ?_⟩
  · unfold Wv.fresh
    rw [if_neg (by simp [Wk.wv]), if_neg hno]
    show ((d.swap log (frames ls)).1, (if (d.swap log (frames ls)).2 = 0 then _ else _), (d.swap log (frames ls)).2) = _
    rw [e]
    simp [Wk.wv]
  · exact h.ok.swap log _
  · rw [e]; exact h.down
  · rw [e]; exact .done ..
/-- The power goes in an append, or a fresh. -/
theorem Runs.append_lost {d : D} {log : Int} {k : Wk} (h : Runs d log k) {b : List UInt8} (hb : b.length ≤ 65536) (hs : (frames k.loads).length + (8 + b.length) ≤ 4194304) (ha : d.ahead = 1) :
    (k.wv log).append d b = (d.lose d.keep, { k.wv log with dead := true }, 71) := by
  have e : d.append log (frame b) = (d.lose d.keep, 71) := act_lost h.check (by rw [h.fits.all, frame_length]; exact hs) ha
  unfold Wv.append
  rw [if_neg (by simp [Wk.wv]), if_neg (by omega)]
  have e' : d.append (k.wv log).log (frame b) = (d.lose d.keep, 71) := e
  rw [e']
  simp [Wv.met]
theorem Runs.fresh_lost {d : D} {log : Int} {k : Wk} (h : Runs d log k) {ls : List (List UInt8)} (hl : Low ls) (hs : (frames ls).length ≤ 4194304) (ha : d.ahead = 1) :
    (k.wv log).fresh d ls = (d.lose d.keep, { k.wv log with dead := true }, 71) := by
  have e : d.swap log (frames ls) = (d.lose d.keep, 71) := act_lost h.check hs ha
  have hno : ¬ ∃ l ∈ ls, 65536 < l.length := fun ⟨l, h1, h2⟩ => by have := hl l h1; omega
  unfold Wv.fresh
  rw [if_neg (by simp [Wk.wv]), if_neg hno]
  have e' : d.swap (k.wv log).log (frames ls) = (d.lose d.keep, 71) := e
  rw [e']
  simp [Wv.met]
/-- What is opened of a disk that runs. -/
theorem opened_runs {d : D} (o : Ok d) {log : Int} (h0 : (opens d log).2 = 0) : Runs (opens d log).1 log ⟨(scan (d.of log).all).1, (scan (d.of log).all).1.length⟩ := by
  refine ⟨?_, opens_fits o h0, ?_⟩
  · unfold opens
    split
    · exact o
    · split
      · exact o.swap _ _
      · split
        · exact o.sync _
        · exact o
  · unfold opens at h0 ⊢
    split at h0
    · rename_i h; exact absurd h0 h
    · rename_i hc
      rw [if_neg hc]
      have hc0 : d.check log = 0 := by simpa using hc
      have hd : d.down = false := (in_of hc0).2
      split at h0
      · rename_i h
        rw [if_pos h]
        obtain ⟨e, -⟩ := act_done h0
        unfold D.swap
        rw [e]; exact hd
      · rename_i h
        rw [if_neg h]
        split at h0
        · rename_i h2
          rw [if_pos h2]
          obtain ⟨e, -⟩ := act_done h0
          unfold D.sync
          rw [e]; exact hd
        · rename_i h2
          rw [if_neg h2]; exact hd
theorem opens_acts (d : D) (log : Int) : (opens d log).1.acts ≤ d.acts + 1 := by
  have hact : ∀ size c, (d.act log size c).1.acts ≤ d.acts + 1 := fun size c => by
    unfold D.act; split
    · exact Nat.le_succ _
    · split
      · exact Nat.le_succ _
      · split
        · exact Nat.le_succ _
        · exact Nat.le_refl _
  unfold opens; split
  · exact Nat.le_succ _
  · split
    · exact hact _ _
    · split
      · exact hact _ _
      · exact Nat.le_succ _
theorem new_runs (n : Nat) (h1 : 1 ≤ n) (h2 : n ≤ 16) (log : Int) (hl : 0 ≤ log ∧ log < n) : Runs (D.new n) log ⟨[], 0⟩ ∧ opens (D.new n) log = (D.new n, 0) ∧ (scan ((D.new n).of log).all).1 = [] := by
  have hof : (D.new n).of log = ⟨[], 0⟩ := by
    rcases (D.new n).number log with h | ⟨i, c, rfl, h⟩
    · exact D.of_out h
    · rw [D.of_in h]
      simp only [D.new] at h
      rw [List.getElem?_replicate] at h
      split at h
      · injection h with h; exact h.symm
      · cases h
  have hr : Runs (D.new n) log ⟨[], 0⟩ := ⟨Ok.new h1 h2, ⟨by simpa [D.new] using hl, by rw [hof]; simp [frames], by rw [hof]; simp [frames], (fun l hl => by cases hl), Nat.le_refl _⟩, rfl⟩
  obtain ⟨e1, e2⟩ := opens_again hr.fits rfl rfl
  exact ⟨hr, e1, e2⟩
end Go.Wl
namespace Go.Proofs.Ytlfigbgcackimaa
open Go.RowKit Go.Fm Go.Dk Go.Wl
set_option linter.unusedVariables false
set_option linter.unusedSimpArgs false
set_option maxRecDepth 100000

abbrev wrow (p g : Nat) (v : Wv) : Row := (p, 89, wcells g v)
section
variable {W w w' : World} {L R : List Row} {p g : Nat} {d d' : D} {v v' : Wv}
theorem Lw.went (h : Lw W w (wrow p g v :: L) g d) (hp : W.heap.size ≤ p) (hd : ∀ r ∈ L, r.1 ≠ p) {F : Nat → Prop} (h1 : ∀ b, F b → W.heap.size ≤ b) (h2 : ∀ r ∈ (wrow p g v :: L), ¬ F r.1) (hm : Went F w w' p g v' d') : Lw W w' (wrow p g v' :: L) g d' := by
  obtain ⟨ho, F', hF, hx⟩ := hm
  have hk : ∀ r ∈ L, Whole w' r.1 r.2.1 r.2.2 := fun r hr => ho.whole (h.st.knows r (List.mem_cons_of_mem _ hr)) fun hf => by
    rcases hf with hf | hf
    · exact h2 r (List.mem_cons_of_mem _ hr) hf
    · exact hd r hr hf
  refine ⟨⟨h.st.below.trans (ho.below h.st.below.size fun b hb => ?_), fun r hr => ?_⟩, F', hx.dsk, fun b hb => ?_, fun r hr hf => ?_⟩
  · rcases hb with hb | hb
    · exact h1 b hb
    · rw [hb]; exact hp
  · rcases List.mem_cons.1 hr with rfl | hr
    · exact hx.face
    · exact hk r hr
  · rcases hF b hb with hb | hb
    · exact h1 b hb
    · exact Nat.le_trans h.st.below.size hb
  · rcases List.mem_cons.1 hr with rfl | hr
    · exact hx.out hf
    · rcases hF r.1 hf with hb | hb
      · exact h2 r (List.mem_cons_of_mem _ hr) hb
      · have := (h.st.knows r (List.mem_cons_of_mem _ hr)).lt
        omega
theorem Lw.wx (h : Lw W w (wrow p g v :: L) g d) : ∃ F, Wx w p g v d F ∧ (∀ b, F b → W.heap.size ≤ b) ∧ ∀ r ∈ (wrow p g v :: L), ¬ F r.1 := by
  obtain ⟨F, x, h1, h2⟩ := h.dsk
  exact ⟨F, ⟨h.st.knows _ (List.mem_cons_self ..), x, h2 _ (List.mem_cons_self ..)⟩, h1, h2⟩
theorem Lw.wappend (h : Lw W w (wrow p g v :: L) g d) (hp : W.heap.size ≤ p) (hd : ∀ r ∈ L, r.1 ≠ p) (hlog : W64 v.log) {A : Option Addr} {cap : Nat} {bs : List UInt8} (ha : d.acts + 1 ≤ 9223372036854775807) (hall : v.all + 1 ≤ 9223372036854775807) (hin : InB w A cap bs) :
    Calls Try.prog 29 #[ptr p, .slice A bs.length cap] w fun e w' => e = .returned (.int .i64 (v.append d bs).2.2) ∧ Lw W w' (wrow p g (v.append d bs).2.1 :: L) g (v.append d bs).1 := by
  obtain ⟨F, x, h1, h2⟩ := h.wx
  exact (wappend_any p g v d F hlog A cap bs ha hall w x hin).mono fun e w' ⟨he, hm⟩ => ⟨he, h.went hp hd h1 h2 hm⟩
theorem Lw.wsync (h : Lw W w (wrow p g v :: L) g d) (hp : W.heap.size ≤ p) (hd : ∀ r ∈ L, r.1 ≠ p) (hlog : W64 v.log) (ha : d.acts + 1 ≤ 9223372036854775807) :
    Calls Try.prog 30 #[ptr p] w fun e w' => e = .returned (.int .i64 (v.sync d).2.2) ∧ Lw W w' (wrow p g (v.sync d).2.1 :: L) g (v.sync d).1 := by
  obtain ⟨F, x, h1, h2⟩ := h.wx
  exact (wsync_any p g v d F hlog ha w x).mono fun e w' ⟨he, hm⟩ => ⟨he, h.went hp hd h1 h2 hm⟩
theorem Lw.wfresh (h : Lw W w (wrow p g v :: L) g d) (hp : W.heap.size ≤ p) (hd : ∀ r ∈ L, r.1 ≠ p) (hlog : W64 v.log) (ha : d.acts + 1 ≤ 9223372036854775807) {B : Nat} {A : Option Addr} {cap : Nat} {ls : List (List UInt8)}
    (hs : ShowsL w B A ls) (hB : B ≤ w.heap.size) (hl : ls.length ≤ 9223372036854775807) (hn : ∀ (b off k : Nat) l a c, A = some ⟨b, off, none⟩ → ls[k]? = some l → w.cell? ⟨b, off + k, none⟩ = some (.slice a l.length c) → a = none → c = 0) :
    Calls Try.prog 33 #[ptr p, .slice A ls.length cap] w fun e w' => e = .returned (.int .i64 (v.fresh d ls).2.2) ∧ Lw W w' (wrow p g (v.fresh d ls).2.1 :: L) g (v.fresh d ls).1 := by
  obtain ⟨F, x, h1, h2⟩ := h.wx
  exact (wfresh_any p g v d F hlog B A cap ls ha w x hs hB hl hn).mono fun e w' ⟨he, hm⟩ => ⟨he, h.went hp hd h1 h2 hm⟩
theorem Lw.wlen (h : Lw W w (wrow p g v :: L) g d) : Calls Try.prog 17 #[ptr p] w fun e w' => e = .returned (.int .i64 v.all) ∧ w' = w := len_any p g v w (h.st.knows _ (List.mem_cons_self ..))
theorem Lw.wsure (h : Lw W w (wrow p g v :: L) g d) : Calls Try.prog 18 #[ptr p] w fun e w' => e = .returned (.int .i64 v.sure) ∧ w' = w := wsure_any p g v w (h.st.knows _ (List.mem_cons_self ..))
/-- Open, where no error is met: a wal, and loads told in blocks R. -/
theorem Lw.wopen (h : Lw W w L g d) {log : Int} (hlog : W64 log) (ha : d.acts + 1 ≤ 9223372036854775807) (h0 : (opens d log).2 = 0) :
    Calls Try.prog 24 #[ptr g, .int .i64 log] w fun e w' => ∃ p h R, e = .returned (.tuple #[ptr p, .slice (some ⟨h, 0, none⟩) (scan (d.of log).all).1.length (scan (d.of log).all).1.length, .int .i64 0]) ∧
      Lw W w' (wrow p g ((⟨(scan (d.of log).all).1, (scan (d.of log).all).1.length⟩ : Wk).wv log) :: (R ++ L)) g (opens d log).1 ∧ w.heap.size ≤ p ∧ (∀ r ∈ R ++ L, r.1 ≠ p) ∧ (∀ r ∈ R, w.heap.size ≤ r.1) ∧ Told R h (scan (d.of log).all).1 := by
  obtain ⟨F, x, h1, h2⟩ := h.dsk
  refine (open_any g d F log hlog ha w x).mono fun e w' ⟨_, he⟩ => ?_
  obtain ⟨p, hh, R, rfl, ⟨ho, ⟨F', hF, hx, hR⟩, hp, hk, hfar, ht⟩⟩ := he h0
  have hne : ∀ r ∈ R ++ L, r.1 ≠ p := fun r hr => by
    rcases List.mem_append.1 hr with hr | hr
    · exact (hfar r hr).2
    · have := (h.st.knows r hr).lt; omega
  refine ⟨p, hh, R, rfl, ⟨⟨h.st.below.trans (ho.below h.st.below.size h1), fun r hr => ?_⟩, F', hx.dsk, fun b hb => ?_, fun r hr hf => ?_⟩, hp, hne, fun r hr => (hfar r hr).1, ht⟩
  · rcases List.mem_cons.1 hr with rfl | hr
    · exact hx.face
    · rcases List.mem_append.1 hr with hr | hr
      · exact hk r hr
      · exact ho.whole (h.st.knows r hr) (h2 r hr)
  · rcases hF b hb with hb | hb
    · exact h1 b hb
    · exact Nat.le_trans h.st.below.size hb
  · rcases List.mem_cons.1 hr with rfl | hr
    · exact hx.out hf
    · rcases List.mem_append.1 hr with hr | hr
      · exact hR r hr hf
      · rcases hF r.1 hf with hb | hb
        · exact h2 r hr hb
        · have := (h.st.knows r hr).lt; omega
/-- Open, where one is met. -/
theorem Lw.wopenE (h : Lw W w L g d) {log : Int} (hlog : W64 log) (ha : d.acts + 1 ≤ 9223372036854775807) (h0 : (opens d log).2 ≠ 0) :
    Calls Try.prog 24 #[ptr g, .int .i64 log] w fun e w' => e = .returned (.tuple #[.pointer none, .slice none 0 0, .int .i64 (opens d log).2]) ∧ Lw W w' L g (opens d log).1 := by
  obtain ⟨F, x, h1, h2⟩ := h.dsk
  refine (open_any g d F log hlog ha w x).mono fun e w' ⟨he, _⟩ => ?_
  obtain ⟨rfl, hm⟩ := he h0
  exact ⟨rfl, h.turn h1 h2 hm⟩
/-- The worlds in which the same is known. -/
theorem Lw.class (h : Lw W w L g d) : ∃ C : World → Prop, C w.drew ∧ Hid (∀ a b, C a → Below a.heap.size a b → C b) ∧ Hid (∀ a, C a → Lw W a L g d) :=
  ⟨fun a => Lw W a L g d, h.drewN 1, Lib.hid fun a b ha hb => ha.call hb, Lib.hid fun a ha => ha⟩

/-- A list of the call's own, in blocks R (one or none). -/
def OwnR (R : List Row) (B : Nat) (e : TypeId) (size : Nat) (v : Value) (n : Nat) (xs : List Value) : Prop :=
  (∀ w2, Knows w2 R → w2.ownsRow B e size v n xs) ∧ (∀ r ∈ R, v.ownBlock = some r.1) ∧ R.length ≤ 1
theorem OwnR.of {B n size : Nat} {e : TypeId} {u : Value} {xs : List Value} (h : w.ownsRow B e size u n xs) : ∃ R, OwnR R B e size u n xs ∧ Knows w R ∧ ∀ r ∈ R, B ≤ r.1 := by
  obtain ⟨h1, hv | ⟨b, cap, cur, rfl, hB, hh, h2, h3, h4⟩⟩ := h
  · exact ⟨[], ⟨fun w2 _ => ⟨h1, .inl hv⟩, (fun r hr => by cases hr), Nat.zero_le _⟩, Knows.nil _, fun r hr => by cases hr⟩
  · exact ⟨[(b, e, cur)], ⟨fun w2 hk => ⟨h1, .inr ⟨b, cap, cur, rfl, hB, hk (b, e, cur) (List.mem_singleton.2 rfl), h2, h3, h4⟩⟩, (fun r hr => by rw [List.mem_singleton.1 hr]; rfl), Nat.le_refl _⟩, fun r hr => by rw [List.mem_singleton.1 hr]; exact hh, fun r hr => by rw [List.mem_singleton.1 hr]; exact hB⟩
theorem OwnR.block {B n size : Nat} {e : TypeId} {u : Value} {xs : List Value} (ho : OwnR R B e size u n xs) (w : World) {b : Nat} (hb : u.ownBlock = some b) : ∃ r ∈ R, r.1 = b := by
  rcases R with _ | ⟨r, R⟩
  · exfalso
    have hw : (World.ownsRow ({ w with heap := #[] } : World) B e size u n xs) := ho.1 _ (Knows.nil _)
    rcases hw.2 with ⟨hv, _⟩ | ⟨b2, c2, cur2, hv, _, hh2, _⟩
    · rw [hv] at hb; simp [Value.ownBlock] at hb
    · simp at hh2
  · refine ⟨r, List.mem_cons_self .., ?_⟩
    have := ho.2.1 r (List.mem_cons_self ..)
    rw [hb] at this
    injection this with this; exact this.symm
/-- A list that has just come. -/
theorem Lw.owned {n size : Nat} {e : TypeId} {u : Value} {xs : List Value} (h : Lw W w L g d) (hb : Below w.heap.size w w') (ho : w'.ownsRow w.heap.size e size u n xs) :
    ∃ R, OwnR R w.heap.size e size u n xs ∧ Lw W w' (R ++ L) g d ∧ (∀ r ∈ R, w.heap.size ≤ r.1) := by
  obtain ⟨R, h1, h2, h3⟩ := OwnR.of ho
  obtain ⟨F, x, f1, f2⟩ := h.dsk
  have hl := h.call hb
  refine ⟨R, h1, ⟨⟨hl.st.below, fun r hr => ?_⟩, F, x.call hb, f1, fun r hr hf => ?_⟩, h3⟩
  · rcases List.mem_append.1 hr with hr | hr
    · exact h2 r hr
    · exact hl.st.knows r hr
  · rcases List.mem_append.1 hr with hr | hr
    · have := x.low hf
      have := h3 r hr
      omega
    · exact f2 r hr hf
/-- A list grows beside the disk. -/
theorem Lw.grown {B n m size : Nat} {e : TypeId} {u u' : Value} {xs ys : List Value} (h : Lw W w (R ++ L) g d) (ho : OwnR R B e size u n xs) (hB : W.heap.size ≤ B) (hL : ∀ r ∈ L, u.ownBlock ≠ some r.1)
    (ho' : w'.ownsRow B e size u' m ys) (hg : w.grownBy w' u.ownBlock) (hat : u'.ownBlock = u.ownBlock ∨ u'.ownBlock = some w.heap.size) :
    ∃ R', OwnR R' B e size u' m ys ∧ Lw W w' (R' ++ L) g d ∧ (∀ r ∈ R', B ≤ r.1) ∧ ∀ r ∈ L, u'.ownBlock ≠ some r.1 := by
  obtain ⟨R', h1, h2, h3⟩ := OwnR.of ho'
  obtain ⟨F, x, f1, f2⟩ := h.dsk
  have hown := ho.1 w (fun r hr => h.st.knows r (List.mem_append.2 (.inl hr)))
  have hFu : ∀ b, u.ownBlock = some b → ¬ F b := fun b hb hf => by
    obtain ⟨r, hr, e⟩ := ho.block w hb
    exact f2 r (List.mem_append.2 (.inl hr)) (e ▸ hf)
  have hne : ∀ r ∈ L, u'.ownBlock ≠ some r.1 := fun r hr hf => by
    rcases hat with hat | hat
    · exact hL r hr (hat ▸ hf)
    · rw [hat] at hf
      injection hf with hf
      have := (h.st.knows r (List.mem_append.2 (.inr hr))).lt
      omega
  have hbelow : Below W.heap.size W w' := h.st.below.grown hg h.st.below.size fun b hb => Nat.le_trans hB (hown.lt b hb).1
  refine ⟨R', h1, ⟨⟨hbelow, fun r hr => ?_⟩, F, ?_, f1, fun r hr hf => ?_⟩, h3, hne⟩
  · rcases List.mem_append.1 hr with hr | hr
    · exact h2 r hr
    · exact (h.st.knows r (List.mem_append.2 (.inr hr))).grown hg fun e => hL r hr e.symm
  · obtain ⟨a, b, c, y⟩ := x
    exact ⟨a, b, c, y.away hg.size fun k hk => hg.block k (y.low k hk) fun e => hFu k e.symm hk⟩
  · rcases List.mem_append.1 hr with hr | hr
    · have := h1.2.1 r hr
      rcases hat with hat | hat
      · rw [hat] at this
        exact hFu _ this hf
      · rw [hat] at this
        injection this with this
        have := x.low hf
        omega
    · exact f2 r (List.mem_append.2 (.inr hr)) hf
end
/-- Lw, whose blocks are all its own, each another one. -/
structure Lx (W w : World) (L : List Row) (g : Nat) (d : D) : Prop where
  lw : Lw W w L g d
  far : L.Pairwise fun r s => r.1 ≠ s.1
  new : ∀ r ∈ L, W.heap.size ≤ r.1
section
variable {W w w' : World} {L L' P R : List Row} {p g : Nat} {d d' : D} {v v' : Wv}
theorem Lx.perm (h : Lx W w L g d) (hp : L.Perm L') : Lx W w L' g d :=
  ⟨h.lw.few fun r hr => hp.mem_iff.2 hr, (hp.pairwise_iff fun h => Ne.symm h).1 h.far, fun r hr => h.new r (hp.mem_iff.2 hr)⟩
theorem Lx.call (h : Lx W w L g d) (hb : Below w.heap.size w w') : Lx W w' L g d := ⟨h.lw.call hb, h.far, h.new⟩
theorem Lx.other (h : Lx W w L g d) (o : Obj) : Lx W (w.alloc o) L g d := h.call ((Below.refl _ _).alloc (Nat.le_refl _) o)
theorem Lx.away (h : Lx W w (wrow p g v :: L) g d) : ∀ r ∈ L, r.1 ≠ p := fun r hr => Ne.symm ((List.pairwise_cons.1 h.far).1 r hr)
theorem Lx.heads (h : Lx W w (wrow p g v :: L) g d) {v' : Wv} (hl : Lw W w' (wrow p g v' :: L) g d') : Lx W w' (wrow p g v' :: L) g d' :=
  ⟨hl, List.pairwise_cons.2 ⟨fun r hr => (List.pairwise_cons.1 h.far).1 r hr, (List.pairwise_cons.1 h.far).2⟩, fun r hr => by
    rcases List.mem_cons.1 hr with rfl | hr
    · exact h.new (wrow p g v) (List.mem_cons_self ..)
    · exact h.new r (List.mem_cons_of_mem _ hr)⟩
theorem Lx.own (h : Lx W w (wrow p g v :: L) g d) : W.heap.size ≤ p := h.new (wrow p g v) (List.mem_cons_self ..)
theorem Lx.wappend (h : Lx W w (wrow p g v :: L) g d) (hlog : W64 v.log) {A : Option Addr} {cap : Nat} {bs : List UInt8} (ha : d.acts + 1 ≤ 9223372036854775807) (hall : v.all + 1 ≤ 9223372036854775807) (hin : InB w A cap bs) :
    Calls Try.prog 29 #[ptr p, .slice A bs.length cap] w fun e w' => e = .returned (.int .i64 (v.append d bs).2.2) ∧ Lx W w' (wrow p g (v.append d bs).2.1 :: L) g (v.append d bs).1 :=
  (h.lw.wappend h.own h.away hlog ha hall hin).mono fun e w' ⟨he, hm⟩ => ⟨he, h.heads hm⟩
theorem Lx.wsync (h : Lx W w (wrow p g v :: L) g d) (hlog : W64 v.log) (ha : d.acts + 1 ≤ 9223372036854775807) :
    Calls Try.prog 30 #[ptr p] w fun e w' => e = .returned (.int .i64 (v.sync d).2.2) ∧ Lx W w' (wrow p g (v.sync d).2.1 :: L) g (v.sync d).1 :=
  (h.lw.wsync h.own h.away hlog ha).mono fun e w' ⟨he, hm⟩ => ⟨he, h.heads hm⟩
theorem OwnR.far {B n size : Nat} {e : TypeId} {u : Value} {xs : List Value} (ho : OwnR R B e size u n xs) : R.Pairwise fun r s => r.1 ≠ s.1 := by
  have := ho.2.2
  rcases R with _ | ⟨r, _ | ⟨s, R⟩⟩
  · exact .nil
  · exact List.pairwise_singleton _ _
  · simp at this
theorem Lx.owned {n size : Nat} {e : TypeId} {u : Value} {xs : List Value} (h : Lx W w L g d) (hb : Below w.heap.size w w') (ho : w'.ownsRow w.heap.size e size u n xs) :
    ∃ R, OwnR R w.heap.size e size u n xs ∧ Lx W w' (R ++ L) g d := by
  obtain ⟨R, h1, h2, h3⟩ := h.lw.owned hb ho
  refine ⟨R, h1, h2, List.pairwise_append.2 ⟨h1.far, h.far, fun r hr s hs e => ?_⟩, fun r hr => ?_⟩
  · have := h3 r hr
    have := (h.lw.st.knows s hs).lt
    omega
  · rcases List.mem_append.1 hr with hr | hr
    · exact Nat.le_trans h.lw.st.below.size (h3 r hr)
    · exact h.new r hr
/-- A list grows beside the disk. -/
theorem Lx.grown {B n m size : Nat} {e : TypeId} {u u' : Value} {xs ys : List Value} (h : Lx W w (P ++ (R ++ L)) g d) (ho : OwnR R B e size u n xs) (hB : W.heap.size ≤ B)
    (ho' : w'.ownsRow B e size u' m ys) (hg : w.grownBy w' u.ownBlock) (hat : u'.ownBlock = u.ownBlock ∨ u'.ownBlock = some w.heap.size) :
    ∃ R', OwnR R' B e size u' m ys ∧ Lx W w' (P ++ (R' ++ L)) g d := by
  have h1 := h.perm (List.perm_append_comm_assoc P R L)
  have hpw := List.pairwise_append.1 h1.far
  obtain ⟨R', i1, i2, i3, i4⟩ := h1.lw.grown ho hB (fun r hr e => by
    obtain ⟨s, hs, e2⟩ := OwnR.block ho w e
    exact hpw.2.2 s hs r hr e2) ho' hg hat
  have h2 : Lx W w' (R' ++ (P ++ L)) g d := by
    refine ⟨i2, List.pairwise_append.2 ⟨i1.far, hpw.2.1, fun r hr s hs e => i4 s hs ((i1.2.1 r hr).trans (by rw [e]))⟩, fun r hr => ?_⟩
    rcases List.mem_append.1 hr with hr | hr
    · exact Nat.le_trans hB (i3 r hr)
    · exact h1.new r (List.mem_append.2 (.inr hr))
  exact ⟨R', i1, h2.perm (List.perm_append_comm_assoc R' P L)⟩
end
end Go.Proofs.Ytlfigbgcackimaa
