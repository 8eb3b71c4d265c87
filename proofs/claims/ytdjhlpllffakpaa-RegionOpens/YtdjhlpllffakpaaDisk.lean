/-
  Plain mathematics for the layer disk: blocks that were written, the power, files in order; no program is named here.
  Plain mathematics for the laws of the layer disk; no program is named here.
-/
namespace Go.Proofs.Ytdjhlpllffakpaa
section
/-- A file: its kind, x and z. -/
abbrev Fl : Type := Int × Int × Int
/-- A block that was written. -/
structure Bk where
  f : Fl
  i : Int
  b : List Int
/-- A disk: the blocks in the order in which they were first written, and the power. -/
structure St where
  l : List Bk
  out : Bool
  armed : Bool
  left : Int
  writes : Int

/-- The bytes of a block. -/
def has : List Bk → Fl → Int → Option (List Int)
  | [], _, _ => none
  | b :: r, f, i => if b.f = f ∧ b.i = i then some b.b else has r f i
/-- A block is written. -/
def put : List Bk → Fl → Int → List Int → List Bk
  | [], f, i, bs => [⟨f, i, bs⟩]
  | b :: r, f, i, bs => if b.f = f ∧ b.i = i then ⟨f, i, bs⟩ :: r else b :: put r f i bs
theorem has_put_same (l : List Bk) (f : Fl) (i : Int) (bs : List Int) : has (put l f i bs) f i = some bs := by
  induction l with
  | nil => simp [put, has]
  | cons b r ih =>
    unfold put
    split
    · simp [has]
    · rename_i h
      rw [has, if_neg h, ih]
theorem has_put_other (l : List Bk) (f g : Fl) (i j : Int) (bs : List Int) (h : ¬ (f = g ∧ i = j)) : has (put l f i bs) g j = has l g j := by
  induction l with
  | nil => simp [put, has, h]
  | cons b r ih =>
    unfold put
    split
    · rename_i e
      rw [has, has, if_neg h, if_neg (by rw [e.1, e.2]; exact h)]
    · rw [has, has, ih]
theorem mem_put {l : List Bk} {f : Fl} {i : Int} {bs : List Int} {b : Bk} (h : b ∈ put l f i bs) : b ∈ l ∨ b = ⟨f, i, bs⟩ := by
  induction l with
  | nil => simp [put] at h; exact Or.inr h
  | cons a r ih =>
    unfold put at h
    split at h
    · rcases List.mem_cons.1 h with h | h
      · exact Or.inr h
      · exact Or.inl (List.mem_cons_of_mem _ h)
    · rcases List.mem_cons.1 h with h | h
      · exact Or.inl (by rw [h]; exact List.mem_cons_self ..)
      · rcases ih h with h | h
        · exact Or.inl (List.mem_cons_of_mem _ h)
        · exact Or.inr h
/-- The files and places of blocks, without their bytes. -/
def at_ (l : List Bk) : List (Fl × Int) := l.map fun b => (b.f, b.i)
theorem at_put (l : List Bk) (f : Fl) (i : Int) (bs : List Int) : at_ (put l f i bs) = if (has l f i).isSome then at_ l else at_ l ++ [(f, i)] := by
  induction l with
  | nil => rfl
  | cons b r ih =>
    unfold put
    split
    · rename_i e
      rw [has, if_pos e]
      simp [at_, e.1, e.2]
    · rename_i e
      rw [has, if_neg e]
      show (b.f, b.i) :: at_ (put r f i bs) = _
      rw [ih]
      split
      · rfl
      · rfl
theorem has_mem {l : List Bk} {f : Fl} {i : Int} {bs : List Int} (h : has l f i = some bs) : (⟨f, i, bs⟩ : Bk) ∈ l := by
  induction l with
  | nil => simp [has] at h
  | cons b r ih =>
    rw [has] at h
    split at h
    · rename_i e
      cases h
      obtain ⟨bf, bi, bb⟩ := b
      simp only at e
      obtain ⟨rfl, rfl⟩ := e
      exact List.mem_cons_self ..
    · exact List.mem_cons_of_mem _ (ih h)
theorem has_none {l : List Bk} {f : Fl} {i : Int} : has l f i = none ↔ (f, i) ∉ at_ l := by
  induction l with
  | nil => simp [has, at_]
  | cons b r ih =>
    rw [has]
    split
    · rename_i e
      simp [at_, e.1, e.2]
    · rename_i e
      rw [ih]
      unfold at_
      rw [List.map_cons, List.mem_cons, not_or]
      constructor
      · intro h
        refine ⟨fun he => e ?_, h⟩
        cases he
        exact ⟨rfl, rfl⟩
      · exact fun h => h.2

/-! ### what calls answer -/
def St.new : St := ⟨[], false, false, 0, 0⟩
abbrev argOk (i : Int) (n : Nat) : Prop := 0 ≤ i ∧ i < 4096 ∧ n = 32
def St.wrote (S : St) (f : Fl) (i : Int) (bs : List Int) : St :=
  { l := put S.l f i bs, out := S.armed && decide (S.left - 1 ≤ 0), armed := S.armed, left := if S.armed then S.left - 1 else S.left, writes := S.writes + 1 }
/-- Write: an error and the disk behind it. -/
def St.write (S : St) (f : Fl) (i : Int) (bs : List Int) : Int × St :=
  if argOk i bs.length then (if S.out then (8, S) else (0, S.wrote f i bs)) else (1, S)
/-- Read: an error and bytes. -/
def St.read (S : St) (f : Fl) (i : Int) : Int × List Int :=
  if 0 ≤ i ∧ i < 4096 then (if S.out then (8, []) else (0, (has S.l f i).getD (List.replicate 32 0))) else (1, [])
def St.cut (S : St) (n : Int) : St := { S with armed := true, left := n, out := S.out || decide (n < 1) }
def St.up (S : St) : St := { S with armed := false, out := false }
/-- One more than the greatest block of a file. -/
def lenOf : List (Fl × Int) → Fl → Int
  | [], _ => 0
  | p :: r, f => if p.1 = f then max (p.2 + 1) (lenOf r f) else lenOf r f

/-! ### files in order -/
/-- Does a file stand ahead of another one? -/
def ltF (a b : Fl) : Bool := decide (a.1 < b.1 ∨ a.1 = b.1 ∧ (a.2.1 < b.2.1 ∨ a.2.1 = b.2.1 ∧ a.2.2 < b.2.2))
/-- Files rise. -/
def Lt (a b : Fl) : Prop := ltF a b = true
theorem Lt.iff {a b : Fl} : Lt a b ↔ (a.1 < b.1 ∨ a.1 = b.1 ∧ (a.2.1 < b.2.1 ∨ a.2.1 = b.2.1 ∧ a.2.2 < b.2.2)) := by unfold Lt ltF; exact decide_eq_true_iff
theorem lt_irrefl (a : Fl) : ¬ Lt a a := by rw [Lt.iff]; omega
theorem Lt.trans {a b c : Fl} (h : Lt a b) (k : Lt b c) : Lt a c := by rw [Lt.iff] at *; omega
theorem lt_tri (a b : Fl) : Lt a b ∨ a = b ∨ Lt b a := by
  obtain ⟨a1, a2, a3⟩ := a
  obtain ⟨b1, b2, b3⟩ := b
  rw [Lt.iff, Lt.iff]
  simp only [Prod.mk.injEq]
  omega
/-- A file comes into files that rise. -/
def ins (f : Fl) : List Fl → List Fl
  | [] => [f]
  | g :: r => if ltF g f then g :: ins f r else if g = f then g :: r else f :: g :: r
def filesOf (p : List (Fl × Int)) : List Fl := p.foldl (fun l q => ins q.1 l) []
theorem mem_ins (f g : Fl) (l : List Fl) : g ∈ ins f l ↔ g = f ∨ g ∈ l := by
  induction l with
  | nil => simp [ins]
  | cons a r ih =>
    unfold ins
    split
    · rw [List.mem_cons, ih, List.mem_cons]
      constructor
      · rintro (h | h | h)
        · exact Or.inr (Or.inl h)
        · exact Or.inl h
        · exact Or.inr (Or.inr h)
      · rintro (h | h | h)
        · exact Or.inr (Or.inl h)
        · exact Or.inl h
        · exact Or.inr (Or.inr h)
    · split
      · rename_i e
        rw [List.mem_cons, e]
        constructor
        · exact fun h => Or.inr h
        · rintro (h | h)
          · exact Or.inl h
          · exact h
      · rw [List.mem_cons]
theorem ins_rise (f : Fl) (l : List Fl) (h : l.Pairwise Lt) : (ins f l).Pairwise Lt := by
  induction l with
  | nil => simp [ins]
  | cons a r ih =>
    rw [List.pairwise_cons] at h
    unfold ins
    split
    · rename_i ha
      rw [List.pairwise_cons]
      refine ⟨fun b hb => ?_, ih h.2⟩
      rcases (mem_ins f b r).1 hb with rfl | hb
      · exact ha
      · exact h.1 b hb
    · split
      · rw [List.pairwise_cons]; exact h
      · rename_i h1 h2
        have hf : Lt f a := by
          rcases lt_tri a f with h3 | h3 | h3
          · exact absurd h3 h1
          · exact absurd h3 h2
          · exact h3
        rw [List.pairwise_cons]
        refine ⟨fun b hb => ?_, by rw [List.pairwise_cons]; exact h⟩
        rcases List.mem_cons.1 hb with rfl | hb
        · exact hf
        · exact Lt.trans hf (h.1 b hb)
theorem foldl_ins (p : List (Fl × Int)) (l : List Fl) (h : l.Pairwise Lt) : (p.foldl (fun l q => ins q.1 l) l).Pairwise Lt ∧ ∀ g, g ∈ p.foldl (fun l q => ins q.1 l) l ↔ g ∈ l ∨ ∃ i, (g, i) ∈ p := by
  induction p generalizing l with
  | nil => exact ⟨h, fun g => by simp⟩
  | cons q r ih =>
    obtain ⟨h1, h2⟩ := ih (ins q.1 l) (ins_rise _ _ h)
    refine ⟨h1, fun g => ?_⟩
    rw [List.foldl_cons, h2, mem_ins]
    constructor
    · rintro ((h3 | h3) | ⟨i, h3⟩)
      · exact Or.inr ⟨q.2, by rw [h3]; exact List.mem_cons_self ..⟩
      · exact Or.inl h3
      · exact Or.inr ⟨i, List.mem_cons_of_mem _ h3⟩
    · rintro (h3 | ⟨i, h3⟩)
      · exact Or.inl (Or.inr h3)
      · rcases List.mem_cons.1 h3 with e | e
        · exact Or.inl (Or.inl (by rw [← e]))
        · exact Or.inr ⟨i, e⟩
theorem files_rise (p : List (Fl × Int)) : (filesOf p).Pairwise Lt := (foldl_ins p [] List.Pairwise.nil).1
theorem mem_files (p : List (Fl × Int)) (g : Fl) : g ∈ filesOf p ↔ ∃ i, (g, i) ∈ p := by
  rw [filesOf, (foldl_ins p [] List.Pairwise.nil).2]
  simp
/-- Two lists that rise and have the same files are the same. -/
theorem rise_eq : ∀ (a b : List Fl), a.Pairwise Lt → b.Pairwise Lt → (∀ g, g ∈ a ↔ g ∈ b) → a = b
  | [], [], _, _, _ => rfl
  | [], y :: _, _, _, h => absurd ((h y).2 (List.mem_cons_self ..)) (by simp)
  | x :: _, [], _, _, h => absurd ((h x).1 (List.mem_cons_self ..)) (by simp)
  | x :: a, y :: b, ha, hb, h => by
    rw [List.pairwise_cons] at ha hb
    have e : x = y := by
      rcases lt_tri x y with h1 | h1 | h1
      · rcases List.mem_cons.1 ((h x).1 (List.mem_cons_self ..)) with h2 | h2
        · exact h2
        · exact absurd (Lt.trans h1 (hb.1 x h2)) (lt_irrefl _)
      · exact h1
      · rcases List.mem_cons.1 ((h y).2 (List.mem_cons_self ..)) with h2 | h2
        · exact h2.symm
        · exact absurd (Lt.trans h1 (ha.1 y h2)) (lt_irrefl _)
    subst e
    rw [rise_eq a b ha.2 hb.2]
    intro g
    constructor
    · intro hg
      rcases List.mem_cons.1 ((h g).1 (List.mem_cons_of_mem _ hg)) with h2 | h2
      · subst h2; exact absurd (ha.1 _ hg) (lt_irrefl _)
      · exact h2
    · intro hg
      rcases List.mem_cons.1 ((h g).2 (List.mem_cons_of_mem _ hg)) with h2 | h2
      · subst h2; exact absurd (hb.1 _ hg) (lt_irrefl _)
      · exact h2
/-- Files hang on what is there alone, not on the order. -/
theorem files_same {p q : List (Fl × Int)} (h : ∀ x, x ∈ p ↔ x ∈ q) : filesOf p = filesOf q :=
  rise_eq _ _ (files_rise p) (files_rise q) (fun g => by rw [mem_files, mem_files]; exact ⟨fun ⟨i, hi⟩ => ⟨i, (h _).1 hi⟩, fun ⟨i, hi⟩ => ⟨i, (h _).2 hi⟩⟩)

/-! ### lengths -/
theorem lenOf_le {p : List (Fl × Int)} {f : Fl} {i : Int} (h : (f, i) ∈ p) : i + 1 ≤ lenOf p f := by
  induction p with
  | nil => simp at h
  | cons q r ih =>
    unfold lenOf
    rcases List.mem_cons.1 h with e | e
    · subst e
      rw [if_pos rfl]
      exact Int.le_max_left ..
    · have := ih e
      split
      · exact Int.le_trans this (Int.le_max_right ..)
      · exact this
theorem lenOf_is {p : List (Fl × Int)} {f : Fl} (hp : ∀ q ∈ p, 0 ≤ q.2) : lenOf p f = 0 ∧ (∀ i, (f, i) ∉ p) ∨ ∃ i, (f, i) ∈ p ∧ lenOf p f = i + 1 := by
  induction p with
  | nil => exact Or.inl ⟨rfl, fun i => by simp⟩
  | cons q r ih =>
    have h0 := hp q (List.mem_cons_self ..)
    unfold lenOf
    rcases ih (fun x hx => hp x (List.mem_cons_of_mem _ hx)) with ⟨h1, h2⟩ | ⟨i, h1, h2⟩
    · split
      · rename_i e
        refine Or.inr ⟨q.2, by rw [← e]; exact List.mem_cons_self .., ?_⟩
        rw [h1]
        omega
      · rename_i e
        refine Or.inl ⟨h1, fun i hi => ?_⟩
        rcases List.mem_cons.1 hi with e2 | e2
        · exact e (by rw [← e2])
        · exact h2 i e2
    · split
      · rename_i e
        by_cases hle : q.2 + 1 ≤ lenOf r f
        · exact Or.inr ⟨i, List.mem_cons_of_mem _ h1, by rw [Int.max_eq_right hle, h2]⟩
        · exact Or.inr ⟨q.2, by rw [← e]; exact List.mem_cons_self .., by omega⟩
      · exact Or.inr ⟨i, List.mem_cons_of_mem _ h1, h2⟩
/-- Lengths hang on what is there alone. -/
theorem len_same {p q : List (Fl × Int)} (h : ∀ x, x ∈ p ↔ x ∈ q) (hp : ∀ x ∈ p, 0 ≤ x.2) (f : Fl) : lenOf p f = lenOf q f := by
  have hq : ∀ x ∈ q, 0 ≤ x.2 := fun x hx => hp x ((h x).2 hx)
  rcases lenOf_is (f := f) hp with ⟨a1, a2⟩ | ⟨i, a1, a2⟩ <;> rcases lenOf_is (f := f) hq with ⟨b1, b2⟩ | ⟨j, b1, b2⟩
  · rw [a1, b1]
  · exact absurd ((h _).2 b1) (a2 j)
  · exact absurd ((h _).1 a1) (b2 i)
  · have h1 := lenOf_le ((h _).1 a1)
    have h2 := lenOf_le ((h _).2 b1)
    omega

/-! ### what stays -/
/-- All blocks may be. -/
def Good (l : List Bk) : Prop := ∀ b ∈ l, 0 ≤ b.i ∧ b.i < 4096 ∧ b.b.length = 32
theorem Good.put {l : List Bk} (h : Good l) {f : Fl} {i : Int} {bs : List Int} (ha : argOk i bs.length) : Good (put l f i bs) := fun b hb => by
  rcases mem_put hb with hb | rfl
  · exact h b hb
  · exact ⟨ha.1, ha.2.1, ha.2.2⟩
theorem Good.at_ {l : List Bk} (h : Good l) : ∀ q ∈ at_ l, 0 ≤ q.2 ∧ q.2 < 4096 := fun q hq => by
  obtain ⟨b, hb, rfl⟩ := List.mem_map.1 hq
  exact ⟨(h b hb).1, (h b hb).2.1⟩
end
section
/-! ### bounds -/
theorem put_len (l : List Bk) (f : Fl) (i : Int) (bs : List Int) : (put l f i bs).length ≤ l.length + 1 := by
  induction l with
  | nil => simp [put]
  | cons b r ih =>
    unfold put
    split
    · simp
    · simp only [List.length_cons]; omega
/-- At most so many blocks and writes. -/
def Few (S : St) (k : Nat) : Prop := S.l.length ≤ k ∧ 0 ≤ S.writes ∧ S.writes ≤ k
theorem Few.new : Few St.new 0 := ⟨Nat.le_refl _, by decide, by decide⟩
theorem Few.more {S : St} {k m : Nat} (h : Few S k) (hm : k ≤ m) : Few S m := ⟨by have := h.1; omega, h.2.1, by have := h.2.2; omega⟩
theorem Few.write {S : St} {k : Nat} (h : Few S k) (f : Fl) (i : Int) (bs : List Int) : Few (S.write f i bs).2 (k + 1) := by
  unfold St.write
  split
  · split
    · exact h.more (by omega)
    · have := put_len S.l f i bs
      refine ⟨?_, ?_, ?_⟩
      · show (put S.l f i bs).length ≤ _; have := h.1; omega
      · show 0 ≤ S.writes + 1; have := h.2.1; omega
      · show S.writes + 1 ≤ _; have := h.2.2; omega
  · exact h.more (by omega)
theorem Few.cut {S : St} {k : Nat} (h : Few S k) (n : Int) : Few (S.cut n) k := h
theorem Few.up {S : St} {k : Nat} (h : Few S k) : Few S.up k := h

/-! ### the power goes out -/
/-- A disk whose power goes out behind n writes, and one that has just those that were done. -/
structure CutInv (n : Int) (d e : St) (done : Int) : Prop where
  l : d.l = e.l
  armed : d.armed = true
  left : d.left = n - done
  out : d.out = decide (n - done < 1)
  writes : d.writes = done
  eout : e.out = false
  earmed : e.armed = false
theorem CutInv.start (n : Int) : CutInv n (St.new.cut n) St.new 0 := ⟨rfl, rfl, by show n = n - 0; omega, by show (false || decide (n < 1)) = decide (n - 0 < 1); rw [Int.sub_zero]; rfl, rfl, rfl, rfl⟩
theorem write_arg2 (d e : St) (f : Fl) (i : Int) (bs : List Int) (ha : ¬ argOk i bs.length) : d.write f i bs = (1, d) ∧ e.write f i bs = (1, e) := by
  unfold St.write; rw [if_neg ha, if_neg ha]; exact ⟨rfl, rfl⟩
theorem CutInv.done {n done : Int} {d e : St} (h : CutInv n d e done) (f : Fl) (i : Int) (bs : List Int) (ha : argOk i bs.length) (hd : done < n) :
    d.write f i bs = (0, d.wrote f i bs) ∧ e.write f i bs = (0, e.wrote f i bs) ∧ CutInv n (d.wrote f i bs) (e.wrote f i bs) (done + 1) := by
  have ho : d.out = false := by rw [h.out]; exact decide_eq_false (by omega)
  refine ⟨by unfold St.write; rw [if_pos ha, ho]; rfl, by unfold St.write; rw [if_pos ha, h.eout]; rfl, ⟨?_, h.armed, ?_, ?_, ?_, ?_, h.earmed⟩⟩
  · show put d.l f i bs = put e.l f i bs; rw [h.l]
  · show (if d.armed = true then d.left - 1 else d.left) = _; rw [if_pos h.armed, h.left]; omega
  · show (d.armed && decide (d.left - 1 ≤ 0)) = _
    rw [h.armed, h.left, Bool.true_and]
    exact decide_eq_decide.2 (by omega)
  · show d.writes + 1 = done + 1; rw [h.writes]
  · show (e.armed && _) = false; rw [h.earmed]; rfl
theorem CutInv.down {n done : Int} {d e : St} (h : CutInv n d e done) (f : Fl) (i : Int) (bs : List Int) (ha : argOk i bs.length) (hd : ¬ done < n) : d.write f i bs = (8, d) := by
  have ho : d.out = true := by rw [h.out]; exact decide_eq_true (by omega)
  unfold St.write; rw [if_pos ha, if_pos ho]
theorem CutInv.reads {n done : Int} {d e : St} (h : CutInv n d e done) (f : Fl) (i : Int) : d.up.read f i = e.read f i := by
  unfold St.read
  show (if 0 ≤ i ∧ i < 4096 then (if false = true then _ else (0, (has d.l f i).getD _)) else _) = _
  rw [h.eout, h.l]

/-! ### files -/
theorem len_file {l : List Bk} (h : Good l) {f : Fl} (hf : f ∈ filesOf (at_ l)) : 1 ≤ lenOf (at_ l) f ∧ lenOf (at_ l) f ≤ 4096 := by
  obtain ⟨i, hi⟩ := (mem_files _ _).1 hf
  have h1 := lenOf_le hi
  have h0 := h.at_ _ hi
  refine ⟨by have := h0.1; simp only at this; omega, ?_⟩
  rcases lenOf_is (f := f) (fun q hq => (h.at_ q hq).1) with ⟨e, _⟩ | ⟨j, hj, e⟩
  · omega
  · have := (h.at_ _ hj).2
    simp only at this
    omega
theorem len_pos {l : List Bk} (h : Good l) (f : Fl) : 0 < lenOf (at_ l) f ↔ f ∈ filesOf (at_ l) := by
  rw [mem_files]
  constructor
  · intro hp
    rcases lenOf_is (f := f) (fun q hq => (h.at_ q hq).1) with ⟨e, _⟩ | ⟨j, hj, _⟩
    · omega
    · exact ⟨j, hj⟩
  · rintro ⟨i, hi⟩
    have h1 := lenOf_le hi
    have := (h.at_ _ hi).1
    simp only at this
    omega
theorem files_next {l : List (Fl × Int)} {k : Nat} (hk : k + 1 < (filesOf l).length) : Lt (filesOf l)[k] (filesOf l)[k + 1] := List.pairwise_iff_getElem.1 (files_rise l) k (k + 1) (by omega) hk (by omega)

/-! ### what was written -/
theorem Good.write {S : St} (h : Good S.l) (f : Fl) (i : Int) (bs : List Int) : Good (S.write f i bs).2.l := by
  unfold St.write
  split
  · rename_i ha
    split
    · exact h
    · exact h.put ha
  · exact h
/-- With the power there: it stays, each write that may be counts, and the block is there. -/
theorem write_on {S : St} (ho : S.out = false) (ha : S.armed = false) (f : Fl) (i : Int) (bs : List Int) : (S.write f i bs).2.out = false ∧ (S.write f i bs).2.armed = false ∧ ((S.write f i bs).1 = 0 ↔ argOk i bs.length) ∧ (S.write f i bs).2.writes = S.writes + (if argOk i bs.length then 1 else 0) := by
  unfold St.write
  by_cases h : argOk i bs.length
  · rw [if_pos h, ho, if_pos h]
    refine ⟨?_, ha, ⟨fun _ => h, fun _ => rfl⟩, rfl⟩
    show (S.armed && _) = false
    rw [ha]; rfl
  · rw [if_neg h, if_neg h]
    refine ⟨ho, ha, ⟨fun e => ?_, fun e => absurd e h⟩, by show S.writes = S.writes + 0; omega⟩
    cases e
theorem has_write {S : St} (f g : Fl) (i j : Int) (bs : List Int) (h : ¬ (f = g ∧ i = j ∧ bs.length = 32)) (hn : has S.l g j = none) : has (S.write f i bs).2.l g j = none := by
  unfold St.write
  split
  · rename_i ha
    split
    · exact hn
    · show has (put S.l f i bs) g j = none
      rw [has_put_other _ _ _ _ _ _ (fun e => h ⟨e.1, e.2, ha.2.2⟩)]
      exact hn
  · exact hn
end
end Go.Proofs.Ytdjhlpllffakpaa
