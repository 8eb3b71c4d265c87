/-
  Plain mathematics: what a disk shows besides the journal's file, and whole's answer.
-/
import Derived.Test.YtjkeejbfipmidaaWhole
namespace Go.Proofs.Ytjkeejbfipmidaa

/-- Every block that is not the journal's is as in V; the journal's are of one file. -/
def Sees (S : St) (V : List Bk) : Prop := (∀ f i, f.1 ≠ 1 → has S.l f i = has V f i) ∧ ∀ b ∈ S.l, b.f.1 = 1 → b.f = (1, 0, 0)
/-- No block is the journal's. -/
def NoJ (V : List Bk) : Prop := ∀ b ∈ V, b.f.1 ≠ 1
theorem NoJ.nil : NoJ [] := fun b hb => absurd hb (by simp)
theorem NoJ.put {V : List Bk} (h : NoJ V) {f : Fl} {i : Int} {b : List Int} (hf : f.1 ≠ 1) : NoJ (put V f i b) := fun x hx => by
  rcases mem_put hx with h1 | rfl
  · exact h x h1
  · exact hf
theorem NoJ.doAll {V l : List Bk} (h : NoJ V) (hl : ∀ b ∈ l, badB b = false) : NoJ (doAll V l) := by
  induction l generalizing V with
  | nil => exact h
  | cons b r ih => exact ih (h.put (badB_false.1 (hl b (List.mem_cons_self ..))).1) (fun x hx => hl x (List.mem_cons_of_mem _ hx))
theorem has_at {l : List Bk} {f : Fl} {i : Int} : (f, i) ∈ at_ l ↔ has l f i ≠ none := by
  rw [Ne, has_none, Classical.not_not]
/-- The files that a disk shows. -/
theorem sees_files {S : St} {V : List Bk} (h : Sees S V) (hV : NoJ V) : (filesOf (at_ S.l)).filter (fun f => decide (f.1 ≠ 1)) = filesOf (at_ V) := by
  refine rise_eq _ _ ((files_rise _).filter _) (files_rise _) (fun g => ?_)
  rw [List.mem_filter, mem_files, mem_files, decide_eq_true_iff]
  constructor
  · rintro ⟨⟨i, hi⟩, hg⟩
    exact ⟨i, has_at.2 (by rw [← h.1 g i hg]; exact has_at.1 hi)⟩
  · rintro ⟨i, hi⟩
    have hg : g.1 ≠ 1 := by
      obtain ⟨b, hb, e⟩ := List.mem_map.1 hi
      cases e
      exact hV b hb
    exact ⟨⟨i, has_at.2 (by rw [h.1 g i hg]; exact has_at.1 hi)⟩, hg⟩
theorem cnt_sees {S : St} {V : List Bk} (h : Sees S V) (hV : NoJ V) : cntJ (filesOf (at_ S.l)) = (filesOf (at_ V)).length := by
  unfold cntJ
  rw [sees_files h hV]
theorem ins_len (f : Fl) (l : List Fl) : (ins f l).length ≤ l.length + 1 := by
  induction l with
  | nil => simp [ins]
  | cons g r ih =>
    unfold ins
    split
    · simp only [List.length_cons]; omega
    · split <;> simp
theorem files_len (p : List (Fl × Int)) : (filesOf p).length ≤ p.length := by
  have : ∀ (p : List (Fl × Int)) (l : List Fl), (p.foldl (fun l q => ins q.1 l) l).length ≤ l.length + p.length := by
    intro p
    induction p with
    | nil => intro l; simp
    | cons q r ih =>
      intro l
      have h1 := ih (ins q.1 l)
      have h2 := ins_len q.1 l
      simp only [List.foldl_cons, List.length_cons]
      omega
  have h := this p []
  simpa [filesOf] using h
theorem one_len {l : List Fl} (h : l.Pairwise Lt) (hc : ∀ f ∈ l, f = (1, 0, 0)) : l.length ≤ 1 := by
  match l, h with
  | [], _ => simp
  | [_], _ => simp
  | x :: y :: r, h =>
    have h1 := hc x (by simp)
    have h2 := hc y (by simp)
    have := (List.pairwise_cons.1 h).1 y (by simp)
    rw [h1, h2] at this
    exact absurd this (lt_irrefl _)
theorem split_len (p : Fl → Bool) (l : List Fl) : l.length = (l.filter p).length + (l.filter fun f => !p f).length := by
  induction l with
  | nil => rfl
  | cons x r ih =>
    by_cases h : p x <;> simp [h] <;> omega
theorem sees_len {S : St} {V : List Bk} (h : Sees S V) (hV : NoJ V) : (filesOf (at_ S.l)).length ≤ V.length + 1 := by
  have h1 : (filesOf (at_ V)).length ≤ V.length := by
    have := files_len (at_ V)
    simpa [at_] using this
  have h2 := sees_files h hV
  have h3 : ((filesOf (at_ S.l)).filter fun f => !decide (f.1 ≠ 1)).length ≤ 1 := by
    refine one_len ((files_rise _).filter _) (fun f hf => ?_)
    rw [List.mem_filter] at hf
    obtain ⟨i, hi⟩ := (mem_files _ _).1 hf.1
    obtain ⟨b, hb, e⟩ := List.mem_map.1 hi
    cases e
    exact h.2 b hb (by simpa using hf.2)
  have h4 := split_len (fun f => decide (f.1 ≠ 1)) (filesOf (at_ S.l))
  rw [h2] at h4
  omega
theorem sameAt_eq {S S' R : St} {V : List Bk} (h : Sees S V) (h' : Sees S' V) (ho : S.out = false) (ho' : S'.out = false) (p : Pt) : sameAt S R p = sameAt S' R p := by
  unfold sameAt
  by_cases hp : p.f.1 = 1
  · simp [hp]
  · have e : S.read p.f p.i = S'.read p.f p.i := by
      unfold St.read
      rw [ho, ho', h.1 _ _ hp, h'.1 _ _ hp]
    rw [e]
/-- Two disks that show the same have the same answer. -/
theorem whole_eq {S S' R : St} {V : List Bk} (h : Sees S V) (h' : Sees S' V) (hV : NoJ V) (ho : S.out = false) (ho' : S'.out = false) (ls : List Gp) : wholeB S R ls = wholeB S' R ls := by
  unfold wholeB
  rw [cnt_sees h hV, cnt_sees h' hV]
  congr 1
  have : sameAt S R = sameAt S' R := funext (sameAt_eq h h' ho ho')
  rw [this]
/-- A disk that shows the other's blocks is whole. -/
theorem whole_true {S R : St} (h : Sees S R.l) (hV : NoJ R.l) (ho : S.out = false) (ho' : R.out = false) (ls : List Gp) : wholeB S R ls = true := by
  unfold wholeB
  rw [cnt_sees h hV, decide_eq_true rfl, Bool.and_true, List.all_eq_true]
  intro g _
  rw [List.all_eq_true]
  intro p _
  unfold sameAt
  by_cases hp : p.f.1 = 1
  · simp [hp]
  · have e : S.read p.f p.i = R.read p.f p.i := by
      unfold St.read
      rw [ho, ho', h.1 _ _ hp]
    rw [e]
    simp
theorem doAll_len (V l : List Bk) : (doAll V l).length ≤ V.length + l.length := by
  induction l generalizing V with
  | nil => exact Nat.le_refl _
  | cons b r ih =>
    have h1 := ih (put V b.f b.i b.b)
    have h2 := put_len V b.f b.i b.b
    have e : doAll V (b :: r) = doAll (put V b.f b.i b.b) r := rfl
    rw [e]
    simp only [List.length_cons]
    omega
end Go.Proofs.Ytjkeejbfipmidaa
