/-
  Plain mathematics for the laws of the layer disk; no program is named here.
-/
import Derived.Test.YtfpcfgfpebdplaaDisk
namespace Go.Proofs.Ytfpcfgfpebdplaa

/-! ### bounds -/
theorem put_len (l : List Bk) (f : Fl) (i : Int) (bs : List Int) : (put l f i bs).length ≤ l.length + 1 := by
  induction l with
  | nil => simp [put]
  | cons b r ih =>
    unfold put
    split
    · simp
    · simp only [List.length_cons]; omega
/-- At most so many blocks and writes. -/
def Few (S : St) (k : Nat) : Prop := S.l.length ≤ k ∧ 0 ≤ S.writes ∧ S.writes ≤ k
theorem Few.new : Few St.new 0 := ⟨Nat.le_refl _, by decide, by decide⟩
theorem Few.more {S : St} {k m : Nat} (h : Few S k) (hm : k ≤ m) : Few S m := ⟨by have := h.1; omega, h.2.1, by have := h.2.2; omega⟩
theorem Few.write {S : St} {k : Nat} (h : Few S k) (f : Fl) (i : Int) (bs : List Int) : Few (S.write f i bs).2 (k + 1) := by
  unfold St.write
  split
  · split
    · exact h.more (by omega)
    · have := put_len S.l f i bs
      refine ⟨?_, ?_, ?_⟩
      · show (put S.l f i bs).length ≤ _; have := h.1; omega
      · show 0 ≤ S.writes + 1; have := h.2.1; omega
      · show S.writes + 1 ≤ _; have := h.2.2; omega
  · exact h.more (by omega)
theorem Few.cut {S : St} {k : Nat} (h : Few S k) (n : Int) : Few (S.cut n) k := h
theorem Few.up {S : St} {k : Nat} (h : Few S k) : Few S.up k := h

/-! ### the power goes out -/
/-- A disk whose power goes out behind n writes, and one that has just those that were done. -/
structure CutInv (n : Int) (d e : St) (done : Int) : Prop where
  l : d.l = e.l
  armed : d.armed = true
  left : d.left = n - done
  out : d.out = decide (n - done < 1)
  writes : d.writes = done
  eout : e.out = false
  earmed : e.armed = false
theorem CutInv.start (n : Int) : CutInv n (St.new.cut n) St.new 0 := ⟨rfl, rfl, by show n = n - 0; omega, by show (false || decide (n < 1)) = decide (n - 0 < 1); rw [Int.sub_zero]; rfl, rfl, rfl, rfl⟩
theorem write_arg2 (d e : St) (f : Fl) (i : Int) (bs : List Int) (ha : ¬ argOk i bs.length) : d.write f i bs = (1, d) ∧ e.write f i bs = (1, e) := by
  unfold St.write; rw [if_neg ha, if_neg ha]; exact ⟨rfl, rfl⟩
theorem CutInv.done {n done : Int} {d e : St} (h : CutInv n d e done) (f : Fl) (i : Int) (bs : List Int) (ha : argOk i bs.length) (hd : done < n) :
    d.write f i bs = (0, d.wrote f i bs) ∧ e.write f i bs = (0, e.wrote f i bs) ∧ CutInv n (d.wrote f i bs) (e.wrote f i bs) (done + 1) := by
  have ho : d.out = false := by rw [h.out]; exact decide_eq_false (by omega)
  refine ⟨by unfold St.write; rw [if_pos ha, ho]; rfl, by unfold St.write; rw [if_pos ha, h.eout]; rfl, ⟨?_, h.armed, ?_, ?_, ?_, ?_, h.earmed⟩⟩
  · show put d.l f i bs = put e.l f i bs; rw [h.l]
  · show (if d.armed = true then d.left - 1 else d.left) = _; rw [if_pos h.armed, h.left]; omega
  · show (d.armed && decide (d.left - 1 ≤ 0)) = _
    rw [h.armed, h.left, Bool.true_and]
    exact decide_eq_decide.2 (by omega)
  · show d.writes + 1 = done + 1; rw [h.writes]
  · show (e.armed && _) = false; rw [h.earmed]; rfl
theorem CutInv.down {n done : Int} {d e : St} (h : CutInv n d e done) (f : Fl) (i : Int) (bs : List Int) (ha : argOk i bs.length) (hd : ¬ done < n) : d.write f i bs = (8, d) := by
  have ho : d.out = true := by rw [h.out]; exact decide_eq_true (by omega)
  unfold St.write; rw [if_pos ha, if_pos ho]
theorem CutInv.reads {n done : Int} {d e : St} (h : CutInv n d e done) (f : Fl) (i : Int) : d.up.read f i = e.read f i := by
  unfold St.read
  show (if 0 ≤ i ∧ i < 4096 then (if false = true then _ else (0, (has d.l f i).getD _)) else _) = _
  rw [h.eout, h.l]

/-! ### files -/
theorem len_file {l : List Bk} (h : Good l) {f : Fl} (hf : f ∈ filesOf (at_ l)) : 1 ≤ lenOf (at_ l) f ∧ lenOf (at_ l) f ≤ 4096 := by
  obtain ⟨i, hi⟩ := (mem_files _ _).1 hf
  have h1 := lenOf_le hi
  have h0 := h.at_ _ hi
  refine ⟨by have := h0.1; simp only at this; omega, ?_⟩
  rcases lenOf_is (f := f) (fun q hq => (h.at_ q hq).1) with ⟨e, _⟩ | ⟨j, hj, e⟩
  · omega
  · have := (h.at_ _ hj).2
    simp only at this
    omega
theorem len_pos {l : List Bk} (h : Good l) (f : Fl) : 0 < lenOf (at_ l) f ↔ f ∈ filesOf (at_ l) := by
  rw [mem_files]
  constructor
  · intro hp
    rcases lenOf_is (f := f) (fun q hq => (h.at_ q hq).1) with ⟨e, _⟩ | ⟨j, hj, _⟩
    · omega
    · exact ⟨j, hj⟩
  · rintro ⟨i, hi⟩
    have h1 := lenOf_le hi
    have := (h.at_ _ hi).1
    simp only at this
    omega
theorem files_next {l : List (Fl × Int)} {k : Nat} (hk : k + 1 < (filesOf l).length) : Lt (filesOf l)[k] (filesOf l)[k + 1] := List.pairwise_iff_getElem.1 (files_rise l) k (k + 1) (by omega) hk (by omega)

/-! ### what was written -/
theorem Good.write {S : St} (h : Good S.l) (f : Fl) (i : Int) (bs : List Int) : Good (S.write f i bs).2.l := by
  unfold St.write
  split
  · rename_i ha
    split
    · exact h
    · exact h.put ha
  · exact h
/-- With the power there: it stays, each write that may be counts, and the block is there. -/
theorem write_on {S : St} (ho : S.out = false) (ha : S.armed = false) (f : Fl) (i : Int) (bs : List Int) : (S.write f i bs).2.out = false ∧ (S.write f i bs).2.armed = false ∧ ((S.write f i bs).1 = 0 ↔ argOk i bs.length) ∧ (S.write f i bs).2.writes = S.writes + (if argOk i bs.length then 1 else 0) := by
  unfold St.write
  by_cases h : argOk i bs.length
  · rw [if_pos h, ho, if_pos h]
    refine ⟨?_, ha, ⟨fun _ => h, fun _ => rfl⟩, rfl⟩
    show (S.armed && _) = false
    rw [ha]; rfl
  · rw [if_neg h, if_neg h]
    refine ⟨ho, ha, ⟨fun e => ?_, fun e => absurd e h⟩, by show S.writes = S.writes + 0; omega⟩
    cases e
theorem has_write {S : St} (f g : Fl) (i j : Int) (bs : List Int) (h : ¬ (f = g ∧ i = j ∧ bs.length = 32)) (hn : has S.l g j = none) : has (S.write f i bs).2.l g j = none := by
  unfold St.write
  split
  · rename_i ha
    split
    · exact hn
    · show has (put S.l f i bs) g j = none
      rw [has_put_other _ _ _ _ _ _ (fun e => h ⟨e.1, e.2, ha.2.2⟩)]
      exact hn
  · exact hn
end Go.Proofs.Ytfpcfgfpebdplaa
