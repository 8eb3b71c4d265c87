/-
  Plain: a vein that is laid into a chunk, cell by cell.
-/
import Derived.Test.YtbcadklodjdokaaPcells
set_option maxRecDepth 20000
namespace Go.Proofs.Ytbcadklodjdokaa
open C G Go.RowKit

def layS (cx cz o : Int) (cs : List Int) (x y z : Int) : List Int := if (x / 16 = cx ∧ z / 16 = cz) ∧ getC cs (indexN x y z) = 1 then setC cs (indexN x y z) o else cs
def layL {mx my mz r : Int} (cx cz o : Int) (cs : List Int) (xs : List (VC mx my mz r)) : List Int := xs.foldl (fun cs p => layS cx cz o cs p.x p.y p.z) cs
theorem layL_snoc {mx my mz r : Int} (cx cz o : Int) (cs : List Int) (xs : List (VC mx my mz r)) (p : VC mx my mz r) : layL cx cz o cs (xs ++ [p]) = layS cx cz o (layL cx cz o cs xs) p.x p.y p.z := by
  unfold layL; rw [List.foldl_append]; rfl
theorem layS_len (cx cz o : Int) (cs : List Int) (x y z : Int) : (layS cx cz o cs x y z).length = cs.length := by
  unfold layS; split
  · exact setC_length _ _ _
  · rfl
theorem layL_len {mx my mz r : Int} (cx cz o : Int) : ∀ (xs : List (VC mx my mz r)) (cs : List Int), (layL cx cz o cs xs).length = cs.length
  | [], _ => rfl
  | p :: xs, cs => by
    show (layL cx cz o (layS cx cz o cs p.x p.y p.z) xs).length = _
    rw [layL_len cx cz o xs, layS_len]
/-- A cell has the place i of the chunk. -/
def atP (cx cz x y z : Int) (i : Nat) : Prop := (x / 16 = cx ∧ z / 16 = cz) ∧ indexN x y z = (i : Int)
theorem layS_at {cx cz o : Int} {cs : List Int} {x y z : Int} (ho : 0 ≤ o ∧ o ≤ 16) (hl : cs.length = 32768) {i : Nat} (hi : i < 32768) :
    (atP cx cz x y z i ∧ cs.getD i 0 = 1 ∧ (layS cx cz o cs x y z).getD i 0 = o) ∨ (¬ (atP cx cz x y z i ∧ cs.getD i 0 = 1) ∧ (layS cx cz o cs x y z).getD i 0 = cs.getD i 0) := by
  by_cases h1 : x / 16 = cx ∧ z / 16 = cz
  case neg => exact .inr ⟨fun h => h1 h.1.1, by unfold layS; rw [if_neg (fun h => h1 h.1)]⟩
  by_cases h2 : 0 ≤ indexN x y z ∧ indexN x y z < 32768
  case neg =>
    refine .inr ⟨fun h => h2 (by rw [h.1.2]; omega), ?_⟩
    unfold layS getC
    rw [if_neg h2, if_neg (fun h => by have := h.2; omega)]
  obtain ⟨j, hj⟩ : ∃ j : Nat, indexN x y z = (j : Int) := ⟨(indexN x y z).toNat, by omega⟩
  have hg : getC cs (indexN x y z) = cs.getD j 0 := by unfold getC; rw [if_pos h2, hj]; rfl
  have hs : setC cs (indexN x y z) o = cs.set j o := by unfold setC okSet; rw [if_pos (by simp; omega), hj]; rfl
  by_cases h3 : cs.getD j 0 = 1
  case neg =>
    refine .inr ⟨fun h => h3 ?_, by unfold layS; rw [hg, if_neg (fun h => h3 h.2)]⟩
    have e := h.1.2
    rw [hj] at e
    have : j = i := by omega
    rw [this]; exact h.2
  have e : layS cx cz o cs x y z = cs.set j o := by unfold layS; rw [hg, if_pos ⟨h1, h3⟩, hs]
  by_cases h4 : j = i
  · subst h4
    exact .inl ⟨⟨h1, hj⟩, h3, by rw [e, C.getD_set_self cs j o (by omega)]⟩
  · exact .inr ⟨fun h => h4 (by have := h.1.2; rw [hj] at this; omega), by rw [e, C.getD_set_ne cs o h4]⟩
theorem layL_at {mx my mz r cx cz o : Int} (ho : 2 ≤ o ∧ o ≤ 16) {i : Nat} (hi : i < 32768) : ∀ (xs : List (VC mx my mz r)) (cs : List Int), cs.length = 32768 →
    (((∃ p ∈ xs, atP cx cz p.x p.y p.z i) ∧ cs.getD i 0 = 1) ∧ (layL cx cz o cs xs).getD i 0 = o) ∨ (¬ ((∃ p ∈ xs, atP cx cz p.x p.y p.z i) ∧ cs.getD i 0 = 1) ∧ (layL cx cz o cs xs).getD i 0 = cs.getD i 0)
  | [], cs, _ => .inr ⟨fun h => (by obtain ⟨⟨p, hp, _⟩, _⟩ := h; cases hp), rfl⟩
  | p :: xs, cs, hl => by
    have ih := layL_at (cx := cx) (cz := cz) ho hi xs (layS cx cz o cs p.x p.y p.z) (by rw [layS_len, hl])
    have e : layL cx cz o cs (p :: xs) = layL cx cz o (layS cx cz o cs p.x p.y p.z) xs := rfl
    rw [e]
    rcases layS_at (cx := cx) (cz := cz) (o := o) (cs := cs) (x := p.x) (y := p.y) (z := p.z) (by omega) hl hi with ⟨h1, h2, h3⟩ | ⟨h1, h2⟩
    · refine .inl ⟨⟨⟨p, List.mem_cons_self, h1⟩, h2⟩, ?_⟩
      rcases ih with ⟨h4, h5⟩ | ⟨_, h5⟩
      · exact h5
      · rw [h5, h3]
    · rw [h2] at ih
      rcases ih with ⟨⟨⟨q, hq, h4⟩, h5⟩, h6⟩ | ⟨h4, h5⟩
      · exact .inl ⟨⟨⟨q, List.mem_cons_of_mem _ hq, h4⟩, h5⟩, h6⟩
      · refine .inr ⟨fun h => ?_, h5⟩
        obtain ⟨⟨q, hq, h6⟩, h7⟩ := h
        rcases List.mem_cons.1 hq with e | hq
        · exact h1 ⟨e ▸ h6, h7⟩
        · exact h4 ⟨⟨q, hq, h6⟩, h7⟩
/-- The chunk with a vein's ore. -/
def layAt (cx cz o mx my mz r : Int) (cs : List Int) (i : Nat) : Int := if cs.getD i 0 = 1 ∧ awayN mx my mz (cx * 16 + (i : Int) % 16) ((i : Int) / 256) (cz * 16 + (i : Int) / 16 % 16) ≤ r then o else cs.getD i 0
def layF (cx cz o mx my mz r : Int) (cs : List Int) : List Int := (List.range 32768).map (layAt cx cz o mx my mz r cs)
theorem layF_len (cx cz o mx my mz r : Int) (cs : List Int) : (layF cx cz o mx my mz r cs).length = 32768 := range_len _ 32768
theorem layF_at (cx cz o mx my mz r : Int) (cs : List Int) (i : Nat) (h : i < 32768) : (layF cx cz o mx my mz r cs).getD i 0 = layAt cx cz o mx my mz r cs i := range_getI _ 32768 i h
theorem atP_cell {cx cz x y z : Int} {i : Nat} (hi : i < 32768) (h : atP cx cz x y z i) : x = cx * 16 + (i : Int) % 16 ∧ y = (i : Int) / 256 ∧ z = cz * 16 + (i : Int) / 16 % 16 := by
  obtain ⟨⟨h1, h2⟩, h3⟩ := h
  unfold indexN at h3
  split at h3
  · refine ⟨?_, ?_, ?_⟩ <;> omega
  · omega
theorem atP_of {cx cz : Int} {i : Nat} (hi : i < 32768) : atP cx cz (cx * 16 + (i : Int) % 16) ((i : Int) / 256) (cz * 16 + (i : Int) / 16 % 16) i := by
  unfold atP indexN
  refine ⟨⟨by omega, by omega⟩, ?_⟩
  rw [if_pos (by omega)]
  omega
theorem layL_is {mx my mz r cx cz o : Int} (ho : 2 ≤ o ∧ o ≤ 16) {xs : List (VC mx my mz r)} (hx : AllV mx my mz r xs) {cs : List Int} (hl : cs.length = 32768) : layL cx cz o cs xs = layF cx cz o mx my mz r cs := by
  refine C.getD_ext (by rw [layL_len, layF_len, hl]) fun i hi => ?_
  rw [layL_len, hl] at hi
  rw [layF_at _ _ _ _ _ _ _ _ _ hi]
  unfold layAt
  rcases layL_at (cx := cx) (cz := cz) ho hi xs cs hl with ⟨⟨⟨p, hp, h1⟩, h2⟩, h3⟩ | ⟨h1, h2⟩
  · obtain ⟨e1, e2, e3⟩ := atP_cell hi h1
    rw [h3, if_pos ⟨h2, by rw [← e1, ← e2, ← e3]; exact p.h⟩]
  · rw [h2, if_neg]
    rintro ⟨h3, h4⟩
    obtain ⟨p, hp, e1, e2, e3⟩ := hx _ _ _ h4
    exact h1 ⟨⟨p, hp, by rw [e1, e2, e3]; exact atP_of hi⟩, h3⟩
theorem layAt_kind {cx cz o mx my mz r : Int} (ho : 2 ≤ o ∧ o ≤ 16) {cs : List Int} (hk : Kinds cs) (i : Nat) : 0 ≤ layAt cx cz o mx my mz r cs i ∧ layAt cx cz o mx my mz r cs i ≤ 16 := by
  have := hk.at i
  unfold layAt
  split <;> omega
theorem layF_kinds {cx cz o mx my mz r : Int} (ho : 2 ≤ o ∧ o ≤ 16) {cs : List Int} (hk : Kinds cs) : Kinds (layF cx cz o mx my mz r cs) := fun x hx => by
  unfold layF at hx
  obtain ⟨i, _, rfl⟩ := List.mem_map.1 hx
  exact layAt_kind ho hk i
theorem setC_kinds {cs : List Int} (hk : Kinds cs) (i k : Int) : Kinds (setC cs i k) := by
  unfold setC okSet
  split
  · rename_i h
    simp only [decide_eq_true_eq] at h
    intro x hx
    rcases List.mem_or_eq_of_mem_set hx with h1 | h1
    · exact hk x h1
    · omega
  · exact hk
theorem layL_kinds {mx my mz r cx cz o : Int} : ∀ (xs : List (VC mx my mz r)) (cs : List Int), Kinds cs → Kinds (layL cx cz o cs xs)
  | [], _, h => h
  | p :: xs, cs, h => by
    show Kinds (layL cx cz o (layS cx cz o cs p.x p.y p.z) xs)
    refine layL_kinds xs _ ?_
    unfold layS
    split
    · exact setC_kinds h _ _
    · exact h
theorem VC.near {mx my mz r : Int} (p : VC mx my mz r) : (-r ≤ mx - p.x ∧ mx - p.x ≤ r) ∧ (-r ≤ my - p.y ∧ my - p.y ≤ r) ∧ -r ≤ mz - p.z ∧ mz - p.z ≤ r := awayN_le p.h
end Go.Proofs.Ytbcadklodjdokaa
