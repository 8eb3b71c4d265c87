/-
  Top and Get, of the program and of the document.
-/
import Derived.Test.YtbcadklodjdokaaCSets
namespace Go.Proofs.Ytbcadklodjdokaa.C
open Go.RowKit

/-- All cells are kinds. -/
def Kinds (cs : List Int) : Prop := ∀ x ∈ cs, 0 ≤ x ∧ x ≤ 16
theorem Kinds.at {cs : List Int} (h : Kinds cs) (j : Nat) : 0 ≤ cs.getD j 0 ∧ cs.getD j 0 ≤ 16 := by
  rw [List.getD_eq_getElem?_getD]
  rcases e : cs[j]? with _ | x
  · simp
  · exact h x (List.mem_of_getElem? e)
/-- The highest y below n whose cell, p in its layer, is neither 0 nor 16. -/
def topTo (cs : List Int) (p : Nat) : Nat → Int
  | 0 => -1
  | n + 1 => if cs.getD (n * 256 + p) 0 = 0 ∨ cs.getD (n * 256 + p) 0 = 16 then topTo cs p n else n
def okCol (x z : Int) : Bool := decide (0 ≤ x ∧ x ≤ 15 ∧ 0 ≤ z ∧ z ≤ 15)
def topC (cs : List Int) (x z : Int) : Int := if okCol x z then topTo cs (z * 16 + x).toNat 128 else -1
theorem topC_no {x z : Int} (h : ¬ (0 ≤ x ∧ x ≤ 15 ∧ 0 ≤ z ∧ z ≤ 15)) (cs : List Int) : topC cs x z = -1 := by unfold topC okCol; rw [decide_eq_false h]; rfl
theorem topC_yes {X Z : Nat} (h : X ≤ 15 ∧ Z ≤ 15) (cs : List Int) : topC cs X Z = topTo cs (Z * 16 + X) 128 := by
  unfold topC okCol
  rw [decide_eq_true (by omega), if_pos rfl, show ((Z : Int) * 16 + X).toNat = Z * 16 + X by omega]
def getC (cs : List Int) (i : Int) : Int := if 0 ≤ i ∧ i < 32768 then cs.getD i.toNat 0 else -1

end Go.Proofs.Ytbcadklodjdokaa.C