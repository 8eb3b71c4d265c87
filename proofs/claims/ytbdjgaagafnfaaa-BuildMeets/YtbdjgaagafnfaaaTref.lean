/-
  Plain: what a cell of a column is of, and a chunk of columns.
  The document's At: what a cell is of.
-/
import Derived.Test.YtbdjgaagafnfaaaProg
import Derived.WalkKit
import Derived.WalkLawsBesides
import Derived.WalkSpells
import Derived.Below
import Derived.Deep.MidRow
import Derived.Lib.Walk
import Derived.StillTailTactics
set_option maxRecDepth 20000
namespace Go.Proofs.Ytbdjgaagafnfaaa
section
/-- What a cell is of (P14.1). -/
def atN (h b y : Int) : Int :=
  if h < 0 ∨ 127 < h ∨ y < 0 ∨ 127 < y ∨ b < 0 ∨ 3 < b then 0
  else if y = 0 then 15
  else if h < y then (if y ≤ 44 then 5 else 0)
  else if y < h - 3 then 1
  else if b = 2 then 4
  else if b = 3 then (if y = h ∧ h ≤ 70 then 6 else 1)
  else if y = h ∧ 44 ≤ h then 3 else 2
theorem atN_bd (h b y : Int) : 0 ≤ atN h b y ∧ atN h b y ≤ 15 := by unfold atN; split <;> (try split) <;> (try split) <;> (try split) <;> (try split) <;> (try split) <;> (try split) <;> omega
theorem atN_out {h b y : Int} (hx : h < 0 ∨ 127 < h ∨ y < 0 ∨ 127 < y ∨ b < 0 ∨ 3 < b) : atN h b y = 0 := if_pos hx
/-- The columns may be. -/
def okCols (H B : List Int) : Prop := H.length = 256 ∧ B.length = 256 ∧ ∀ i, i < 256 → (0 ≤ H.getD i 0 ∧ H.getD i 0 ≤ 127) ∧ 0 ≤ B.getD i 0 ∧ B.getD i 0 ≤ 3
/-- The cells of a chunk of columns (P14.2). -/
def fillN (H B : List Int) : List Int := (List.range 32768).map fun i => atN (H.getD (i % 256) 0) (B.getD (i % 256) 0) ((i / 256 : Nat) : Int)
theorem fillN_len (H B : List Int) : (fillN H B).length = 32768 := by simp [fillN]
theorem range_getD (f : Nat → Int) (n j : Nat) (h : j < n) : ((List.range n).map f).getD j 0 = f j := by
  rw [List.getD_eq_getElem?_getD, List.getElem?_map, List.getElem?_range h]
  rfl
theorem fillN_at (H B : List Int) (j : Nat) (h : j < 32768) : (fillN H B).getD j 0 = atN (H.getD (j % 256) 0) (B.getD (j % 256) 0) ((j / 256 : Nat) : Int) := range_getD _ 32768 j h
theorem range_all (f : Nat → Int) (p : Int → Prop) (n : Nat) (h : ∀ i, p (f i)) : ∀ x ∈ (List.range n).map f, p x := by
  intro x hx
  obtain ⟨i, _, rfl⟩ := List.mem_map.1 hx
  exact h i
theorem fillN_bd (H B : List Int) : ∀ x ∈ fillN H B, 0 ≤ x ∧ x ≤ 16 := range_all _ _ 32768 fun i => by
  have := atN_bd (H.getD (i % 256) 0) (B.getD (i % 256) 0) ((i / 256 : Nat) : Int)
  omega
end
section
open Go.RowKit
end
end Go.Proofs.Ytbdjgaagafnfaaa
