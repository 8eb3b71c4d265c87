/-
  The chapter's examples, on lists.
-/
import Derived.Test.YtdkihhjhjfkjjaaRencp
namespace Go.Proofs.Ytdkihhjhjfkjjaa
open Go.RowKit

theorem pal_zero : pal (List.replicate 32768 0) = [0] := by
  have hZ : ∀ x : Int, x ∈ List.replicate 32768 (0 : Int) ↔ x = 0 := fun x => by rw [List.mem_replicate]; exact ⟨fun h => h.2, fun h => ⟨by omega, h⟩⟩
  generalize List.replicate 32768 (0 : Int) = Z at hZ
  have h : ∀ k, palTo Z (k + 1) = [0] := by
    intro k
    induction k with
    | zero => unfold palTo; rw [if_pos ((hZ (((0 : Nat) : Int))).2 rfl)]; rfl
    | succ k ih => rw [palTo, if_neg (fun h => by have := (hZ _).1 h; omega), ih]
  exact h 16
theorem encR_zero : encR [0] (List.replicate 32768 0) = [128, 128, 2, 0] := by
  have hl : (List.replicate 32768 (0 : Int)).length = 32768 := List.length_replicate
  have hr : runN (0 : Int) (List.replicate 32768 0) = 32768 := runN_is 0 _ 32768 (fun t ht => by rw [List.getElem?_replicate, if_pos ht]) (by rw [List.getElem?_eq_none (by rw [hl]; exact Nat.le_refl _)]; intro h; cases h)
  have h := (encR_step [0] (List.replicate 32768 0) 0 32768 (by rw [hl]; omega) (by rw [List.drop_zero, List.getElem_replicate]; exact hr)).2
  rw [List.drop_zero, Nat.zero_add, List.drop_eq_nil_of_le (by rw [hl]; exact Nat.le_refl _), List.getElem_replicate] at h
  rw [h, encR_nil]
  decide
theorem enc_zero : encL (List.replicate 32768 0) = [1, 1, 0, 128, 128, 2, 0] := by
  unfold encL oneL
  rw [pal_zero, encR_zero, if_pos (by decide)]
  rfl
theorem dec_ex1 : decL ([1, 1, 0, 128, 128, 2, 0] ++ [0]) = (2, []) := by
  have h := runsD_step [0] 32768 32768 0 [0] (by omega) (by omega) (by omega) (by decide)
  have hp : putL ((32768 : Nat) : Int) = [128, 128, 2] := by decide
  rw [hp, Nat.sub_self, runsD_done] at h
  unfold decL
  rw [if_neg (by decide), if_neg (by decide), if_neg (by decide), if_neg (by decide), if_pos (by decide)]
  exact h.trans (by decide)
theorem dec_ex2 : decL [2, 1, 3] = (3, []) := by
  unfold decL
  rw [if_neg (by decide), if_neg (by decide), if_neg (by decide), if_neg (by decide), if_neg (by decide)]
  exact packD_short (by decide)
theorem dec_ex3 : decL [3, 1, 0, 0] = (4, []) := by
  unfold decL
  rw [if_neg (by decide), if_pos (by decide)]
theorem dec_ex4 : decL [1, 2, 5, 5, 0] = (4, []) := by
  unfold decL
  rw [if_neg (by decide), if_neg (by decide), if_neg (by decide), if_pos (by decide)]
end Go.Proofs.Ytdkihhjhjfkjjaa
