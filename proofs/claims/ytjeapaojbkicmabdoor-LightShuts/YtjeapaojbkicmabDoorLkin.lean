/-
  The document's kinds, as light asks them.
-/
import Derived.Test.YtjeapaojbkicmabDoorLLaws
import Derived.Test.YtjeapaojbkicmabDoorCPures
import Derived.BigQuiet
import Derived.StillTailTactics
import Derived.Deep.QuietTactic
import Derived.Lib.Walk
set_option maxRecDepth 20000
namespace Go.Proofs.YtjeapaojbkicmabDoor
open C Go.RowKit L

theorem kinds17 {k : Int} (h : 0 ≤ k ∧ k ≤ 16) : k = 0 ∨ k = 1 ∨ k = 2 ∨ k = 3 ∨ k = 4 ∨ k = 5 ∨ k = 6 ∨ k = 7 ∨ k = 8 ∨ k = 9 ∨ k = 10 ∨ k = 11 ∨ k = 12 ∨ k = 13 ∨ k = 14 ∨ k = 15 ∨ k = 16 := by omega
set_option maxHeartbeats 1000000 in
theorem rloss_c (k : Int) (h : 0 ≤ k ∧ k ≤ 16) (w : World) : Calls Tryd.prog 20 #[.int .i64 k] w fun e w' => e = .returned (.int .i64 (lossK k : Nat)) ∧ w' = w := by
  rcases kinds17 h with rfl | rfl | rfl | rfl | rfl | rfl | rfl | rfl | rfl | rfl | rfl | rfl | rfl | rfl | rfl | rfl | rfl <;>
    (go_enter Tryd.func20, Tryd.ntmps20; go_wp2; go_ret; exact ⟨rfl, rfl⟩)
set_option maxHeartbeats 1000000 in
theorem remits_c (k : Int) (h : 0 ≤ k ∧ k ≤ 16) (w : World) : Calls Tryd.prog 9 #[.int .i64 k] w fun e w' => e = .returned (.int .i64 (emitsK k : Nat)) ∧ w' = w := by
  rcases kinds17 h with rfl | rfl | rfl | rfl | rfl | rfl | rfl | rfl | rfl | rfl | rfl | rfl | rfl | rfl | rfl | rfl | rfl <;>
    (go_enter Tryd.func9, Tryd.ntmps9; go_wp2; go_ret; exact ⟨rfl, rfl⟩)
set_option maxHeartbeats 1000000 in
theorem ropaque_c (k : Int) (h : 0 ≤ k ∧ k ≤ 16) (w : World) : Calls Tryd.prog 8 #[.int .i64 k] w fun e w' => e = .returned (.bool (decide (lossK k = 16))) ∧ w' = w := by
  have hl := rloss_c k h
  rcases kinds17 h with rfl | rfl | rfl | rfl | rfl | rfl | rfl | rfl | rfl | rfl | rfl | rfl | rfl | rfl | rfl | rfl | rfl <;>
    (go_enter Tryd.func8, Tryd.ntmps8; go_wp2_with fail; refine (hl _).mono ?_; rintro _ w1 ⟨rfl, hw⟩; subst hw; clear hl; go_wp2; go_ret; exact ⟨rfl, rfl⟩)
end Go.Proofs.YtjeapaojbkicmabDoor
