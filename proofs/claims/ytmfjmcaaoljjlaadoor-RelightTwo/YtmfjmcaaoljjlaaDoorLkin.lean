/-
  The document's kinds, as light asks them.
-/
import Derived.Test.YtmfjmcaaoljjlaaDoorLRl
import Derived.Test.YtmfjmcaaoljjlaaDoorCPures
import Derived.BigQuiet
import Derived.StillTailTactics
import Derived.Deep.QuietTactic
import Derived.Lib.Walk
set_option maxRecDepth 20000
namespace Go.Proofs.YtmfjmcaaoljjlaaDoor
open C Go.RowKit L

theorem kinds17 {k : Int} (h : 0 ≤ k ∧ k ≤ 16) : k = 0 ∨ k = 1 ∨ k = 2 ∨ k = 3 ∨ k = 4 ∨ k = 5 ∨ k = 6 ∨ k = 7 ∨ k = 8 ∨ k = 9 ∨ k = 10 ∨ k = 11 ∨ k = 12 ∨ k = 13 ∨ k = 14 ∨ k = 15 ∨ k = 16 := by omega
set_option maxHeartbeats 1000000 in
theorem rloss_c (k : Int) (h : 0 ≤ k ∧ k ≤ 16) (w : World) : Calls Tryd.prog 36 #[.int .i64 k] w fun e w' => e = .returned (.int .i64 (lossK k : Nat)) ∧ w' = w := by
  rcases kinds17 h with rfl | rfl | rfl | rfl | rfl | rfl | rfl | rfl | rfl | rfl | rfl | rfl | rfl | rfl | rfl | rfl | rfl <;>
    (go_enter Tryd.func36, Tryd.ntmps36; go_wp2; go_ret; exact ⟨rfl, rfl⟩)
set_option maxHeartbeats 1000000 in
theorem remits_c (k : Int) (h : 0 ≤ k ∧ k ≤ 16) (w : World) : Calls Tryd.prog 33 #[.int .i64 k] w fun e w' => e = .returned (.int .i64 (emitsK k : Nat)) ∧ w' = w := by
  rcases kinds17 h with rfl | rfl | rfl | rfl | rfl | rfl | rfl | rfl | rfl | rfl | rfl | rfl | rfl | rfl | rfl | rfl | rfl <;>
    (go_enter Tryd.func33, Tryd.ntmps33; go_wp2; go_ret; exact ⟨rfl, rfl⟩)
set_option maxHeartbeats 1000000 in
theorem rclear_c (k : Int) (h : 0 ≤ k ∧ k ≤ 16) (w : World) : Calls Tryd.prog 32 #[.int .i64 k] w fun e w' => e = .returned (.bool (clearK k)) ∧ w' = w := by
  rcases kinds17 h with rfl | rfl | rfl | rfl | rfl | rfl | rfl | rfl | rfl | rfl | rfl | rfl | rfl | rfl | rfl | rfl | rfl <;>
    (go_enter Tryd.func32, Tryd.ntmps32; go_wp2; go_ret; exact ⟨rfl, rfl⟩)
set_option maxHeartbeats 1000000 in
theorem ropaque_c (k : Int) (h : 0 ≤ k ∧ k ≤ 16) (w : World) : Calls Tryd.prog 44 #[.int .i64 k] w fun e w' => e = .returned (.bool (decide (lossK k = 16))) ∧ w' = w := by
  have hl := rloss_c k h
  rcases kinds17 h with rfl | rfl | rfl | rfl | rfl | rfl | rfl | rfl | rfl | rfl | rfl | rfl | rfl | rfl | rfl | rfl | rfl <;>
    (go_enter Tryd.func44, Tryd.ntmps44; go_wp2_with fail; refine (hl _).mono ?_; rintro _ w1 ⟨rfl, hw⟩; subst hw; clear hl; go_wp2; go_ret; exact ⟨rfl, rfl⟩)
set_option maxHeartbeats 1000000 in
theorem rshut_c (k : Int) (h : 0 ≤ k ∧ k ≤ 16) (w : World) : Calls Tryd.prog 35 #[.int .i64 k] w fun e w' => e = .returned (.bool (!passK k)) ∧ w' = w := by
  have hl := ropaque_c k h
  rcases kinds17 h with rfl | rfl | rfl | rfl | rfl | rfl | rfl | rfl | rfl | rfl | rfl | rfl | rfl | rfl | rfl | rfl | rfl <;>
    (go_enter Tryd.func35, Tryd.ntmps35; go_wp2_with fail; refine (hl _).mono ?_; rintro _ w1 ⟨rfl, hw⟩; subst hw; clear hl; go_wp2; go_ret; exact ⟨rfl, rfl⟩)
end Go.Proofs.YtmfjmcaaoljjlaaDoor
