/-
  The cells as a slice, whether there is such a place, Get and Set of the program.
  Fill and Top of the program.
-/
import Derived.Test.YtjeapaojbkicmabDoorCTops
namespace Go.Proofs.YtjeapaojbkicmabDoor.C
section
open Go.RowKit

theorem all_c (g : Nat) (w : World) :
    Calls Tryd.prog 38 #[.pointer (some ⟨g, 0, none⟩)] w fun e w' => e = .returned (.slice (some ⟨g, 0, none⟩) 32768 32768) ∧ w' = w := by
  go_enter Tryd.func38, Tryd.ntmps38
  go_wp2
  go_ret
  exact ⟨rfl, rfl⟩
end
section
open Go.RowKit

theorem len49 : Tryd.prog.arrayLen 49 = 32768 := by kernel_rfl
theorem under49 : Tryd.prog.underlying 49 = some (.array (Tryd.prog.arrayLen 49) (Tryd.prog.elem 49)) := by kernel_rfl
theorem elem49 : Tryd.prog.elem 49 = 5 := by kernel_rfl
theorem sizeOf5 (w : World) : (sizeOf 5).run Tryd.prog w = .ok 1 w := by kernel_rfl
theorem slice_part (g S N : Nat) (h0 : 0 < N) (h1 : S + N ≤ 32768) (w : World) :
    (Instr.sliceAt 49 (.pointer (some ⟨g, 0, none⟩)) (some (.int .i64 (S : Int))) (some (.int .i64 ((S : Int) + (N : Int)))) none).run Tryd.prog w = .ok (.slice (some ⟨g, S, none⟩) N (32768 - S)) w := by
  rw [run_sliceAt_array_lh w 49 ⟨g, 0, none⟩ under49 .i64 .i64 S (S + N) (by omega) (by omega) (by rw [len49]; omega), elem49, sizeOf5, Result.andThen_ok, len49]
  unfold slicedAt
  rw [if_neg (by omega), Int.toNat_natCast, show ((S : Int) + (N : Int)).toNat = S + N by omega, Nat.add_sub_cancel_left, Addr.add_mid, Nat.zero_add, Nat.mul_one]
end
end Go.Proofs.YtjeapaojbkicmabDoor.C
