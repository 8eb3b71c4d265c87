/-
  Fill and Top of the program.
-/
import Derived.Test.YtajjaeaknonmfaaCCells
namespace Go.Proofs.Ytajjaeaknonmfaa.C
open Go.RowKit

theorem len71 : Try.prog.arrayLen 71 = 32768 := by kernel_rfl
theorem under71 : Try.prog.underlying 71 = some (.array (Try.prog.arrayLen 71) (Try.prog.elem 71)) := by kernel_rfl
theorem elem71 : Try.prog.elem 71 = 5 := by kernel_rfl
theorem sizeOf5 (w : World) : (sizeOf 5).run Try.prog w = .ok 1 w := by kernel_rfl
theorem slice_part (g S N : Nat) (h0 : 0 < N) (h1 : S + N ≤ 32768) (w : World) :
    (Instr.sliceAt 71 (.pointer (some ⟨g, 0, none⟩)) (some (.int .i64 (S : Int))) (some (.int .i64 ((S : Int) + (N : Int)))) none).run Try.prog w = .ok (.slice (some ⟨g, S, none⟩) N (32768 - S)) w := by
  rw [run_sliceAt_array_lh w 71 ⟨g, 0, none⟩ under71 .i64 .i64 S (S + N) (by omega) (by omega) (by rw [len71]; omega), elem71, sizeOf5, Result.andThen_ok, len71]
  unfold slicedAt
  rw [if_neg (by omega), Int.toNat_natCast, show ((S : Int) + (N : Int)).toNat = S + N by omega, Nat.add_sub_cancel_left, Addr.add_mid, Nat.zero_add, Nat.mul_one]

end Go.Proofs.Ytajjaeaknonmfaa.C