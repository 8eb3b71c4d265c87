/-
  Fill and Top of the program.
-/
import Derived.Test.YtdkihhjhjfkjjaaCells
namespace Go.Proofs.Ytdkihhjhjfkjjaa
open Go.RowKit

theorem len59 : Try.prog.arrayLen 59 = 32768 := by kernel_rfl
theorem under59 : Try.prog.underlying 59 = some (.array (Try.prog.arrayLen 59) (Try.prog.elem 59)) := by kernel_rfl
theorem elem59 : Try.prog.elem 59 = 5 := by kernel_rfl
theorem sizeOf5 (w : World) : (sizeOf 5).run Try.prog w = .ok 1 w := by kernel_rfl
theorem slice_part (g S N : Nat) (h0 : 0 < N) (h1 : S + N ≤ 32768) (w : World) :
    (Instr.sliceAt 59 (.pointer (some ⟨g, 0, none⟩)) (some (.int .i64 (S : Int))) (some (.int .i64 ((S : Int) + (N : Int)))) none).run Try.prog w = .ok (.slice (some ⟨g, S, none⟩) N (32768 - S)) w := by
  rw [run_sliceAt_array_lh w 59 ⟨g, 0, none⟩ under59 .i64 .i64 S (S + N) (by omega) (by omega) (by rw [len59]; omega), elem59, sizeOf5, Result.andThen_ok, len59]
  unfold slicedAt
  rw [if_neg (by omega), Int.toNat_natCast, show ((S : Int) + (N : Int)).toNat = S + N by omega, Nat.add_sub_cancel_left, Addr.add_mid, Nat.zero_add, Nat.mul_one]

end Go.Proofs.Ytdkihhjhjfkjjaa
