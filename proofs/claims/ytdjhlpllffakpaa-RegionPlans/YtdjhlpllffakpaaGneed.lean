/-
  The document's Need; what the law's writes does.
-/
import Derived.Test.YtdjhlpllffakpaaGspec
set_option maxRecDepth 20000
namespace Go.Proofs.Ytdjhlpllffakpaa
open Go.RowKit

set_option maxHeartbeats 1000000 in
theorem rneed_c (n : Int) (hn : I64 n) (w : World) : Calls Try.prog 11 #[.int .i64 n] w fun e w' => e = .returned (.int .i64 (needI n)) ∧ w' = w := by
  obtain ⟨h1, h2⟩ := hn
  by_cases h : n < 1
  · have e : needI n = 0 := by unfold needI; rw [if_pos h]
    rw [e]
    go_enter Try.func11, Try.ntmps11
    go_wp2
    go_ret
    exact ⟨rfl, rfl⟩
  · have e : needI n = (n - 1) / 32 + 1 := by unfold needI; rw [if_neg h]
    have et : (n - 1).tdiv 32 = (n - 1) / 32 := Int.tdiv_eq_ediv_of_nonneg (by omega)
    rw [e]
    go_enter Try.func11, Try.ntmps11
    go_wp2
    go_ret
    exact ⟨by first | rfl | (rw [et]), rfl⟩
end Go.Proofs.Ytdjhlpllffakpaa
