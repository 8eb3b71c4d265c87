/-
  What the document's Hash, and Below of both, answer, for every number; the document's Hash leaves one new block behind it.
-/
import Derived.Test.YtcefiejbfnakeabMixes
import Derived.Below
namespace Go.Proofs.Ytcefiejbfnakeab
open Go.RowKit

theorem belowN_out (h : Nat) (n : Int) (hn : n < 1 ∨ 2147483647 < n) : belowN h n = 0 := by unfold belowN; rw [if_pos hn]
theorem belowN_in (h : Nat) (n : Int) (h1 : ¬ n < 1) (h2 : ¬ 2147483647 < n) : belowN h n = (h : Int) / 4294967296 * n / 4294967296 := by unfold belowN; rw [if_neg (by omega)]
theorem high_bd (h : Nat) (hh : h < 18446744073709551616) : 0 ≤ (h : Int) / 4294967296 ∧ (h : Int) / 4294967296 ≤ 4294967295 := by omega
theorem go_below (A n : Int) (a0 : 0 ≤ A) (a1 : A ≤ 4294967295) (h1 : ¬ n < 1) (h2 : ¬ 2147483647 < n) : wrap64 (IntKind.u64.wrap (A * n) / 4294967296) = A * n / 4294967296 := by
  have m0 : 0 ≤ A * n := Int.mul_nonneg a0 (by omega)
  have m1 : A * n ≤ 4294967295 * 2147483647 := Int.mul_le_mul a1 (by omega) (by omega) (by omega)
  rw [IntKind.wrap_u64]
  generalize A * n = p at *
  rw [Int.emod_eq_of_lt m0 (by omega)]
  unfold wrap64
  omega
set_option maxHeartbeats 400000 in
theorem below_any (h : Nat) (n : Int) (w : World) (hh : h < 18446744073709551616) (_hn : -9223372036854775808 ≤ n ∧ n ≤ 9223372036854775807) :
    Calls Try.prog 6 #[.int .u64 h, .int .i64 n] w fun e w' => e = .returned (.int .i64 (belowN h n)) ∧ w' = w := by
  by_cases h1 : n < 1
  · have HB : Hid (belowN h n = 0) := belowN_out h n (.inl h1)
    go_enter Try.func6, Try.ntmps6
    go_wp2
    go_ret
    exact ⟨ret_int (by rw [HB.out]), rfl⟩
  · by_cases h2 : 2147483647 < n
    · have HB : Hid (belowN h n = 0) := belowN_out h n (.inr h2)
      go_enter Try.func6, Try.ntmps6
      go_wp2
      go_ret
      exact ⟨ret_int (by rw [HB.out]), rfl⟩
    · have HB : Hid (wrap64 (IntKind.u64.wrap ((h : Int) / 4294967296 * n) / 4294967296) = belowN h n) := by
        show _ = _
        rw [belowN_in h n h1 h2]
        exact go_below _ n (high_bd h hh).1 (high_bd h hh).2 h1 h2
      go_enter Try.func6, Try.ntmps6
      go_wp2
      go_ret
      exact ⟨ret_int HB.out, rfl⟩
end Go.Proofs.Ytcefiejbfnakeab
