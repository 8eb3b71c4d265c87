/-
  RngRisesSaid is proved: for every two numbers of 64 bits and every two integers the statement RngRises returns true, without any condition.
-/
import Derived.Test.YtcefiejbfnakeabFrame
namespace Go.Proofs.Ytcefiejbfnakeab
open Go.ChangeShapes Go.WideShapes Go.ChangeAt Go.RowKit

theorem belowN_mono (h h' : Nat) (n : Int) (e : h ≤ h') : belowN h n ≤ belowN h' n := by
  by_cases h1 : n < 1
  · rw [belowN_out h n (.inl h1), belowN_out h' n (.inl h1)]; omega
  · by_cases h2 : 2147483647 < n
    · rw [belowN_out h n (.inr h2), belowN_out h' n (.inr h2)]; omega
    · rw [belowN_in h n h1 h2, belowN_in h' n h1 h2]
      exact Int.ediv_le_ediv (by omega) (Int.mul_le_mul_of_nonneg_right (by omega) (by omega))
/-- The least hash of which k is made. -/
theorem rise (n k : Int) (n1 : ¬ n < 1) (n2 : ¬ 1048576 < n) (k0 : ¬ k < 0) (k1 : ¬ n ≤ k) :
    ∃ Q : Nat, Q < 18446744073709551616 ∧ IntKind.u64.wrap ((k * 4294967296 + n - 1) / n * 4294967296) = (Q : Int) ∧ belowN Q n = k := by
  obtain ⟨q, eq⟩ : ∃ q, q = (k * 4294967296 + n - 1) / n := ⟨_, rfl⟩
  have q0 : 0 ≤ q := by rw [eq]; exact Int.ediv_nonneg (by omega) (by omega)
  have q1 : q * n ≤ k * 4294967296 + n - 1 := by rw [eq]; exact Int.ediv_mul_le _ (by omega)
  have q2 : k * 4294967296 + n - 1 < (q + 1) * n := by rw [eq]; exact Int.lt_ediv_add_one_mul_self _ (by omega)
  rw [Int.add_mul, Int.one_mul] at q2
  have q3 : q < 4294967296 := by
    refine Int.not_le.1 (fun h => ?_)
    have : 4294967296 * n ≤ q * n := Int.mul_le_mul_of_nonneg_right h (by omega)
    omega
  rw [← eq]
  refine ⟨(q * 4294967296).toNat, by omega, by rw [IntKind.wrap_u64]; omega, ?_⟩
  rw [belowN_in _ n n1 (by omega), show (((q * 4294967296).toNat : Nat) : Int) / 4294967296 = q by omega]
  generalize q * n = p at *
  omega

set_option maxHeartbeats 1000000 in
theorem rises_lt_in (A B : Nat) (n k : Int) (w : World) (hA : A < 18446744073709551616) (hB : B < 18446744073709551616) (h1 : A ≤ B) (h2 : ¬ B ≤ A) (hn : -9223372036854775808 ≤ n ∧ n ≤ 9223372036854775807) (n1 : ¬ n < 1) (n2 : ¬ 1048576 < n) (k0 : ¬ k < 0) (k1 : ¬ n ≤ k) :
    Calls Try.prog 3 #[.int .u64 A, .int .u64 B, .int .i64 n, .int .i64 k] w fun e w' => e = .returned (.bool true) ∧ Below w.heap.size w w' := by
  have HN : Hid (-9223372036854775808 ≤ n ∧ n ≤ 9223372036854775807) := hn
  clear hn
  obtain ⟨x, ex⟩ : ∃ x, x = belowN A n := ⟨_, rfl⟩
  have HX : Hid (x = belowN A n) := ex
  obtain ⟨y, ey⟩ : ∃ y, y = belowN B n := ⟨_, rfl⟩
  have HY : Hid (y = belowN B n) := ey
  have hxy : x ≤ y := by rw [ex, ey]; exact belowN_mono A B n h1
  clear ex ey
  obtain ⟨Q, hQ, eQ, eb⟩ := rise n k n1 n2 k0 k1
  have HQ : Hid (IntKind.u64.wrap ((k * 4294967296 + n - 1) / n * 4294967296) = (Q : Int)) := eQ
  have HE : Hid (belowN Q n = k) := eb
  clear eQ eb
  go_enter Try.func3, Try.ntmps3
  go_wp2_with fail
  refine (awake_any _).mono ?_
  rintro e w1 ⟨rfl, hb⟩
  go_wp2_with fail
  refine (below_any A n _ hA HN.out).mono ?_
  rw [← HX.out]
  rintro e w' ⟨rfl, hw⟩
  subst w'
  go_wp2_with fail
  refine (below_any B n _ hB HN.out).mono ?_
  rw [← HY.out]
  rintro e w' ⟨rfl, hw⟩
  subst w'
  go_wp2_with fail
  rw [HQ.out]
  refine (below_any Q n _ hQ HN.out).mono ?_
  rw [HE.out]
  rintro e w' ⟨rfl, hw⟩
  subst w'
  go_wp2
  go_ret
  exact ⟨rfl, hb⟩
set_option maxHeartbeats 1000000 in
theorem rises_lt_o1 (A B : Nat) (n k : Int) (w : World) (hA : A < 18446744073709551616) (hB : B < 18446744073709551616) (h1 : A ≤ B) (h2 : ¬ B ≤ A) (hn : -9223372036854775808 ≤ n ∧ n ≤ 9223372036854775807) (n1 : n < 1) :
    Calls Try.prog 3 #[.int .u64 A, .int .u64 B, .int .i64 n, .int .i64 k] w fun e w' => e = .returned (.bool true) ∧ Below w.heap.size w w' := by
  have HN : Hid (-9223372036854775808 ≤ n ∧ n ≤ 9223372036854775807) := hn
  clear hn
  obtain ⟨x, ex⟩ : ∃ x, x = belowN A n := ⟨_, rfl⟩
  have HX : Hid (x = belowN A n) := ex
  obtain ⟨y, ey⟩ : ∃ y, y = belowN B n := ⟨_, rfl⟩
  have HY : Hid (y = belowN B n) := ey
  have hxy : x ≤ y := by rw [ex, ey]; exact belowN_mono A B n h1
  clear ex ey
  go_enter Try.func3, Try.ntmps3
  go_wp2_with fail
  refine (awake_any _).mono ?_
  rintro e w1 ⟨rfl, hb⟩
  go_wp2_with fail
  refine (below_any A n _ hA HN.out).mono ?_
  rw [← HX.out]
  rintro e w' ⟨rfl, hw⟩
  subst w'
  go_wp2_with fail
  refine (below_any B n _ hB HN.out).mono ?_
  rw [← HY.out]
  rintro e w' ⟨rfl, hw⟩
  subst w'
  go_wp2
  go_ret
  exact ⟨rfl, hb⟩
set_option maxHeartbeats 1000000 in
theorem rises_lt_o2 (A B : Nat) (n k : Int) (w : World) (hA : A < 18446744073709551616) (hB : B < 18446744073709551616) (h1 : A ≤ B) (h2 : ¬ B ≤ A) (hn : -9223372036854775808 ≤ n ∧ n ≤ 9223372036854775807) (n1 : ¬ n < 1) (n2 : 1048576 < n) :
    Calls Try.prog 3 #[.int .u64 A, .int .u64 B, .int .i64 n, .int .i64 k] w fun e w' => e = .returned (.bool true) ∧ Below w.heap.size w w' := by
  have HN : Hid (-9223372036854775808 ≤ n ∧ n ≤ 9223372036854775807) := hn
  clear hn
  obtain ⟨x, ex⟩ : ∃ x, x = belowN A n := ⟨_, rfl⟩
  have HX : Hid (x = belowN A n) := ex
  obtain ⟨y, ey⟩ : ∃ y, y = belowN B n := ⟨_, rfl⟩
  have HY : Hid (y = belowN B n) := ey
  have hxy : x ≤ y := by rw [ex, ey]; exact belowN_mono A B n h1
  clear ex ey
  go_enter Try.func3, Try.ntmps3
  go_wp2_with fail
  refine (awake_any _).mono ?_
  rintro e w1 ⟨rfl, hb⟩
  go_wp2_with fail
  refine (below_any A n _ hA HN.out).mono ?_
  rw [← HX.out]
  rintro e w' ⟨rfl, hw⟩
  subst w'
  go_wp2_with fail
  refine (below_any B n _ hB HN.out).mono ?_
  rw [← HY.out]
  rintro e w' ⟨rfl, hw⟩
  subst w'
  go_wp2
  go_ret
  exact ⟨rfl, hb⟩
set_option maxHeartbeats 1000000 in
theorem rises_lt_o3 (A B : Nat) (n k : Int) (w : World) (hA : A < 18446744073709551616) (hB : B < 18446744073709551616) (h1 : A ≤ B) (h2 : ¬ B ≤ A) (hn : -9223372036854775808 ≤ n ∧ n ≤ 9223372036854775807) (n1 : ¬ n < 1) (n2 : ¬ 1048576 < n) (k0 : k < 0) :
    Calls Try.prog 3 #[.int .u64 A, .int .u64 B, .int .i64 n, .int .i64 k] w fun e w' => e = .returned (.bool true) ∧ Below w.heap.size w w' := by
  have HN : Hid (-9223372036854775808 ≤ n ∧ n ≤ 9223372036854775807) := hn
  clear hn
  obtain ⟨x, ex⟩ : ∃ x, x = belowN A n := ⟨_, rfl⟩
  have HX : Hid (x = belowN A n) := ex
  obtain ⟨y, ey⟩ : ∃ y, y = belowN B n := ⟨_, rfl⟩
  have HY : Hid (y = belowN B n) := ey
  have hxy : x ≤ y := by rw [ex, ey]; exact belowN_mono A B n h1
  clear ex ey
  go_enter Try.func3, Try.ntmps3
  go_wp2_with fail
  refine (awake_any _).mono ?_
  rintro e w1 ⟨rfl, hb⟩
  go_wp2_with fail
  refine (below_any A n _ hA HN.out).mono ?_
  rw [← HX.out]
  rintro e w' ⟨rfl, hw⟩
  subst w'
  go_wp2_with fail
  refine (below_any B n _ hB HN.out).mono ?_
  rw [← HY.out]
  rintro e w' ⟨rfl, hw⟩
  subst w'
  go_wp2
  go_ret
  exact ⟨rfl, hb⟩
set_option maxHeartbeats 1000000 in
theorem rises_lt_o4 (A B : Nat) (n k : Int) (w : World) (hA : A < 18446744073709551616) (hB : B < 18446744073709551616) (h1 : A ≤ B) (h2 : ¬ B ≤ A) (hn : -9223372036854775808 ≤ n ∧ n ≤ 9223372036854775807) (n1 : ¬ n < 1) (n2 : ¬ 1048576 < n) (k0 : ¬ k < 0) (k1 : n ≤ k) :
    Calls Try.prog 3 #[.int .u64 A, .int .u64 B, .int .i64 n, .int .i64 k] w fun e w' => e = .returned (.bool true) ∧ Below w.heap.size w w' := by
  have HN : Hid (-9223372036854775808 ≤ n ∧ n ≤ 9223372036854775807) := hn
  clear hn
  obtain ⟨x, ex⟩ : ∃ x, x = belowN A n := ⟨_, rfl⟩
  have HX : Hid (x = belowN A n) := ex
  obtain ⟨y, ey⟩ : ∃ y, y = belowN B n := ⟨_, rfl⟩
  have HY : Hid (y = belowN B n) := ey
  have hxy : x ≤ y := by rw [ex, ey]; exact belowN_mono A B n h1
  clear ex ey
  go_enter Try.func3, Try.ntmps3
  go_wp2_with fail
  refine (awake_any _).mono ?_
  rintro e w1 ⟨rfl, hb⟩
  go_wp2_with fail
  refine (below_any A n _ hA HN.out).mono ?_
  rw [← HX.out]
  rintro e w' ⟨rfl, hw⟩
  subst w'
  go_wp2_with fail
  refine (below_any B n _ hB HN.out).mono ?_
  rw [← HY.out]
  rintro e w' ⟨rfl, hw⟩
  subst w'
  go_wp2
  go_ret
  exact ⟨rfl, hb⟩
set_option maxHeartbeats 1000000 in
theorem rises_eq_in (A : Nat) (n k : Int) (w : World) (hA : A < 18446744073709551616) (hn : -9223372036854775808 ≤ n ∧ n ≤ 9223372036854775807) (n1 : ¬ n < 1) (n2 : ¬ 1048576 < n) (k0 : ¬ k < 0) (k1 : ¬ n ≤ k) :
    Calls Try.prog 3 #[.int .u64 A, .int .u64 A, .int .i64 n, .int .i64 k] w fun e w' => e = .returned (.bool true) ∧ Below w.heap.size w w' := by
  have HN : Hid (-9223372036854775808 ≤ n ∧ n ≤ 9223372036854775807) := hn
  clear hn
  obtain ⟨x, ex⟩ : ∃ x, x = belowN A n := ⟨_, rfl⟩
  have HX : Hid (x = belowN A n) := ex
  clear ex
  obtain ⟨Q, hQ, eQ, eb⟩ := rise n k n1 n2 k0 k1
  have HQ : Hid (IntKind.u64.wrap ((k * 4294967296 + n - 1) / n * 4294967296) = (Q : Int)) := eQ
  have HE : Hid (belowN Q n = k) := eb
  clear eQ eb
  go_enter Try.func3, Try.ntmps3
  go_wp2_with fail
  refine (awake_any _).mono ?_
  rintro e w1 ⟨rfl, hb⟩
  go_wp2_with fail
  refine (below_any A n _ hA HN.out).mono ?_
  rw [← HX.out]
  rintro e w' ⟨rfl, hw⟩
  subst w'
  go_wp2_with fail
  refine (below_any A n _ hA HN.out).mono ?_
  rw [← HX.out]
  rintro e w' ⟨rfl, hw⟩
  subst w'
  go_wp2_with fail
  rw [HQ.out]
  refine (below_any Q n _ hQ HN.out).mono ?_
  rw [HE.out]
  rintro e w' ⟨rfl, hw⟩
  subst w'
  go_wp2
  go_ret
  exact ⟨rfl, hb⟩
set_option maxHeartbeats 1000000 in
theorem rises_eq_o1 (A : Nat) (n k : Int) (w : World) (hA : A < 18446744073709551616) (hn : -9223372036854775808 ≤ n ∧ n ≤ 9223372036854775807) (n1 : n < 1) :
    Calls Try.prog 3 #[.int .u64 A, .int .u64 A, .int .i64 n, .int .i64 k] w fun e w' => e = .returned (.bool true) ∧ Below w.heap.size w w' := by
  have HN : Hid (-9223372036854775808 ≤ n ∧ n ≤ 9223372036854775807) := hn
  clear hn
  obtain ⟨x, ex⟩ : ∃ x, x = belowN A n := ⟨_, rfl⟩
  have HX : Hid (x = belowN A n) := ex
  clear ex
  go_enter Try.func3, Try.ntmps3
  go_wp2_with fail
  refine (awake_any _).mono ?_
  rintro e w1 ⟨rfl, hb⟩
  go_wp2_with fail
  refine (below_any A n _ hA HN.out).mono ?_
  rw [← HX.out]
  rintro e w' ⟨rfl, hw⟩
  subst w'
  go_wp2_with fail
  refine (below_any A n _ hA HN.out).mono ?_
  rw [← HX.out]
  rintro e w' ⟨rfl, hw⟩
  subst w'
  go_wp2
  go_ret
  exact ⟨rfl, hb⟩
set_option maxHeartbeats 1000000 in
theorem rises_eq_o2 (A : Nat) (n k : Int) (w : World) (hA : A < 18446744073709551616) (hn : -9223372036854775808 ≤ n ∧ n ≤ 9223372036854775807) (n1 : ¬ n < 1) (n2 : 1048576 < n) :
    Calls Try.prog 3 #[.int .u64 A, .int .u64 A, .int .i64 n, .int .i64 k] w fun e w' => e = .returned (.bool true) ∧ Below w.heap.size w w' := by
  have HN : Hid (-9223372036854775808 ≤ n ∧ n ≤ 9223372036854775807) := hn
  clear hn
  obtain ⟨x, ex⟩ : ∃ x, x = belowN A n := ⟨_, rfl⟩
  have HX : Hid (x = belowN A n) := ex
  clear ex
  go_enter Try.func3, Try.ntmps3
  go_wp2_with fail
  refine (awake_any _).mono ?_
  rintro e w1 ⟨rfl, hb⟩
  go_wp2_with fail
  refine (below_any A n _ hA HN.out).mono ?_
  rw [← HX.out]
  rintro e w' ⟨rfl, hw⟩
  subst w'
  go_wp2_with fail
  refine (below_any A n _ hA HN.out).mono ?_
  rw [← HX.out]
  rintro e w' ⟨rfl, hw⟩
  subst w'
  go_wp2
  go_ret
  exact ⟨rfl, hb⟩
set_option maxHeartbeats 1000000 in
theorem rises_eq_o3 (A : Nat) (n k : Int) (w : World) (hA : A < 18446744073709551616) (hn : -9223372036854775808 ≤ n ∧ n ≤ 9223372036854775807) (n1 : ¬ n < 1) (n2 : ¬ 1048576 < n) (k0 : k < 0) :
    Calls Try.prog 3 #[.int .u64 A, .int .u64 A, .int .i64 n, .int .i64 k] w fun e w' => e = .returned (.bool true) ∧ Below w.heap.size w w' := by
  have HN : Hid (-9223372036854775808 ≤ n ∧ n ≤ 9223372036854775807) := hn
  clear hn
  obtain ⟨x, ex⟩ : ∃ x, x = belowN A n := ⟨_, rfl⟩
  have HX : Hid (x = belowN A n) := ex
  clear ex
  go_enter Try.func3, Try.ntmps3
  go_wp2_with fail
  refine (awake_any _).mono ?_
  rintro e w1 ⟨rfl, hb⟩
  go_wp2_with fail
  refine (below_any A n _ hA HN.out).mono ?_
  rw [← HX.out]
  rintro e w' ⟨rfl, hw⟩
  subst w'
  go_wp2_with fail
  refine (below_any A n _ hA HN.out).mono ?_
  rw [← HX.out]
  rintro e w' ⟨rfl, hw⟩
  subst w'
  go_wp2
  go_ret
  exact ⟨rfl, hb⟩
set_option maxHeartbeats 1000000 in
theorem rises_eq_o4 (A : Nat) (n k : Int) (w : World) (hA : A < 18446744073709551616) (hn : -9223372036854775808 ≤ n ∧ n ≤ 9223372036854775807) (n1 : ¬ n < 1) (n2 : ¬ 1048576 < n) (k0 : ¬ k < 0) (k1 : n ≤ k) :
    Calls Try.prog 3 #[.int .u64 A, .int .u64 A, .int .i64 n, .int .i64 k] w fun e w' => e = .returned (.bool true) ∧ Below w.heap.size w w' := by
  have HN : Hid (-9223372036854775808 ≤ n ∧ n ≤ 9223372036854775807) := hn
  clear hn
  obtain ⟨x, ex⟩ : ∃ x, x = belowN A n := ⟨_, rfl⟩
  have HX : Hid (x = belowN A n) := ex
  clear ex
  go_enter Try.func3, Try.ntmps3
  go_wp2_with fail
  refine (awake_any _).mono ?_
  rintro e w1 ⟨rfl, hb⟩
  go_wp2_with fail
  refine (below_any A n _ hA HN.out).mono ?_
  rw [← HX.out]
  rintro e w' ⟨rfl, hw⟩
  subst w'
  go_wp2_with fail
  refine (below_any A n _ hA HN.out).mono ?_
  rw [← HX.out]
  rintro e w' ⟨rfl, hw⟩
  subst w'
  go_wp2
  go_ret
  exact ⟨rfl, hb⟩
set_option maxHeartbeats 1000000 in
theorem rises_gt_in (A B : Nat) (n k : Int) (w : World) (hA : A < 18446744073709551616) (hB : B < 18446744073709551616) (h1 : ¬ A ≤ B) (h2 : B ≤ A) (hn : -9223372036854775808 ≤ n ∧ n ≤ 9223372036854775807) (n1 : ¬ n < 1) (n2 : ¬ 1048576 < n) (k0 : ¬ k < 0) (k1 : ¬ n ≤ k) :
    Calls Try.prog 3 #[.int .u64 A, .int .u64 B, .int .i64 n, .int .i64 k] w fun e w' => e = .returned (.bool true) ∧ Below w.heap.size w w' := by
  have HN : Hid (-9223372036854775808 ≤ n ∧ n ≤ 9223372036854775807) := hn
  clear hn
  obtain ⟨x, ex⟩ : ∃ x, x = belowN A n := ⟨_, rfl⟩
  have HX : Hid (x = belowN A n) := ex
  obtain ⟨y, ey⟩ : ∃ y, y = belowN B n := ⟨_, rfl⟩
  have HY : Hid (y = belowN B n) := ey
  have hxy : y ≤ x := by rw [ex, ey]; exact belowN_mono B A n h2
  clear ex ey
  obtain ⟨Q, hQ, eQ, eb⟩ := rise n k n1 n2 k0 k1
  have HQ : Hid (IntKind.u64.wrap ((k * 4294967296 + n - 1) / n * 4294967296) = (Q : Int)) := eQ
  have HE : Hid (belowN Q n = k) := eb
  clear eQ eb
  go_enter Try.func3, Try.ntmps3
  go_wp2_with fail
  refine (awake_any _).mono ?_
  rintro e w1 ⟨rfl, hb⟩
  go_wp2_with fail
  refine (below_any A n _ hA HN.out).mono ?_
  rw [← HX.out]
  rintro e w' ⟨rfl, hw⟩
  subst w'
  go_wp2_with fail
  refine (below_any B n _ hB HN.out).mono ?_
  rw [← HY.out]
  rintro e w' ⟨rfl, hw⟩
  subst w'
  go_wp2_with fail
  rw [HQ.out]
  refine (below_any Q n _ hQ HN.out).mono ?_
  rw [HE.out]
  rintro e w' ⟨rfl, hw⟩
  subst w'
  go_wp2
  go_ret
  exact ⟨rfl, hb⟩
set_option maxHeartbeats 1000000 in
theorem rises_gt_o1 (A B : Nat) (n k : Int) (w : World) (hA : A < 18446744073709551616) (hB : B < 18446744073709551616) (h1 : ¬ A ≤ B) (h2 : B ≤ A) (hn : -9223372036854775808 ≤ n ∧ n ≤ 9223372036854775807) (n1 : n < 1) :
    Calls Try.prog 3 #[.int .u64 A, .int .u64 B, .int .i64 n, .int .i64 k] w fun e w' => e = .returned (.bool true) ∧ Below w.heap.size w w' := by
  have HN : Hid (-9223372036854775808 ≤ n ∧ n ≤ 9223372036854775807) := hn
  clear hn
  obtain ⟨x, ex⟩ : ∃ x, x = belowN A n := ⟨_, rfl⟩
  have HX : Hid (x = belowN A n) := ex
  obtain ⟨y, ey⟩ : ∃ y, y = belowN B n := ⟨_, rfl⟩
  have HY : Hid (y = belowN B n) := ey
  have hxy : y ≤ x := by rw [ex, ey]; exact belowN_mono B A n h2
  clear ex ey
  go_enter Try.func3, Try.ntmps3
  go_wp2_with fail
  refine (awake_any _).mono ?_
  rintro e w1 ⟨rfl, hb⟩
  go_wp2_with fail
  refine (below_any A n _ hA HN.out).mono ?_
  rw [← HX.out]
  rintro e w' ⟨rfl, hw⟩
  subst w'
  go_wp2_with fail
  refine (below_any B n _ hB HN.out).mono ?_
  rw [← HY.out]
  rintro e w' ⟨rfl, hw⟩
  subst w'
  go_wp2
  go_ret
  exact ⟨rfl, hb⟩
set_option maxHeartbeats 1000000 in
theorem rises_gt_o2 (A B : Nat) (n k : Int) (w : World) (hA : A < 18446744073709551616) (hB : B < 18446744073709551616) (h1 : ¬ A ≤ B) (h2 : B ≤ A) (hn : -9223372036854775808 ≤ n ∧ n ≤ 9223372036854775807) (n1 : ¬ n < 1) (n2 : 1048576 < n) :
    Calls Try.prog 3 #[.int .u64 A, .int .u64 B, .int .i64 n, .int .i64 k] w fun e w' => e = .returned (.bool true) ∧ Below w.heap.size w w' := by
  have HN : Hid (-9223372036854775808 ≤ n ∧ n ≤ 9223372036854775807) := hn
  clear hn
  obtain ⟨x, ex⟩ : ∃ x, x = belowN A n := ⟨_, rfl⟩
  have HX : Hid (x = belowN A n) := ex
  obtain ⟨y, ey⟩ : ∃ y, y = belowN B n := ⟨_, rfl⟩
  have HY : Hid (y = belowN B n) := ey
  have hxy : y ≤ x := by rw [ex, ey]; exact belowN_mono B A n h2
  clear ex ey
  go_enter Try.func3, Try.ntmps3
  go_wp2_with fail
  refine (awake_any _).mono ?_
  rintro e w1 ⟨rfl, hb⟩
  go_wp2_with fail
  refine (below_any A n _ hA HN.out).mono ?_
  rw [← HX.out]
  rintro e w' ⟨rfl, hw⟩
  subst w'
  go_wp2_with fail
  refine (below_any B n _ hB HN.out).mono ?_
  rw [← HY.out]
  rintro e w' ⟨rfl, hw⟩
  subst w'
  go_wp2
  go_ret
  exact ⟨rfl, hb⟩
set_option maxHeartbeats 1000000 in
theorem rises_gt_o3 (A B : Nat) (n k : Int) (w : World) (hA : A < 18446744073709551616) (hB : B < 18446744073709551616) (h1 : ¬ A ≤ B) (h2 : B ≤ A) (hn : -9223372036854775808 ≤ n ∧ n ≤ 9223372036854775807) (n1 : ¬ n < 1) (n2 : ¬ 1048576 < n) (k0 : k < 0) :
    Calls Try.prog 3 #[.int .u64 A, .int .u64 B, .int .i64 n, .int .i64 k] w fun e w' => e = .returned (.bool true) ∧ Below w.heap.size w w' := by
  have HN : Hid (-9223372036854775808 ≤ n ∧ n ≤ 9223372036854775807) := hn
  clear hn
  obtain ⟨x, ex⟩ : ∃ x, x = belowN A n := ⟨_, rfl⟩
  have HX : Hid (x = belowN A n) := ex
  obtain ⟨y, ey⟩ : ∃ y, y = belowN B n := ⟨_, rfl⟩
  have HY : Hid (y = belowN B n) := ey
  have hxy : y ≤ x := by rw [ex, ey]; exact belowN_mono B A n h2
  clear ex ey
  go_enter Try.func3, Try.ntmps3
  go_wp2_with fail
  refine (awake_any _).mono ?_
  rintro e w1 ⟨rfl, hb⟩
  go_wp2_with fail
  refine (below_any A n _ hA HN.out).mono ?_
  rw [← HX.out]
  rintro e w' ⟨rfl, hw⟩
  subst w'
  go_wp2_with fail
  refine (below_any B n _ hB HN.out).mono ?_
  rw [← HY.out]
  rintro e w' ⟨rfl, hw⟩
  subst w'
  go_wp2
  go_ret
  exact ⟨rfl, hb⟩
set_option maxHeartbeats 1000000 in
theorem rises_gt_o4 (A B : Nat) (n k : Int) (w : World) (hA : A < 18446744073709551616) (hB : B < 18446744073709551616) (h1 : ¬ A ≤ B) (h2 : B ≤ A) (hn : -9223372036854775808 ≤ n ∧ n ≤ 9223372036854775807) (n1 : ¬ n < 1) (n2 : ¬ 1048576 < n) (k0 : ¬ k < 0) (k1 : n ≤ k) :
    Calls Try.prog 3 #[.int .u64 A, .int .u64 B, .int .i64 n, .int .i64 k] w fun e w' => e = .returned (.bool true) ∧ Below w.heap.size w w' := by
  have HN : Hid (-9223372036854775808 ≤ n ∧ n ≤ 9223372036854775807) := hn
  clear hn
  obtain ⟨x, ex⟩ : ∃ x, x = belowN A n := ⟨_, rfl⟩
  have HX : Hid (x = belowN A n) := ex
  obtain ⟨y, ey⟩ : ∃ y, y = belowN B n := ⟨_, rfl⟩
  have HY : Hid (y = belowN B n) := ey
  have hxy : y ≤ x := by rw [ex, ey]; exact belowN_mono B A n h2
  clear ex ey
  go_enter Try.func3, Try.ntmps3
  go_wp2_with fail
  refine (awake_any _).mono ?_
  rintro e w1 ⟨rfl, hb⟩
  go_wp2_with fail
  refine (below_any A n _ hA HN.out).mono ?_
  rw [← HX.out]
  rintro e w' ⟨rfl, hw⟩
  subst w'
  go_wp2_with fail
  refine (below_any B n _ hB HN.out).mono ?_
  rw [← HY.out]
  rintro e w' ⟨rfl, hw⟩
  subst w'
  go_wp2
  go_ret
  exact ⟨rfl, hb⟩
theorem rngRises_walk (a b n k : Int) (w : World) (ha : 0 ≤ a ∧ a ≤ 18446744073709551615) (hb : 0 ≤ b ∧ b ≤ 18446744073709551615) (hn : -9223372036854775808 ≤ n ∧ n ≤ 9223372036854775807) :
    Calls Try.prog 3 #[.int .u64 a, .int .u64 b, .int .i64 n, .int .i64 k] w fun e w' => e = .returned (.bool true) ∧ Below w.heap.size w w' := by
  obtain ⟨A, rfl⟩ := Int.eq_ofNat_of_zero_le ha.1
  obtain ⟨B, rfl⟩ := Int.eq_ofNat_of_zero_le hb.1
  have hA : A < 18446744073709551616 := by omega
  have hB : B < 18446744073709551616 := by omega
  by_cases n1 : n < 1
  · rcases Nat.lt_trichotomy A B with h | h | h
    · exact rises_lt_o1 A B n k w hA hB (by omega) (by omega) hn n1
    · subst h; exact rises_eq_o1 A n k w hA hn n1
    · exact rises_gt_o1 A B n k w hA hB (by omega) (by omega) hn n1
  by_cases n2 : 1048576 < n
  · rcases Nat.lt_trichotomy A B with h | h | h
    · exact rises_lt_o2 A B n k w hA hB (by omega) (by omega) hn n1 n2
    · subst h; exact rises_eq_o2 A n k w hA hn n1 n2
    · exact rises_gt_o2 A B n k w hA hB (by omega) (by omega) hn n1 n2
  by_cases k0 : k < 0
  · rcases Nat.lt_trichotomy A B with h | h | h
    · exact rises_lt_o3 A B n k w hA hB (by omega) (by omega) hn n1 n2 k0
    · subst h; exact rises_eq_o3 A n k w hA hn n1 n2 k0
    · exact rises_gt_o3 A B n k w hA hB (by omega) (by omega) hn n1 n2 k0
  by_cases k1 : n ≤ k
  · rcases Nat.lt_trichotomy A B with h | h | h
    · exact rises_lt_o4 A B n k w hA hB (by omega) (by omega) hn n1 n2 k0 k1
    · subst h; exact rises_eq_o4 A n k w hA hn n1 n2 k0 k1
    · exact rises_gt_o4 A B n k w hA hB (by omega) (by omega) hn n1 n2 k0 k1
  · rcases Nat.lt_trichotomy A B with h | h | h
    · exact rises_lt_in A B n k w hA hB (by omega) (by omega) hn n1 n2 k0 k1
    · subst h; exact rises_eq_in A n k w hA hn n1 n2 k0 k1
    · exact rises_gt_in A B n k w hA hB (by omega) (by omega) hn n1 n2 k0 k1

set_option maxRecDepth 100000 in
theorem rngRises_lifted (os : Os) (started : os.Started) (H : Type) (enc : TypeId × Value → H) :
    ReturnsInHanded {} Try.checked os 3 .any (Rows.rngRisesSpec.pre6 enc Try.prog Try.f3 Rows.rngRisesRow.domain false) (Rows.rngRisesSpec.post enc Try.prog Try.f3 false true false false) := by
  refine returnsInHanded_of_change (C := Try.checked) own started (by kernel_rfl) Try.func3
    (ChangeSpec.witness6 (enc := enc) (C := Try.checked) false ⟨#[], #[.int .u64 0, .int .u64 0, .int .i64 0, .int .i64 0], []⟩ 8 (by kernel_rfl) (by kernel_rfl) (by kernel_rfl) (by kernel_rfl)) ?_
  intro W base args ds gs before hval0 hW _ _
  have hval : ∀ (j : Nat) t v, Try.f3.params[j]? = some t → args[j]? = some v → Value.okWide Try.prog W .any base t v := hval0
  have hW' := hW
  obtain ⟨p, q, hA0, hV, rfl, hfz, hnd⟩ := hW
  have hA : DataW.TrodAll enc Try.prog W 0 (fun _ => true) true Try.f3.params.toList args.toList ds p := hA0
  rw [Try.params3] at hA hval
  obtain ⟨v0, vs0, d0, ds0, p0, q0, hargs, rfl, rfl, h0, r0⟩ := trodAll_cons hA
  obtain ⟨v1, vs1, d1, ds1, p1, q1, rfl, rfl, rfl, h1, r1⟩ := trodAll_cons r0
  obtain ⟨v2, vs2, d2, ds2, p2, q2, rfl, rfl, rfl, h2, r2⟩ := trodAll_cons r1
  obtain ⟨v3, vs3, d3, ds3, p3, q3, rfl, rfl, rfl, h3, r3⟩ := trodAll_cons r2
  obtain ⟨rfl, rfl, rfl⟩ := trodAll_nil r3
  obtain rfl : args = #[v0, v1, v2, v3] := by cases args; simp_all
  obtain ⟨rfl, rfl⟩ := trodVars_none hV
  obtain ⟨a0, rfl, rfl, rfl, w0⟩ := open_int Try.underlying22 (hval 0 22 v0 rfl rfl) h0
  obtain ⟨a1, rfl, rfl, rfl, w1⟩ := open_int Try.underlying22 (hval 1 22 v1 rfl rfl) h1
  obtain ⟨a2, rfl, rfl, rfl, w2⟩ := open_int Try.underlying3 (hval 2 3 v2 rfl rfl) h2
  obtain ⟨a3, rfl, rfl, rfl, w3⟩ := open_int Try.underlying3 (hval 3 3 v3 rfl rfl) h3
  clear hA0 hval0
  refine (rngRises_walk a0 a1 a2 a3 W (bdu64 w0) (bdu64 w1) (bd64 w2)).mono fun e W' ⟨he, bel⟩ => ?_
  subst he
  exact ⟨_, rfl, _, _, _, [], _, [], hW', trodAll_mk1 (shut_bool Try.underlying4 _), (trodAll_cons_mk (shut_int Try.underlying22 w0) (trodAll_cons_mk (shut_int Try.underlying22 w1) (trodAll_cons_mk (shut_int Try.underlying3 w2) (trodAll_cons_mk (shut_int Try.underlying3 w3) trodAll_mk0)))), rfl, bel.frame _, fun h => by cases h⟩

theorem rngRises_holds : Rows.RngRisesSaid :=
  OpenClaim.holds_of_wide 3 Try.f3 rfl rfl rfl rfl rfl rfl rfl ⟨rfl, rfl, rfl, rfl, rfl⟩ rfl rfl rfl rfl rfl (by kernel_rfl) Try.func3 (by kernel_rfl)
    (of_decide_eq_true (by kernel_rfl)) (by unfold Func.isWrapper; rw [if_neg (of_decide_eq_false (by kernel_rfl))]; exact ⟨rfl, rfl⟩)
    (fun os started H enc _ => rngRises_lifted os started H enc)
#print axioms rngRises_holds
end Go.Proofs.Ytcefiejbfnakeab
