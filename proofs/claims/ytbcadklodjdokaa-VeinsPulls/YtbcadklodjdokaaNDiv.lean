/-
  What Div and Mod answer, of the program and of the document, for every two integers: the quotient rounded down and the rest, 0 for a divisor below 1; none turns anything.
-/
import Derived.Test.YtbcadklodjdokaaNMixes
namespace Go.Proofs.Ytbcadklodjdokaa.N
open Go.RowKit

theorem tdiv_floor (a b : Int) (hb : 1 ≤ b) : (a.tmod b < 0 → a.tdiv b - 1 = a / b ∧ a.tmod b + b = a % b) ∧ (0 ≤ a.tmod b → a.tdiv b = a / b ∧ a.tmod b = a % b) := by
  have e1 := Int.mul_tdiv_add_tmod a b
  have e2 := Int.mul_ediv_add_emod a b
  have m0 := Int.emod_nonneg a (show b ≠ 0 by omega)
  have m1 := Int.emod_lt_of_pos a (show 0 < b by omega)
  have t1 : a.tmod b < b := Int.tmod_lt_of_pos a (by omega)
  have t2 : -b < a.tmod b := by
    have := Int.tmod_lt_of_pos (-a) (show 0 < b by omega)
    rw [Int.neg_tmod] at this
    omega
  constructor
  · intro h
    have hm : a.tmod b + b = a % b := by
      have : (a.tmod b + b) % b = a % b := by
        rw [Int.add_emod_right]
        conv => rhs; rw [← e1]
        rw [Int.mul_add_emod_self_left]
      rw [Int.emod_eq_of_lt (by omega) (by omega)] at this
      exact this
    refine ⟨?_, hm⟩
    have h3 : b * (a.tdiv b - 1) = b * (a / b) := by rw [Int.mul_sub, Int.mul_one]; omega
    exact Int.eq_of_mul_eq_mul_left (by omega) h3
  · intro h
    have hm : a.tmod b = a % b := by
      have : (a.tmod b) % b = a % b := by
        conv => rhs; rw [← e1]
        rw [Int.mul_add_emod_self_left]
      rw [Int.emod_eq_of_lt h (by omega)] at this
      exact this
    refine ⟨?_, hm⟩
    have h3 : b * (a.tdiv b) = b * (a / b) := by omega
    exact Int.eq_of_mul_eq_mul_left (by omega) h3
theorem div_bd (a b : Int) (hb : 1 ≤ b) : (0 ≤ a → 0 ≤ a / b ∧ a / b ≤ a) ∧ (a < 0 → a ≤ a / b ∧ a / b < 0) := by
  have e2 := Int.mul_ediv_add_emod a b
  have m0 := Int.emod_nonneg a (show b ≠ 0 by omega)
  have m1 := Int.emod_lt_of_pos a (show 0 < b by omega)
  constructor
  · intro h
    exact ⟨Int.ediv_nonneg h (by omega), Int.ediv_le_self _ h⟩
  · intro h
    refine ⟨?_, Int.ediv_neg_of_neg_of_pos h (by omega)⟩
    exact (Int.le_ediv_iff_mul_le (by omega)).2 (by
      have : a * b ≤ a * 1 := Int.mul_le_mul_of_nonpos_left (by omega) hb
      omega)
theorem tdiv_bd (a b : Int) (hb : 1 ≤ b) (h0 : -9223372036854775808 ≤ a) (h1 : a ≤ 9223372036854775807) : -9223372036854775808 ≤ a.tdiv b ∧ a.tdiv b ≤ 9223372036854775807 ∧ (a.tmod b < 0 → -9223372036854775808 < a.tdiv b) := by
  have f := tdiv_floor a b hb
  have d := div_bd a b hb
  rcases Int.lt_or_le (a.tmod b) 0 with h | h
  · have g := f.1 h
    rcases Int.lt_or_le a 0 with k | k
    · have := d.2 k; omega
    · have := Int.tmod_nonneg b k; omega
  · have g := f.2 h
    rcases Int.lt_or_le a 0 with k | k
    · have := d.2 k; omega
    · have := d.1 k; omega

theorem tmod_bd (a b : Int) (hb : 1 ≤ b) : -b < a.tmod b ∧ a.tmod b < b := by
  refine ⟨?_, Int.tmod_lt_of_pos a (by omega)⟩
  have := Int.tmod_lt_of_pos (-a) (show 0 < b by omega)
  rw [Int.neg_tmod] at this
  omega

set_option maxHeartbeats 400000 in
theorem div_lo (a b : Int) (w : World) (hb : b < 1) : Calls Try.prog 38 #[.int .i64 a, .int .i64 b] w fun e w' => e = .returned (.int .i64 0) ∧ w' = w := by
  go_enter Try.func38, Try.ntmps38
  go_wp2
  go_ret
  exact ⟨rfl, rfl⟩
set_option maxHeartbeats 400000 in
theorem div_hi (a b : Int) (w : World) (hb : 1 ≤ b) (hb1 : b ≤ 9223372036854775807) (h0 : -9223372036854775808 ≤ a) (h1 : a ≤ 9223372036854775807) : Calls Try.prog 38 #[.int .i64 a, .int .i64 b] w fun e w' => e = .returned (.int .i64 (a / b)) ∧ w' = w := by
  have HF : Hid _ := tdiv_floor a b hb
  have hd := tdiv_bd a b hb h0 h1
  have ht := tmod_bd a b hb
  by_cases hm : a.tmod b < 0
  · go_enter Try.func38, Try.ntmps38
    go_wp2
    go_ret
    exact ⟨ret_int (HF.out.1 hm).1, rfl⟩
  · go_enter Try.func38, Try.ntmps38
    go_wp2
    go_ret
    exact ⟨ret_int (HF.out.2 (by omega)).1, rfl⟩
set_option maxHeartbeats 400000 in
theorem mod_lo (a b : Int) (w : World) (hb : b < 1) : Calls Try.prog 44 #[.int .i64 a, .int .i64 b] w fun e w' => e = .returned (.int .i64 0) ∧ w' = w := by
  go_enter Try.func44, Try.ntmps44
  go_wp2
  go_ret
  exact ⟨rfl, rfl⟩
set_option maxHeartbeats 400000 in
theorem mod_hi (a b : Int) (w : World) (hb : 1 ≤ b) (hb1 : b ≤ 9223372036854775807) (h0 : -9223372036854775808 ≤ a) (h1 : a ≤ 9223372036854775807) : Calls Try.prog 44 #[.int .i64 a, .int .i64 b] w fun e w' => e = .returned (.int .i64 (a % b)) ∧ w' = w := by
  have HF : Hid _ := tdiv_floor a b hb
  have hd := tdiv_bd a b hb h0 h1
  have ht := tmod_bd a b hb
  by_cases hm : a.tmod b < 0
  · go_enter Try.func44, Try.ntmps44
    go_wp2
    go_ret
    exact ⟨ret_int (HF.out.1 hm).2, rfl⟩
  · go_enter Try.func44, Try.ntmps44
    go_wp2
    go_ret
    exact ⟨ret_int (HF.out.2 (by omega)).2, rfl⟩
set_option maxHeartbeats 400000 in
theorem rdiv_lo (a b : Int) (w : World) (hb : b < 1) : Calls Try.prog 24 #[.int .i64 a, .int .i64 b] w fun e w' => e = .returned (.int .i64 0) ∧ w' = w := by
  go_enter Try.func24, Try.ntmps24
  go_wp2
  go_ret
  exact ⟨rfl, rfl⟩
set_option maxHeartbeats 400000 in
theorem rdiv_hi (a b : Int) (w : World) (hb : 1 ≤ b) (hb1 : b ≤ 9223372036854775807) (h0 : -9223372036854775808 ≤ a) (h1 : a ≤ 9223372036854775807) : Calls Try.prog 24 #[.int .i64 a, .int .i64 b] w fun e w' => e = .returned (.int .i64 (a / b)) ∧ w' = w := by
  have HF : Hid _ := tdiv_floor a b hb
  have hd := tdiv_bd a b hb h0 h1
  have ht := tmod_bd a b hb
  by_cases hm : a.tmod b < 0
  · go_enter Try.func24, Try.ntmps24
    go_wp2
    go_ret
    exact ⟨ret_int (HF.out.1 hm).1, rfl⟩
  · go_enter Try.func24, Try.ntmps24
    go_wp2
    go_ret
    exact ⟨ret_int (HF.out.2 (by omega)).1, rfl⟩
set_option maxHeartbeats 400000 in
theorem rmod_lo (a b : Int) (w : World) (hb : b < 1) : Calls Try.prog 48 #[.int .i64 a, .int .i64 b] w fun e w' => e = .returned (.int .i64 0) ∧ w' = w := by
  go_enter Try.func48, Try.ntmps48
  go_wp2
  go_ret
  exact ⟨rfl, rfl⟩
set_option maxHeartbeats 400000 in
theorem rmod_hi (a b : Int) (w : World) (hb : 1 ≤ b) (hb1 : b ≤ 9223372036854775807) (h0 : -9223372036854775808 ≤ a) (h1 : a ≤ 9223372036854775807) : Calls Try.prog 48 #[.int .i64 a, .int .i64 b] w fun e w' => e = .returned (.int .i64 (a % b)) ∧ w' = w := by
  have HF : Hid _ := tdiv_floor a b hb
  have hd := tdiv_bd a b hb h0 h1
  have ht := tmod_bd a b hb
  by_cases hm : a.tmod b < 0
  · go_enter Try.func48, Try.ntmps48
    go_wp2
    go_ret
    exact ⟨ret_int (HF.out.1 hm).2, rfl⟩
  · go_enter Try.func48, Try.ntmps48
    go_wp2
    go_ret
    exact ⟨ret_int (HF.out.2 (by omega)).2, rfl⟩
end Go.Proofs.Ytbcadklodjdokaa.N