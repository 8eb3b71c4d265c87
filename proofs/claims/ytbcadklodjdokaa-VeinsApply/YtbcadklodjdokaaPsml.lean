/-
  The landed veins' small functions: bits of a number, ores, how far, whether a vein has a cell, an origin's vein.
-/
import Derived.Test.YtbcadklodjdokaaWheld
import Derived.Lib.MinMax
set_option maxRecDepth 20000
namespace Go.Proofs.Ytbcadklodjdokaa
open C Go.RowKit

theorem u64_mask (k : Nat) (m n : Int) (h : (BitVec.ofInt 64 m).toNat = 2 ^ k - 1) (hk : k ≤ 62) : bits .and .u64 n m = n % ((2 ^ k : Nat) : Int) := by
  have key : (BitVec.ofInt 64 n &&& BitVec.ofInt 64 m).toNat = (n % ((2 ^ 64 : Nat) : Int)).toNat % 2 ^ k := by
    rw [BitVec.toNat_and, BitVec.toNat_ofInt, h, Nat.and_two_pow_sub_one_eq_mod]
  show IntKind.u64.wrap ((BitVec.ofInt 64 n &&& BitVec.ofInt 64 m).toNat : Nat) = _
  have hd : ((2 ^ k : Nat) : Int) ∣ ((2 ^ 64 : Nat) : Int) := by exact_mod_cast Nat.pow_dvd_pow 2 (by omega)
  have hp : 0 < 2 ^ k := Nat.two_pow_pos k
  have hl : 2 ^ k ≤ 2 ^ 62 := Nat.pow_le_pow_right (by omega) hk
  have e : (((n % ((2 ^ 64 : Nat) : Int)).toNat % 2 ^ k : Nat) : Int) = n % ((2 ^ k : Nat) : Int) := by
    rw [Int.natCast_emod, Int.toNat_of_nonneg (Int.emod_nonneg _ (by decide)), Int.emod_emod_of_dvd n hd]
  rw [key, e, IntKind.wrap_u64]
  have h1 := Int.emod_nonneg n (show ((2 ^ k : Nat) : Int) ≠ 0 by omega)
  have h2 := Int.emod_lt_of_pos n (show 0 < ((2 ^ k : Nat) : Int) by omega)
  omega
theorem bits8_c (h : Nat) (w : World) : Calls Try.prog 52 #[.int .u64 (h : Int), .int .i64 8, .int .i64 4] w fun e w' => e = .returned (.int .i64 ((h / 256 % 16 : Nat) : Int)) ∧ Below w.heap.size w w' := by
  have e0 : bits .and .u64 ((h : Int) / 256) 15 = ((h / 256 % 16 : Nat) : Int) := by rw [u64_mask 4 15 _ (by decide) (by omega)]; omega
  have b0 : h / 256 % 16 < 16 := Nat.mod_lt _ (by omega)
  generalize h / 256 % 16 = M at *
  go_enter Try.func52, Try.ntmps52
  go_wp2
  refine wp_region_since (by kernel_rfl) (by kernel_rfl) ?_
  have hsome := since_some w
  repeat (go_big_quiet_step (fail))
  refine wpQuiet_nil ?_
  rintro _ ⟨s, rfl⟩
  go_wp2
  go_ret
  exact ⟨rfl, s.bel⟩
theorem bits16_c (h : Nat) (w : World) : Calls Try.prog 52 #[.int .u64 (h : Int), .int .i64 16, .int .i64 3] w fun e w' => e = .returned (.int .i64 ((h / 65536 % 8 : Nat) : Int)) ∧ Below w.heap.size w w' := by
  have e0 : bits .and .u64 ((h : Int) / 65536) 7 = ((h / 65536 % 8 : Nat) : Int) := by rw [u64_mask 3 7 _ (by decide) (by omega)]; omega
  have b0 : h / 65536 % 8 < 8 := Nat.mod_lt _ (by omega)
  generalize h / 65536 % 8 = M at *
  go_enter Try.func52, Try.ntmps52
  go_wp2
  refine wp_region_since (by kernel_rfl) (by kernel_rfl) ?_
  have hsome := since_some w
  repeat (go_big_quiet_step (fail))
  refine wpQuiet_nil ?_
  rintro _ ⟨s, rfl⟩
  go_wp2
  go_ret
  exact ⟨rfl, s.bel⟩
theorem bits19_c (h : Nat) (w : World) : Calls Try.prog 52 #[.int .u64 (h : Int), .int .i64 19, .int .i64 3] w fun e w' => e = .returned (.int .i64 ((h / 524288 % 8 : Nat) : Int)) ∧ Below w.heap.size w w' := by
  have e0 : bits .and .u64 ((h : Int) / 524288) 7 = ((h / 524288 % 8 : Nat) : Int) := by rw [u64_mask 3 7 _ (by decide) (by omega)]; omega
  have b0 : h / 524288 % 8 < 8 := Nat.mod_lt _ (by omega)
  generalize h / 524288 % 8 = M at *
  go_enter Try.func52, Try.ntmps52
  go_wp2
  refine wp_region_since (by kernel_rfl) (by kernel_rfl) ?_
  have hsome := since_some w
  repeat (go_big_quiet_step (fail))
  refine wpQuiet_nil ?_
  rintro _ ⟨s, rfl⟩
  go_wp2
  go_ret
  exact ⟨rfl, s.bel⟩
theorem bits22_c (h : Nat) (w : World) : Calls Try.prog 52 #[.int .u64 (h : Int), .int .i64 22, .int .i64 3] w fun e w' => e = .returned (.int .i64 ((h / 4194304 % 8 : Nat) : Int)) ∧ Below w.heap.size w w' := by
  have e0 : bits .and .u64 ((h : Int) / 4194304) 7 = ((h / 4194304 % 8 : Nat) : Int) := by rw [u64_mask 3 7 _ (by decide) (by omega)]; omega
  have b0 : h / 4194304 % 8 < 8 := Nat.mod_lt _ (by omega)
  generalize h / 4194304 % 8 = M at *
  go_enter Try.func52, Try.ntmps52
  go_wp2
  refine wp_region_since (by kernel_rfl) (by kernel_rfl) ?_
  have hsome := since_some w
  repeat (go_big_quiet_step (fail))
  refine wpQuiet_nil ?_
  rintro _ ⟨s, rfl⟩
  go_wp2
  go_ret
  exact ⟨rfl, s.bel⟩
theorem bits25_c (h : Nat) (w : World) : Calls Try.prog 52 #[.int .u64 (h : Int), .int .i64 25, .int .i64 1] w fun e w' => e = .returned (.int .i64 ((h / 33554432 % 2 : Nat) : Int)) ∧ Below w.heap.size w w' := by
  have e0 : bits .and .u64 ((h : Int) / 33554432) 1 = ((h / 33554432 % 2 : Nat) : Int) := by rw [u64_mask 1 1 _ (by decide) (by omega)]; omega
  have b0 : h / 33554432 % 2 < 2 := Nat.mod_lt _ (by omega)
  generalize h / 33554432 % 2 = M at *
  go_enter Try.func52, Try.ntmps52
  go_wp2
  refine wp_region_since (by kernel_rfl) (by kernel_rfl) ?_
  have hsome := since_some w
  repeat (go_big_quiet_step (fail))
  refine wpQuiet_nil ?_
  rintro _ ⟨s, rfl⟩
  go_wp2
  go_ret
  exact ⟨rfl, s.bel⟩

theorem ore_c (h : Nat) (w : World) : Calls Try.prog 51 #[.int .i64 ((h / 256 % 16 : Nat) : Int)] w fun e w' => e = .returned (.int .i64 (vOre h)) ∧ w' = w := by
  have HO : Hid ((h / 256 % 16 < 9 → vOre h = 7) ∧ (¬ h / 256 % 16 < 9 → h / 256 % 16 < 14 → vOre h = 8) ∧ (¬ h / 256 % 16 < 9 → ¬ h / 256 % 16 < 14 → vOre h = 9)) := ⟨vore_lo, vore_mid, vore_hi⟩
  generalize h / 256 % 16 = N at *
  by_cases n9 : N < 9
  · have n9' : (N : Int) < 9 := by omega
    rw [HO.out.1 n9]
    clear HO n9
    go_enter Try.func51, Try.ntmps51
    go_wp2
    go_ret
    exact ⟨rfl, rfl⟩
  have n9' : ¬ (N : Int) < 9 := by omega
  by_cases n14 : N < 14
  · have n14' : (N : Int) < 14 := by omega
    rw [HO.out.2.1 n9 n14]
    clear HO n9 n14
    go_enter Try.func51, Try.ntmps51
    go_wp2
    go_ret
    exact ⟨rfl, rfl⟩
  · have n14' : ¬ (N : Int) < 14 := by omega
    rw [HO.out.2.2 n9 n14]
    clear HO n9 n14
    go_enter Try.func51, Try.ntmps51
    go_wp2
    go_ret
    exact ⟨rfl, rfl⟩
theorem away_c (a b : Int) (w : World) (ha : Far 4503599627370496 a) (hb : Far 4503599627370496 b) : Calls Try.prog 41 #[.int .i64 a, .int .i64 b] w fun e w' => e = .returned (.int .i64 (absI (b - a))) ∧ w' = w := by
  unfold Far at ha hb
  have h1 : max (a - b) (b - a) = absI (b - a) := by unfold absI; split <;> omega
  obtain ⟨a0, a1⟩ := ha
  obtain ⟨b0, b1⟩ := hb
  generalize absI (b - a) = R at *
  go_enter Try.func41, Try.ntmps41
  go_wp2
  go_ret
  exact ⟨by rw [← h1]; rfl, rfl⟩
end Go.Proofs.Ytbcadklodjdokaa
