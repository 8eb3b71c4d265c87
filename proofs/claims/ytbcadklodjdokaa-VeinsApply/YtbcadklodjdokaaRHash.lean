/-
  What the document's Hash, and Below of both, answer, for every number; the document's Hash leaves one new block behind it.
-/
import Derived.Test.YtbcadklodjdokaaRMixes
import Derived.Below
namespace Go.Proofs.Ytbcadklodjdokaa.R
open Go.RowKit

set_option maxHeartbeats 400000 in
theorem rhash_any (S : Nat) (a b c d : Int) (w : World) (hS : S < 18446744073709551616) :
    Calls Try.prog 42 #[.int .u64 S, .int .i64 a, .int .i64 b, .int .i64 c, .int .i64 d] w fun e w' => e = .returned (.int .u64 (hashN S a b c d)) ∧ Below w.heap.size w w' := by
  have hw : Hid (Below w.heap.size w (w.alloc (.cells #[.int .i64 a, .int .i64 b, .int .i64 c, .int .i64 d] 84))) := (Below.refl _ _).alloc (Nat.le_refl _) _
  have c0 : (w.alloc (.cells #[.int .i64 a, .int .i64 b, .int .i64 c, .int .i64 d] 84)).cell? ⟨w.heap.size, 0, none⟩ = some (.int .i64 a) := by rw [cell_of_row _ _ _ _ _ _ (heap_alloc_new w _)]; rfl
  have c1 : (w.alloc (.cells #[.int .i64 a, .int .i64 b, .int .i64 c, .int .i64 d] 84)).cell? ⟨w.heap.size, 1, none⟩ = some (.int .i64 b) := by rw [cell_of_row _ _ _ _ _ _ (heap_alloc_new w _)]; rfl
  have c2 : (w.alloc (.cells #[.int .i64 a, .int .i64 b, .int .i64 c, .int .i64 d] 84)).cell? ⟨w.heap.size, 2, none⟩ = some (.int .i64 c) := by rw [cell_of_row _ _ _ _ _ _ (heap_alloc_new w _)]; rfl
  have c3 : (w.alloc (.cells #[.int .i64 a, .int .i64 b, .int .i64 c, .int .i64 d] 84)).cell? ⟨w.heap.size, 3, none⟩ = some (.int .i64 d) := by rw [cell_of_row _ _ _ _ _ _ (heap_alloc_new w _)]; rfl
  go_enter Try.func42, Try.ntmps42
  go_wp2_with (go_at_call 53; go_must (refine (rmix_any S _ hS).mono ?_); rintro e w' ⟨rfl, hw2⟩; subst w')
  generalize (w.alloc (.cells #[.int .i64 a, .int .i64 b, .int .i64 c, .int .i64 d] 84)) = W at *
  go_loop [11, 13] (fun x i => ∃ k : Nat, k ≤ 4 ∧ i = .int .i64 k ∧ x = .int .u64 (chain link (mixN S) [a, b, c, d] k)) (fun _ i => 4 - (intOf i).toNat)
  case atStart => exact ⟨0, by omega, rfl, val_nat (chain_0 link (mixN S) a b c d).symm⟩
  case round =>
    obtain ⟨k, hk, rfl, rfl⟩ := hrel
    have hh := chain_lt S [a, b, c, d] k
    have hk5 : k = 0 ∨ k = 1 ∨ k = 2 ∨ k = 3 ∨ k = 4 := by omega
    rcases hk5 with rfl | rfl | rfl | rfl | rfl
    · have HL : Hid (chain link (mixN S) [a, b, c, d] 1 = link (chain link (mixN S) [a, b, c, d] 0) a) := chain_1 link (mixN S) a b c d
      generalize chain link (mixN S) [a, b, c, d] 0 = h at *
      have e1 := go_asN a
      have e2 := go_link h a hh
      go_wp2_with (go_at_call 53; go_must (refine (rmix_any _ _ (Nat.mod_lt _ (by decide))).mono ?_); rintro e w' ⟨rfl, hw2⟩; subst w')
      go_round
      case rel => exact ⟨1, by omega, rfl, val_nat (by rw [HL.out, link_eq])⟩
      case measure => simp [intOf]
    · have HL : Hid (chain link (mixN S) [a, b, c, d] 2 = link (chain link (mixN S) [a, b, c, d] 1) b) := chain_2 link (mixN S) a b c d
      generalize chain link (mixN S) [a, b, c, d] 1 = h at *
      have e1 := go_asN b
      have e2 := go_link h b hh
      go_wp2_with (go_at_call 53; go_must (refine (rmix_any _ _ (Nat.mod_lt _ (by decide))).mono ?_); rintro e w' ⟨rfl, hw2⟩; subst w')
      go_round
      case rel => exact ⟨2, by omega, rfl, val_nat (by rw [HL.out, link_eq])⟩
      case measure => simp [intOf]
    · have HL : Hid (chain link (mixN S) [a, b, c, d] 3 = link (chain link (mixN S) [a, b, c, d] 2) c) := chain_3 link (mixN S) a b c d
      generalize chain link (mixN S) [a, b, c, d] 2 = h at *
      have e1 := go_asN c
      have e2 := go_link h c hh
      go_wp2_with (go_at_call 53; go_must (refine (rmix_any _ _ (Nat.mod_lt _ (by decide))).mono ?_); rintro e w' ⟨rfl, hw2⟩; subst w')
      go_round
      case rel => exact ⟨3, by omega, rfl, val_nat (by rw [HL.out, link_eq])⟩
      case measure => simp [intOf]
    · have HL : Hid (chain link (mixN S) [a, b, c, d] 4 = link (chain link (mixN S) [a, b, c, d] 3) d) := chain_4 link (mixN S) a b c d
      generalize chain link (mixN S) [a, b, c, d] 3 = h at *
      have e1 := go_asN d
      have e2 := go_link h d hh
      go_wp2_with (go_at_call 53; go_must (refine (rmix_any _ _ (Nat.mod_lt _ (by decide))).mono ?_); rintro e w' ⟨rfl, hw2⟩; subst w')
      go_round
      case rel => exact ⟨4, by omega, rfl, val_nat (by rw [HL.out, link_eq])⟩
      case measure => simp [intOf]
    · have HC : Hid (chain link (mixN S) [a, b, c, d] 4 = hashN S a b c d) := chain_all S a b c d
      generalize chain link (mixN S) [a, b, c, d] 4 = h at *
      go_wp2
      go_ret
      exact ⟨ret_int (by rw [HC.out]), hw.out⟩

theorem belowN_out (h : Nat) (n : Int) (hn : n < 1 ∨ 2147483647 < n) : belowN h n = 0 := by unfold belowN; rw [if_pos hn]
theorem belowN_in (h : Nat) (n : Int) (h1 : ¬ n < 1) (h2 : ¬ 2147483647 < n) : belowN h n = (h : Int) / 4294967296 * n / 4294967296 := by unfold belowN; rw [if_neg (by omega)]
theorem high_bd (h : Nat) (hh : h < 18446744073709551616) : 0 ≤ (h : Int) / 4294967296 ∧ (h : Int) / 4294967296 ≤ 4294967295 := by omega
theorem go_below (A n : Int) (a0 : 0 ≤ A) (a1 : A ≤ 4294967295) (h1 : ¬ n < 1) (h2 : ¬ 2147483647 < n) : wrap64 (IntKind.u64.wrap (A * n) / 4294967296) = A * n / 4294967296 := by
  have m0 : 0 ≤ A * n := Int.mul_nonneg a0 (by omega)
  have m1 : A * n ≤ 4294967295 * 2147483647 := Int.mul_le_mul a1 (by omega) (by omega) (by omega)
  rw [IntKind.wrap_u64]
  generalize A * n = p at *
  rw [Int.emod_eq_of_lt m0 (by omega)]
  unfold wrap64
  omega
set_option maxHeartbeats 400000 in
theorem below_any (h : Nat) (n : Int) (w : World) (hh : h < 18446744073709551616) (_hn : -9223372036854775808 ≤ n ∧ n ≤ 9223372036854775807) :
    Calls Try.prog 50 #[.int .u64 h, .int .i64 n] w fun e w' => e = .returned (.int .i64 (belowN h n)) ∧ w' = w := by
  by_cases h1 : n < 1
  · have HB : Hid (belowN h n = 0) := belowN_out h n (.inl h1)
    go_enter Try.func50, Try.ntmps50
    go_wp2
    go_ret
    exact ⟨ret_int (by rw [HB.out]), rfl⟩
  · by_cases h2 : 2147483647 < n
    · have HB : Hid (belowN h n = 0) := belowN_out h n (.inr h2)
      go_enter Try.func50, Try.ntmps50
      go_wp2
      go_ret
      exact ⟨ret_int (by rw [HB.out]), rfl⟩
    · have HB : Hid (wrap64 (IntKind.u64.wrap ((h : Int) / 4294967296 * n) / 4294967296) = belowN h n) := by
        show _ = _
        rw [belowN_in h n h1 h2]
        exact go_below _ n (high_bd h hh).1 (high_bd h hh).2 h1 h2
      go_enter Try.func50, Try.ntmps50
      go_wp2
      go_ret
      exact ⟨ret_int HB.out, rfl⟩
set_option maxHeartbeats 400000 in
theorem rbelow_any (h : Nat) (n : Int) (w : World) (hh : h < 18446744073709551616) (_hn : -9223372036854775808 ≤ n ∧ n ≤ 9223372036854775807) :
    Calls Try.prog 43 #[.int .u64 h, .int .i64 n] w fun e w' => e = .returned (.int .i64 (belowN h n)) ∧ w' = w := by
  by_cases h1 : n < 1
  · have HB : Hid (belowN h n = 0) := belowN_out h n (.inl h1)
    go_enter Try.func43, Try.ntmps43
    go_wp2
    go_ret
    exact ⟨ret_int (by rw [HB.out]), rfl⟩
  · by_cases h2 : 2147483647 < n
    · have HB : Hid (belowN h n = 0) := belowN_out h n (.inr h2)
      go_enter Try.func43, Try.ntmps43
      go_wp2
      go_ret
      exact ⟨ret_int (by rw [HB.out]), rfl⟩
    · have HB : Hid (wrap64 (IntKind.u64.wrap ((h : Int) / 4294967296 * n) / 4294967296) = belowN h n) := by
        show _ = _
        rw [belowN_in h n h1 h2]
        exact go_below _ n (high_bd h hh).1 (high_bd h hh).2 h1 h2
      go_enter Try.func43, Try.ntmps43
      go_wp2
      go_ret
      exact ⟨ret_int HB.out, rfl⟩
end Go.Proofs.Ytbcadklodjdokaa.R