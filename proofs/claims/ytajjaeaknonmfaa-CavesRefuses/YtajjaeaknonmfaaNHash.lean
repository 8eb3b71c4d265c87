/-
  What the document's Hash, and Below of both, answer, for every number; the document's Hash leaves one new block behind it.
-/
import Derived.Test.YtajjaeaknonmfaaNMixes
import Derived.Below
namespace Go.Proofs.Ytajjaeaknonmfaa.N
open Go.RowKit

set_option maxHeartbeats 400000 in
theorem rhash_any (S : Nat) (a b c d : Int) (w : World) (hS : S < 18446744073709551616) :
    Calls Try.prog 24 #[.int .u64 S, .int .i64 a, .int .i64 b, .int .i64 c, .int .i64 d] w fun e w' => e = .returned (.int .u64 (hashN S a b c d)) ∧ Below w.heap.size w w' := by
  have hw : Hid (Below w.heap.size w (w.alloc (.cells #[.int .i64 a, .int .i64 b, .int .i64 c, .int .i64 d] 79))) := (Below.refl _ _).alloc (Nat.le_refl _) _
  have c0 : (w.alloc (.cells #[.int .i64 a, .int .i64 b, .int .i64 c, .int .i64 d] 79)).cell? ⟨w.heap.size, 0, none⟩ = some (.int .i64 a) := by rw [cell_of_row _ _ _ _ _ _ (heap_alloc_new w _)]; rfl
  have c1 : (w.alloc (.cells #[.int .i64 a, .int .i64 b, .int .i64 c, .int .i64 d] 79)).cell? ⟨w.heap.size, 1, none⟩ = some (.int .i64 b) := by rw [cell_of_row _ _ _ _ _ _ (heap_alloc_new w _)]; rfl
  have c2 : (w.alloc (.cells #[.int .i64 a, .int .i64 b, .int .i64 c, .int .i64 d] 79)).cell? ⟨w.heap.size, 2, none⟩ = some (.int .i64 c) := by rw [cell_of_row _ _ _ _ _ _ (heap_alloc_new w _)]; rfl
  have c3 : (w.alloc (.cells #[.int .i64 a, .int .i64 b, .int .i64 c, .int .i64 d] 79)).cell? ⟨w.heap.size, 3, none⟩ = some (.int .i64 d) := by rw [cell_of_row _ _ _ _ _ _ (heap_alloc_new w _)]; rfl
  go_enter Try.func24, Try.ntmps24
  go_wp2_with (go_at_call 39; go_must (refine (rmix_any S _ hS).mono ?_); rintro e w' ⟨rfl, hw2⟩; subst w')
  generalize (w.alloc (.cells #[.int .i64 a, .int .i64 b, .int .i64 c, .int .i64 d] 79)) = W at *
  go_loop [11, 13] (fun x i => ∃ k : Nat, k ≤ 4 ∧ i = .int .i64 k ∧ x = .int .u64 (chain link (mixN S) [a, b, c, d] k)) (fun _ i => 4 - (intOf i).toNat)
  case atStart => exact ⟨0, by omega, rfl, val_nat (chain_0 link (mixN S) a b c d).symm⟩
  case round =>
    obtain ⟨k, hk, rfl, rfl⟩ := hrel
    have hh := chain_lt S [a, b, c, d] k
    have hk5 : k = 0 ∨ k = 1 ∨ k = 2 ∨ k = 3 ∨ k = 4 := by omega
    rcases hk5 with rfl | rfl | rfl | rfl | rfl
    · have HL : Hid (chain link (mixN S) [a, b, c, d] 1 = link (chain link (mixN S) [a, b, c, d] 0) a) := chain_1 link (mixN S) a b c d
      generalize chain link (mixN S) [a, b, c, d] 0 = h at *
      have e1 := go_asN a
      have e2 := go_link h a hh
      go_wp2_with (go_at_call 39; go_must (refine (rmix_any _ _ (Nat.mod_lt _ (by decide))).mono ?_); rintro e w' ⟨rfl, hw2⟩; subst w')
      go_round
      case rel => exact ⟨1, by omega, rfl, val_nat (by rw [HL.out, link_eq])⟩
      case measure => simp [intOf]
    · have HL : Hid (chain link (mixN S) [a, b, c, d] 2 = link (chain link (mixN S) [a, b, c, d] 1) b) := chain_2 link (mixN S) a b c d
      generalize chain link (mixN S) [a, b, c, d] 1 = h at *
      have e1 := go_asN b
      have e2 := go_link h b hh
      go_wp2_with (go_at_call 39; go_must (refine (rmix_any _ _ (Nat.mod_lt _ (by decide))).mono ?_); rintro e w' ⟨rfl, hw2⟩; subst w')
      go_round
      case rel => exact ⟨2, by omega, rfl, val_nat (by rw [HL.out, link_eq])⟩
      case measure => simp [intOf]
    · have HL : Hid (chain link (mixN S) [a, b, c, d] 3 = link (chain link (mixN S) [a, b, c, d] 2) c) := chain_3 link (mixN S) a b c d
      generalize chain link (mixN S) [a, b, c, d] 2 = h at *
      have e1 := go_asN c
      have e2 := go_link h c hh
      go_wp2_with (go_at_call 39; go_must (refine (rmix_any _ _ (Nat.mod_lt _ (by decide))).mono ?_); rintro e w' ⟨rfl, hw2⟩; subst w')
      go_round
      case rel => exact ⟨3, by omega, rfl, val_nat (by rw [HL.out, link_eq])⟩
      case measure => simp [intOf]
    · have HL : Hid (chain link (mixN S) [a, b, c, d] 4 = link (chain link (mixN S) [a, b, c, d] 3) d) := chain_4 link (mixN S) a b c d
      generalize chain link (mixN S) [a, b, c, d] 3 = h at *
      have e1 := go_asN d
      have e2 := go_link h d hh
      go_wp2_with (go_at_call 39; go_must (refine (rmix_any _ _ (Nat.mod_lt _ (by decide))).mono ?_); rintro e w' ⟨rfl, hw2⟩; subst w')
      go_round
      case rel => exact ⟨4, by omega, rfl, val_nat (by rw [HL.out, link_eq])⟩
      case measure => simp [intOf]
    · have HC : Hid (chain link (mixN S) [a, b, c, d] 4 = hashN S a b c d) := chain_all S a b c d
      generalize chain link (mixN S) [a, b, c, d] 4 = h at *
      go_wp2
      go_ret
      exact ⟨ret_int (by rw [HC.out]), hw.out⟩

end Go.Proofs.Ytajjaeaknonmfaa.N