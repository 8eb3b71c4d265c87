/-
  What Mix and Unmix of the program and the Mix of the document answer, for every number of 64 bits; none turns anything.
  What the document's Hash, and Below of both, answer, for every number; the document's Hash leaves one new block behind it.
-/
import Derived.Test.YtbdjgaagafnfaaaProg
import Derived.Test.YtbdjgaagafnfaaaRMath
import Derived.WalkKit
import Derived.WalkLawsBesides
import Derived.WalkSpells
import Derived.Below
namespace Go.Proofs.Ytbdjgaagafnfaaa.R
section
open Go.RowKit

theorem ret_int {k : IntKind} {a b : Int} (h : a = b) : Ending.returned (.int k a) = .returned (.int k b) := by rw [h]

theorem go_st1 (X : Nat) (hX : X < 18446744073709551616) : IntKind.u64.wrap (bits .xor .u64 (X : Int) ((X : Int) / 1073741824) * 13787848793156543929) = (st1 X : Int) :=
  mixStep_u64 X 1073741824 13787848793156543929 hX
theorem go_st2 (X : Nat) (hX : X < 18446744073709551616) : IntKind.u64.wrap (bits .xor .u64 (X : Int) ((X : Int) / 134217728) * 10723151780598845931) = (st2 X : Int) :=
  mixStep_u64 X 134217728 10723151780598845931 hX
theorem go_st3 (X : Nat) (hX : X < 18446744073709551616) : bits .xor .u64 (X : Int) ((X : Int) / 2147483648) = (st3 X : Int) :=
  xorShift_u64 X 2147483648 hX
theorem two_shifts (X s t : Nat) (hX : X < 18446744073709551616) : bits .xor .u64 (bits .xor .u64 (X : Int) ((X : Int) / (s : Int))) ((X : Int) / (t : Int)) = ((X ^^^ X / s ^^^ X / t : Nat) : Int) := by
  rw [xorShift_u64 X s hX, ← Int.natCast_ediv, bits_xor_u64_nat _ _ (xor_lt hX (div_lt hX)) (div_lt hX)]
theorem two_steps (X s t C : Nat) (hX : X < 18446744073709551616) :
    IntKind.u64.wrap (bits .xor .u64 (bits .xor .u64 (X : Int) ((X : Int) / (s : Int))) ((X : Int) / (t : Int)) * (C : Int)) = (((X ^^^ X / s ^^^ X / t) * C % 18446744073709551616 : Nat) : Int) := by
  rw [two_shifts X s t hX, IntKind.wrap_u64, Int.natCast_emod, Int.natCast_mul]
  rfl
theorem go_un3 (X : Nat) (hX : X < 18446744073709551616) : IntKind.u64.wrap (bits .xor .u64 (bits .xor .u64 (X : Int) ((X : Int) / 2147483648)) ((X : Int) / 4611686018427387904) * 3573116690164977347) = (un3 X : Int) :=
  two_steps X 2147483648 4611686018427387904 3573116690164977347 hX
theorem go_un2 (X : Nat) (hX : X < 18446744073709551616) : IntKind.u64.wrap (bits .xor .u64 (bits .xor .u64 (X : Int) ((X : Int) / 134217728)) ((X : Int) / 18014398509481984) * 10871156337175269513) = (un2 X : Int) :=
  two_steps X 134217728 18014398509481984 10871156337175269513 hX
theorem go_un1 (X : Nat) (hX : X < 18446744073709551616) : bits .xor .u64 (bits .xor .u64 (X : Int) ((X : Int) / 1073741824)) ((X : Int) / 1152921504606846976) = (un1 X : Int) :=
  two_shifts X 1073741824 1152921504606846976 hX

set_option maxHeartbeats 400000 in
theorem mix_any (X : Nat) (w : World) (hX : X < 18446744073709551616) :
    Calls Try.prog 99 #[.int .u64 X] w fun e w' => e = .returned (.int .u64 (mixN X)) ∧ w' = w := by
  go_enter Try.func99, Try.ntmps99
  go_wp2
  go_ret
  exact ⟨ret_int (by rw [go_st1 X hX, go_st2 _ (st1_lt X), go_st3 _ (st2_lt _)]; rfl), rfl⟩
set_option maxHeartbeats 400000 in
theorem rmix_any (X : Nat) (w : World) (hX : X < 18446744073709551616) :
    Calls Try.prog 70 #[.int .u64 X] w fun e w' => e = .returned (.int .u64 (mixN X)) ∧ w' = w := by
  go_enter Try.func70, Try.ntmps70
  go_wp2
  go_ret
  exact ⟨ret_int (by rw [go_st1 X hX, go_st2 _ (st1_lt X), go_st3 _ (st2_lt _)]; rfl), rfl⟩
/-- An int made a number of 64 bits, as the walk spells it. -/
theorem go_asN (n : Int) : IntKind.u64.wrap n = (asN n : Int) := by rw [IntKind.wrap_u64, asN_eq]
theorem go_link (h : Nat) (n : Int) (hh : h < 18446744073709551616) : IntKind.u64.wrap (bits .xor .u64 (h : Int) (asN n : Int) + 11400714819323198485) = ((((h ^^^ asN n) + 11400714819323198485) % 18446744073709551616 : Nat) : Int) := by
  rw [bits_xor_u64_nat _ _ hh (asN_lt n), IntKind.wrap_u64]
  omega
/-- The chain behind its first k links. -/
def chain (f : Nat → Int → Nat) (h : Nat) (l : List Int) (k : Nat) : Nat := (l.take k).foldl f h
theorem foldl_lt (f : Nat → Int → Nat) (hf : ∀ h n, f h n < 18446744073709551616) (l : List Int) (h : Nat) (hh : h < 18446744073709551616) : l.foldl f h < 18446744073709551616 := by
  induction l generalizing h with
  | nil => exact hh
  | cons n r ih => exact ih _ (hf h n)
theorem chain_lt (S : Nat) (l : List Int) (k : Nat) : chain link (mixN S) l k < 18446744073709551616 := foldl_lt link link_lt _ _ (mixN_lt S)
theorem chain_0 (f : Nat → Int → Nat) (h : Nat) (a b c d : Int) : chain f h [a, b, c, d] 0 = h := rfl
theorem chain_1 (f : Nat → Int → Nat) (h : Nat) (a b c d : Int) : chain f h [a, b, c, d] 1 = f (chain f h [a, b, c, d] 0) a := rfl
theorem chain_2 (f : Nat → Int → Nat) (h : Nat) (a b c d : Int) : chain f h [a, b, c, d] 2 = f (chain f h [a, b, c, d] 1) b := rfl
theorem chain_3 (f : Nat → Int → Nat) (h : Nat) (a b c d : Int) : chain f h [a, b, c, d] 3 = f (chain f h [a, b, c, d] 2) c := rfl
theorem chain_4 (f : Nat → Int → Nat) (h : Nat) (a b c d : Int) : chain f h [a, b, c, d] 4 = f (chain f h [a, b, c, d] 3) d := rfl
theorem chain_4' (f : Nat → Int → Nat) (h : Nat) (a b c d : Int) : chain f h [a, b, c, d] 4 = f (f (f (f h a) b) c) d := rfl
theorem chain_all (S : Nat) (a b c d : Int) : chain link (mixN S) [a, b, c, d] 4 = hashN S a b c d := by rw [chain_4', hashN]
theorem link_eq (h : Nat) (n : Int) : link h n = mixN (((h ^^^ asN n) + 11400714819323198485) % 18446744073709551616) := by rw [link]
theorem val_nat {k : IntKind} {a b : Nat} (h : a = b) : Value.int k (a : Int) = .int k (b : Int) := by rw [h]

set_option maxHeartbeats 400000 in
theorem hash_any (S : Nat) (a b c d : Int) (w : World) (hS : S < 18446744073709551616) :
    Calls Try.prog 81 #[.int .u64 S, .int .i64 a, .int .i64 b, .int .i64 c, .int .i64 d] w fun e w' => e = .returned (.int .u64 (hashN S a b c d)) ∧ w' = w := by
  go_enter Try.func81, Try.ntmps81
  go_wp2_with (go_at_call 99; go_must (refine (mix_any S _ hS).mono ?_); rintro e w' ⟨rfl, rfl⟩)
  go_loop [11, 21] (fun x i => ∃ k : Nat, k ≤ 4 ∧ i = .int .i64 k ∧ x = .int .u64 (chain link (mixN S) [a, b, c, d] k)) (fun _ i => 4 - (intOf i).toNat)
  case atStart => exact ⟨0, by omega, rfl, val_nat (chain_0 link (mixN S) a b c d).symm⟩
  case round =>
    obtain ⟨k, hk, rfl, rfl⟩ := hrel
    have hh := chain_lt S [a, b, c, d] k
    have hk5 : k = 0 ∨ k = 1 ∨ k = 2 ∨ k = 3 ∨ k = 4 := by omega
    rcases hk5 with rfl | rfl | rfl | rfl | rfl
    · have HL : Hid (chain link (mixN S) [a, b, c, d] 1 = link (chain link (mixN S) [a, b, c, d] 0) a) := chain_1 link (mixN S) a b c d
      generalize chain link (mixN S) [a, b, c, d] 0 = h at *
      have e1 := go_asN a
      have ix : ∀ w, (Instr.index 133 (.agg #[.int .i64 a, .int .i64 b, .int .i64 c, .int .i64 d]) (.int .i64 0)).run Try.prog w = .ok (.int .i64 a) w := fun _ => by kernel_rfl
      have e2 := go_link h a hh
      go_wp2_with (go_at_call 99; go_must (refine (mix_any _ _ (Nat.mod_lt _ (by decide))).mono ?_); rintro e w' ⟨rfl, rfl⟩)
      go_round
      case rel => exact ⟨1, by omega, rfl, val_nat (by rw [HL.out, link_eq])⟩
      case measure => simp [intOf]
    · have HL : Hid (chain link (mixN S) [a, b, c, d] 2 = link (chain link (mixN S) [a, b, c, d] 1) b) := chain_2 link (mixN S) a b c d
      generalize chain link (mixN S) [a, b, c, d] 1 = h at *
      have e1 := go_asN b
      have ix : ∀ w, (Instr.index 133 (.agg #[.int .i64 a, .int .i64 b, .int .i64 c, .int .i64 d]) (.int .i64 1)).run Try.prog w = .ok (.int .i64 b) w := fun _ => by kernel_rfl
      have e2 := go_link h b hh
      go_wp2_with (go_at_call 99; go_must (refine (mix_any _ _ (Nat.mod_lt _ (by decide))).mono ?_); rintro e w' ⟨rfl, rfl⟩)
      go_round
      case rel => exact ⟨2, by omega, rfl, val_nat (by rw [HL.out, link_eq])⟩
      case measure => simp [intOf]
    · have HL : Hid (chain link (mixN S) [a, b, c, d] 3 = link (chain link (mixN S) [a, b, c, d] 2) c) := chain_3 link (mixN S) a b c d
      generalize chain link (mixN S) [a, b, c, d] 2 = h at *
      have e1 := go_asN c
      have ix : ∀ w, (Instr.index 133 (.agg #[.int .i64 a, .int .i64 b, .int .i64 c, .int .i64 d]) (.int .i64 2)).run Try.prog w = .ok (.int .i64 c) w := fun _ => by kernel_rfl
      have e2 := go_link h c hh
      go_wp2_with (go_at_call 99; go_must (refine (mix_any _ _ (Nat.mod_lt _ (by decide))).mono ?_); rintro e w' ⟨rfl, rfl⟩)
      go_round
      case rel => exact ⟨3, by omega, rfl, val_nat (by rw [HL.out, link_eq])⟩
      case measure => simp [intOf]
    · have HL : Hid (chain link (mixN S) [a, b, c, d] 4 = link (chain link (mixN S) [a, b, c, d] 3) d) := chain_4 link (mixN S) a b c d
      generalize chain link (mixN S) [a, b, c, d] 3 = h at *
      have e1 := go_asN d
      have ix : ∀ w, (Instr.index 133 (.agg #[.int .i64 a, .int .i64 b, .int .i64 c, .int .i64 d]) (.int .i64 3)).run Try.prog w = .ok (.int .i64 d) w := fun _ => by kernel_rfl
      have e2 := go_link h d hh
      go_wp2_with (go_at_call 99; go_must (refine (mix_any _ _ (Nat.mod_lt _ (by decide))).mono ?_); rintro e w' ⟨rfl, rfl⟩)
      go_round
      case rel => exact ⟨4, by omega, rfl, val_nat (by rw [HL.out, link_eq])⟩
      case measure => simp [intOf]
    · have HC : Hid (chain link (mixN S) [a, b, c, d] 4 = hashN S a b c d) := chain_all S a b c d
      generalize chain link (mixN S) [a, b, c, d] 4 = h at *
      go_wp2
      go_ret
      exact ⟨ret_int (by rw [HC.out]), rfl⟩
end
section
open Go.RowKit

set_option maxHeartbeats 400000 in
theorem rhash_any (S : Nat) (a b c d : Int) (w : World) (hS : S < 18446744073709551616) :
    Calls Try.prog 51 #[.int .u64 S, .int .i64 a, .int .i64 b, .int .i64 c, .int .i64 d] w fun e w' => e = .returned (.int .u64 (hashN S a b c d)) ∧ Below w.heap.size w w' := by
  have hw : Hid (Below w.heap.size w (w.alloc (.cells #[.int .i64 a, .int .i64 b, .int .i64 c, .int .i64 d] 133))) := (Below.refl _ _).alloc (Nat.le_refl _) _
  have c0 : (w.alloc (.cells #[.int .i64 a, .int .i64 b, .int .i64 c, .int .i64 d] 133)).cell? ⟨w.heap.size, 0, none⟩ = some (.int .i64 a) := by rw [cell_of_row _ _ _ _ _ _ (heap_alloc_new w _)]; rfl
  have c1 : (w.alloc (.cells #[.int .i64 a, .int .i64 b, .int .i64 c, .int .i64 d] 133)).cell? ⟨w.heap.size, 1, none⟩ = some (.int .i64 b) := by rw [cell_of_row _ _ _ _ _ _ (heap_alloc_new w _)]; rfl
  have c2 : (w.alloc (.cells #[.int .i64 a, .int .i64 b, .int .i64 c, .int .i64 d] 133)).cell? ⟨w.heap.size, 2, none⟩ = some (.int .i64 c) := by rw [cell_of_row _ _ _ _ _ _ (heap_alloc_new w _)]; rfl
  have c3 : (w.alloc (.cells #[.int .i64 a, .int .i64 b, .int .i64 c, .int .i64 d] 133)).cell? ⟨w.heap.size, 3, none⟩ = some (.int .i64 d) := by rw [cell_of_row _ _ _ _ _ _ (heap_alloc_new w _)]; rfl
  go_enter Try.func51, Try.ntmps51
  go_wp2_with (go_at_call 70; go_must (refine (rmix_any S _ hS).mono ?_); rintro e w' ⟨rfl, hw2⟩; subst w')
  generalize (w.alloc (.cells #[.int .i64 a, .int .i64 b, .int .i64 c, .int .i64 d] 133)) = W at *
  go_loop [11, 13] (fun x i => ∃ k : Nat, k ≤ 4 ∧ i = .int .i64 k ∧ x = .int .u64 (chain link (mixN S) [a, b, c, d] k)) (fun _ i => 4 - (intOf i).toNat)
  case atStart => exact ⟨0, by omega, rfl, val_nat (chain_0 link (mixN S) a b c d).symm⟩
  case round =>
    obtain ⟨k, hk, rfl, rfl⟩ := hrel
    have hh := chain_lt S [a, b, c, d] k
    have hk5 : k = 0 ∨ k = 1 ∨ k = 2 ∨ k = 3 ∨ k = 4 := by omega
    rcases hk5 with rfl | rfl | rfl | rfl | rfl
    · have HL : Hid (chain link (mixN S) [a, b, c, d] 1 = link (chain link (mixN S) [a, b, c, d] 0) a) := chain_1 link (mixN S) a b c d
      generalize chain link (mixN S) [a, b, c, d] 0 = h at *
      have e1 := go_asN a
      have e2 := go_link h a hh
      go_wp2_with (go_at_call 70; go_must (refine (rmix_any _ _ (Nat.mod_lt _ (by decide))).mono ?_); rintro e w' ⟨rfl, hw2⟩; subst w')
      go_round
      case rel => exact ⟨1, by omega, rfl, val_nat (by rw [HL.out, link_eq])⟩
      case measure => simp [intOf]
    · have HL : Hid (chain link (mixN S) [a, b, c, d] 2 = link (chain link (mixN S) [a, b, c, d] 1) b) := chain_2 link (mixN S) a b c d
      generalize chain link (mixN S) [a, b, c, d] 1 = h at *
      have e1 := go_asN b
      have e2 := go_link h b hh
      go_wp2_with (go_at_call 70; go_must (refine (rmix_any _ _ (Nat.mod_lt _ (by decide))).mono ?_); rintro e w' ⟨rfl, hw2⟩; subst w')
      go_round
      case rel => exact ⟨2, by omega, rfl, val_nat (by rw [HL.out, link_eq])⟩
      case measure => simp [intOf]
    · have HL : Hid (chain link (mixN S) [a, b, c, d] 3 = link (chain link (mixN S) [a, b, c, d] 2) c) := chain_3 link (mixN S) a b c d
      generalize chain link (mixN S) [a, b, c, d] 2 = h at *
      have e1 := go_asN c
      have e2 := go_link h c hh
      go_wp2_with (go_at_call 70; go_must (refine (rmix_any _ _ (Nat.mod_lt _ (by decide))).mono ?_); rintro e w' ⟨rfl, hw2⟩; subst w')
      go_round
      case rel => exact ⟨3, by omega, rfl, val_nat (by rw [HL.out, link_eq])⟩
      case measure => simp [intOf]
    · have HL : Hid (chain link (mixN S) [a, b, c, d] 4 = link (chain link (mixN S) [a, b, c, d] 3) d) := chain_4 link (mixN S) a b c d
      generalize chain link (mixN S) [a, b, c, d] 3 = h at *
      have e1 := go_asN d
      have e2 := go_link h d hh
      go_wp2_with (go_at_call 70; go_must (refine (rmix_any _ _ (Nat.mod_lt _ (by decide))).mono ?_); rintro e w' ⟨rfl, hw2⟩; subst w')
      go_round
      case rel => exact ⟨4, by omega, rfl, val_nat (by rw [HL.out, link_eq])⟩
      case measure => simp [intOf]
    · have HC : Hid (chain link (mixN S) [a, b, c, d] 4 = hashN S a b c d) := chain_all S a b c d
      generalize chain link (mixN S) [a, b, c, d] 4 = h at *
      go_wp2
      go_ret
      exact ⟨ret_int (by rw [HC.out]), hw.out⟩

theorem belowN_out (h : Nat) (n : Int) (hn : n < 1 ∨ 2147483647 < n) : belowN h n = 0 := by unfold belowN; rw [if_pos hn]
theorem belowN_in (h : Nat) (n : Int) (h1 : ¬ n < 1) (h2 : ¬ 2147483647 < n) : belowN h n = (h : Int) / 4294967296 * n / 4294967296 := by unfold belowN; rw [if_neg (by omega)]
theorem high_bd (h : Nat) (hh : h < 18446744073709551616) : 0 ≤ (h : Int) / 4294967296 ∧ (h : Int) / 4294967296 ≤ 4294967295 := by omega
theorem go_below (A n : Int) (a0 : 0 ≤ A) (a1 : A ≤ 4294967295) (h1 : ¬ n < 1) (h2 : ¬ 2147483647 < n) : wrap64 (IntKind.u64.wrap (A * n) / 4294967296) = A * n / 4294967296 := by
  have m0 : 0 ≤ A * n := Int.mul_nonneg a0 (by omega)
  have m1 : A * n ≤ 4294967295 * 2147483647 := Int.mul_le_mul a1 (by omega) (by omega) (by omega)
  rw [IntKind.wrap_u64]
  generalize A * n = p at *
  rw [Int.emod_eq_of_lt m0 (by omega)]
  unfold wrap64
  omega
set_option maxHeartbeats 400000 in
theorem below_any (h : Nat) (n : Int) (w : World) (hh : h < 18446744073709551616) (_hn : -9223372036854775808 ≤ n ∧ n ≤ 9223372036854775807) :
    Calls Try.prog 82 #[.int .u64 h, .int .i64 n] w fun e w' => e = .returned (.int .i64 (belowN h n)) ∧ w' = w := by
  by_cases h1 : n < 1
  · have HB : Hid (belowN h n = 0) := belowN_out h n (.inl h1)
    go_enter Try.func82, Try.ntmps82
    go_wp2
    go_ret
    exact ⟨ret_int (by rw [HB.out]), rfl⟩
  · by_cases h2 : 2147483647 < n
    · have HB : Hid (belowN h n = 0) := belowN_out h n (.inr h2)
      go_enter Try.func82, Try.ntmps82
      go_wp2
      go_ret
      exact ⟨ret_int (by rw [HB.out]), rfl⟩
    · have HB : Hid (wrap64 (IntKind.u64.wrap ((h : Int) / 4294967296 * n) / 4294967296) = belowN h n) := by
        show _ = _
        rw [belowN_in h n h1 h2]
        exact go_below _ n (high_bd h hh).1 (high_bd h hh).2 h1 h2
      go_enter Try.func82, Try.ntmps82
      go_wp2
      go_ret
      exact ⟨ret_int HB.out, rfl⟩
set_option maxHeartbeats 400000 in
theorem rbelow_any (h : Nat) (n : Int) (w : World) (hh : h < 18446744073709551616) (_hn : -9223372036854775808 ≤ n ∧ n ≤ 9223372036854775807) :
    Calls Try.prog 52 #[.int .u64 h, .int .i64 n] w fun e w' => e = .returned (.int .i64 (belowN h n)) ∧ w' = w := by
  by_cases h1 : n < 1
  · have HB : Hid (belowN h n = 0) := belowN_out h n (.inl h1)
    go_enter Try.func52, Try.ntmps52
    go_wp2
    go_ret
    exact ⟨ret_int (by rw [HB.out]), rfl⟩
  · by_cases h2 : 2147483647 < n
    · have HB : Hid (belowN h n = 0) := belowN_out h n (.inr h2)
      go_enter Try.func52, Try.ntmps52
      go_wp2
      go_ret
      exact ⟨ret_int (by rw [HB.out]), rfl⟩
    · have HB : Hid (wrap64 (IntKind.u64.wrap ((h : Int) / 4294967296 * n) / 4294967296) = belowN h n) := by
        show _ = _
        rw [belowN_in h n h1 h2]
        exact go_below _ n (high_bd h hh).1 (high_bd h hh).2 h1 h2
      go_enter Try.func52, Try.ntmps52
      go_wp2
      go_ret
      exact ⟨ret_int HB.out, rfl⟩
end
end Go.Proofs.Ytbdjgaagafnfaaa.R
