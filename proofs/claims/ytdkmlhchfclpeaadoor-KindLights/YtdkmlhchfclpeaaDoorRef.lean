/-
  What the document's answers about a kind are, for every number and every text; whatever lay is as it lay.
-/
import Derived.Test.YtdkmlhchfclpeaaDoorKinds
namespace Go.Proofs.YtdkmlhchfclpeaaDoor
open Go.RowKit

theorem rnm_neg (k : Int) (h0 : k < 0) (w : World) : Calls Tryd.prog 9 #[.int .i64 k] w fun x w' => x = .returned (.string (nm 16)) ∧ Below w.heap.size w w' := by

  go_enter Tryd.func9, Tryd.ntmps9
  go_wp2
  go_ret
  exact ⟨rfl, (Below.refl _ _).alloc (Nat.le_refl _) _⟩
theorem rnm_big (k : Int) (h0 : ¬ k < 0) (h1 : 15 < k) (w : World) : Calls Tryd.prog 9 #[.int .i64 k] w fun x w' => x = .returned (.string (nm 16)) ∧ Below w.heap.size w w' := by

  go_enter Tryd.func9, Tryd.ntmps9
  go_wp2
  go_ret
  exact ⟨rfl, (Below.refl _ _).alloc (Nat.le_refl _) _⟩
theorem lit_nm {K : Nat} (h : K < 16) (w : World) : (w.alloc (.cells #[.string ⟨#[97, 105, 114]⟩, .string ⟨#[115, 116, 111, 110, 101]⟩, .string ⟨#[100, 105, 114, 116]⟩, .string ⟨#[103, 114, 97, 115, 115]⟩, .string ⟨#[115, 97, 110, 100]⟩, .string ⟨#[119, 97, 116, 101, 114]⟩, .string ⟨#[103, 114, 97, 118, 101, 108]⟩, .string ⟨#[99, 111, 97, 108]⟩, .string ⟨#[105, 114, 111, 110]⟩, .string ⟨#[103, 111, 108, 100]⟩, .string ⟨#[108, 111, 103]⟩, .string ⟨#[108, 101, 97, 118, 101, 115]⟩, .string ⟨#[98, 114, 105, 99, 107]⟩, .string ⟨#[108, 97, 109, 112]⟩, .string ⟨#[103, 108, 97, 115, 115]⟩, .string ⟨#[98, 101, 100, 114, 111, 99, 107]⟩] 35)).cell? ⟨w.heap.size, K, none⟩ = some (.string (nm K)) := by
  rw [cell_of_row _ _ _ _ _ _ (heap_alloc_new w _)]
  iterate 16 (rcases K with _ | K; rfl)
  omega
theorem rnm_in {K : Nat} (h : K < 16) (w : World) : Calls Tryd.prog 9 #[.int .i64 K] w fun x w' => x = .returned (.string (nm K)) ∧ Below w.heap.size w w' := by
  have hc := lit_nm h w
  have h0 : ¬ (K : Int) < 0 := by omega
  have h1 : ¬ (15 : Int) < K := by omega
  generalize nm K = s at hc
  go_enter Tryd.func9, Tryd.ntmps9
  go_wp2
  go_ret
  exact ⟨rfl, (Below.refl _ _).alloc (Nat.le_refl _) _⟩
theorem ref_nm (k : Int) (w : World) (N : Nat) (hN : rowOf k = N) : Calls Tryd.prog 9 #[.int .i64 k] w fun x w' => x = .returned (.string (nm N)) ∧ Below w.heap.size w w' := by
  rcases row_cases k with ⟨h0, e⟩ | ⟨h0, h1, e⟩ | ⟨K, rfl, h1, e⟩
  · obtain rfl : N = 16 := hN.symm.trans e
    exact rnm_neg k h0 w
  · obtain rfl : N = 16 := hN.symm.trans e
    exact rnm_big k h0 (by omega) w
  · obtain rfl : N = K := hN.symm.trans e
    exact rnm_in h1 w

theorem rls_0 (w : World) : Calls Tryd.prog 17 #[.int .i64 0] w fun x w' => x = .returned (.int .i64 (ls 0)) ∧ Below w.heap.size w w' := by
  go_enter Tryd.func17, Tryd.ntmps17
  go_wp2
  go_ret
  exact ⟨rfl, Below.refl _ _⟩
theorem rls_1 (w : World) : Calls Tryd.prog 17 #[.int .i64 1] w fun x w' => x = .returned (.int .i64 (ls 1)) ∧ Below w.heap.size w w' := by
  go_enter Tryd.func17, Tryd.ntmps17
  go_wp2
  go_ret
  exact ⟨rfl, Below.refl _ _⟩
theorem rls_2 (w : World) : Calls Tryd.prog 17 #[.int .i64 2] w fun x w' => x = .returned (.int .i64 (ls 2)) ∧ Below w.heap.size w w' := by
  go_enter Tryd.func17, Tryd.ntmps17
  go_wp2
  go_ret
  exact ⟨rfl, Below.refl _ _⟩
theorem rls_3 (w : World) : Calls Tryd.prog 17 #[.int .i64 3] w fun x w' => x = .returned (.int .i64 (ls 3)) ∧ Below w.heap.size w w' := by
  go_enter Tryd.func17, Tryd.ntmps17
  go_wp2
  go_ret
  exact ⟨rfl, Below.refl _ _⟩
theorem rls_4 (w : World) : Calls Tryd.prog 17 #[.int .i64 4] w fun x w' => x = .returned (.int .i64 (ls 4)) ∧ Below w.heap.size w w' := by
  go_enter Tryd.func17, Tryd.ntmps17
  go_wp2
  go_ret
  exact ⟨rfl, Below.refl _ _⟩
theorem rls_5 (w : World) : Calls Tryd.prog 17 #[.int .i64 5] w fun x w' => x = .returned (.int .i64 (ls 5)) ∧ Below w.heap.size w w' := by
  go_enter Tryd.func17, Tryd.ntmps17
  go_wp2
  go_ret
  exact ⟨rfl, Below.refl _ _⟩
theorem rls_6 (w : World) : Calls Tryd.prog 17 #[.int .i64 6] w fun x w' => x = .returned (.int .i64 (ls 6)) ∧ Below w.heap.size w w' := by
  go_enter Tryd.func17, Tryd.ntmps17
  go_wp2
  go_ret
  exact ⟨rfl, Below.refl _ _⟩
theorem rls_7 (w : World) : Calls Tryd.prog 17 #[.int .i64 7] w fun x w' => x = .returned (.int .i64 (ls 7)) ∧ Below w.heap.size w w' := by
  go_enter Tryd.func17, Tryd.ntmps17
  go_wp2
  go_ret
  exact ⟨rfl, Below.refl _ _⟩
theorem rls_8 (w : World) : Calls Tryd.prog 17 #[.int .i64 8] w fun x w' => x = .returned (.int .i64 (ls 8)) ∧ Below w.heap.size w w' := by
  go_enter Tryd.func17, Tryd.ntmps17
  go_wp2
  go_ret
  exact ⟨rfl, Below.refl _ _⟩
theorem rls_9 (w : World) : Calls Tryd.prog 17 #[.int .i64 9] w fun x w' => x = .returned (.int .i64 (ls 9)) ∧ Below w.heap.size w w' := by
  go_enter Tryd.func17, Tryd.ntmps17
  go_wp2
  go_ret
  exact ⟨rfl, Below.refl _ _⟩
theorem rls_10 (w : World) : Calls Tryd.prog 17 #[.int .i64 10] w fun x w' => x = .returned (.int .i64 (ls 10)) ∧ Below w.heap.size w w' := by
  go_enter Tryd.func17, Tryd.ntmps17
  go_wp2
  go_ret
  exact ⟨rfl, Below.refl _ _⟩
theorem rls_11 (w : World) : Calls Tryd.prog 17 #[.int .i64 11] w fun x w' => x = .returned (.int .i64 (ls 11)) ∧ Below w.heap.size w w' := by
  go_enter Tryd.func17, Tryd.ntmps17
  go_wp2
  go_ret
  exact ⟨rfl, Below.refl _ _⟩
theorem rls_12 (w : World) : Calls Tryd.prog 17 #[.int .i64 12] w fun x w' => x = .returned (.int .i64 (ls 12)) ∧ Below w.heap.size w w' := by
  go_enter Tryd.func17, Tryd.ntmps17
  go_wp2
  go_ret
  exact ⟨rfl, Below.refl _ _⟩
theorem rls_13 (w : World) : Calls Tryd.prog 17 #[.int .i64 13] w fun x w' => x = .returned (.int .i64 (ls 13)) ∧ Below w.heap.size w w' := by
  go_enter Tryd.func17, Tryd.ntmps17
  go_wp2
  go_ret
  exact ⟨rfl, Below.refl _ _⟩
theorem rls_14 (w : World) : Calls Tryd.prog 17 #[.int .i64 14] w fun x w' => x = .returned (.int .i64 (ls 14)) ∧ Below w.heap.size w w' := by
  go_enter Tryd.func17, Tryd.ntmps17
  go_wp2
  go_ret
  exact ⟨rfl, Below.refl _ _⟩
theorem rls_15 (w : World) : Calls Tryd.prog 17 #[.int .i64 15] w fun x w' => x = .returned (.int .i64 (ls 15)) ∧ Below w.heap.size w w' := by
  go_enter Tryd.func17, Tryd.ntmps17
  go_wp2
  go_ret
  exact ⟨rfl, Below.refl _ _⟩
theorem rls_neg (k : Int) (h0 : k < 0) (w : World) : Calls Tryd.prog 17 #[.int .i64 k] w fun x w' => x = .returned (.int .i64 (ls 16)) ∧ Below w.heap.size w w' := by

  go_enter Tryd.func17, Tryd.ntmps17
  go_wp2
  go_ret
  exact ⟨rfl, Below.refl _ _⟩
theorem rls_big (k : Int) (h0 : ¬ k < 0) (h1 : 15 < k) (w : World) : Calls Tryd.prog 17 #[.int .i64 k] w fun x w' => x = .returned (.int .i64 (ls 16)) ∧ Below w.heap.size w w' := by

  go_enter Tryd.func17, Tryd.ntmps17
  go_wp2
  go_ret
  exact ⟨rfl, Below.refl _ _⟩
theorem ref_ls (k : Int) (w : World) (N : Nat) (hN : rowOf k = N) : Calls Tryd.prog 17 #[.int .i64 k] w fun x w' => x = .returned (.int .i64 (ls N)) ∧ Below w.heap.size w w' := by
  rcases row_cases k with ⟨h0, e⟩ | ⟨h0, h1, e⟩ | ⟨K, rfl, h1, e⟩
  · obtain rfl : N = 16 := hN.symm.trans e
    exact rls_neg k h0 w
  · obtain rfl : N = 16 := hN.symm.trans e
    exact rls_big k h0 (by omega) w
  · obtain rfl : N = K := hN.symm.trans e
    match N, h1 with
    | 0, _ => exact rls_0 w
    | 1, _ => exact rls_1 w
    | 2, _ => exact rls_2 w
    | 3, _ => exact rls_3 w
    | 4, _ => exact rls_4 w
    | 5, _ => exact rls_5 w
    | 6, _ => exact rls_6 w
    | 7, _ => exact rls_7 w
    | 8, _ => exact rls_8 w
    | 9, _ => exact rls_9 w
    | 10, _ => exact rls_10 w
    | 11, _ => exact rls_11 w
    | 12, _ => exact rls_12 w
    | 13, _ => exact rls_13 w
    | 14, _ => exact rls_14 w
    | 15, _ => exact rls_15 w
    | n + 16, h => exact absurd h (by omega)

theorem rcl_0 (w : World) : Calls Tryd.prog 16 #[.int .i64 0] w fun x w' => x = .returned (.bool (cl 0)) ∧ Below w.heap.size w w' := by
  go_enter Tryd.func16, Tryd.ntmps16
  go_wp2
  go_ret
  exact ⟨rfl, Below.refl _ _⟩
theorem rcl_1 (w : World) : Calls Tryd.prog 16 #[.int .i64 1] w fun x w' => x = .returned (.bool (cl 1)) ∧ Below w.heap.size w w' := by
  go_enter Tryd.func16, Tryd.ntmps16
  go_wp2
  go_ret
  exact ⟨rfl, Below.refl _ _⟩
theorem rcl_2 (w : World) : Calls Tryd.prog 16 #[.int .i64 2] w fun x w' => x = .returned (.bool (cl 2)) ∧ Below w.heap.size w w' := by
  go_enter Tryd.func16, Tryd.ntmps16
  go_wp2
  go_ret
  exact ⟨rfl, Below.refl _ _⟩
theorem rcl_3 (w : World) : Calls Tryd.prog 16 #[.int .i64 3] w fun x w' => x = .returned (.bool (cl 3)) ∧ Below w.heap.size w w' := by
  go_enter Tryd.func16, Tryd.ntmps16
  go_wp2
  go_ret
  exact ⟨rfl, Below.refl _ _⟩
theorem rcl_4 (w : World) : Calls Tryd.prog 16 #[.int .i64 4] w fun x w' => x = .returned (.bool (cl 4)) ∧ Below w.heap.size w w' := by
  go_enter Tryd.func16, Tryd.ntmps16
  go_wp2
  go_ret
  exact ⟨rfl, Below.refl _ _⟩
theorem rcl_5 (w : World) : Calls Tryd.prog 16 #[.int .i64 5] w fun x w' => x = .returned (.bool (cl 5)) ∧ Below w.heap.size w w' := by
  go_enter Tryd.func16, Tryd.ntmps16
  go_wp2
  go_ret
  exact ⟨rfl, Below.refl _ _⟩
theorem rcl_6 (w : World) : Calls Tryd.prog 16 #[.int .i64 6] w fun x w' => x = .returned (.bool (cl 6)) ∧ Below w.heap.size w w' := by
  go_enter Tryd.func16, Tryd.ntmps16
  go_wp2
  go_ret
  exact ⟨rfl, Below.refl _ _⟩
theorem rcl_7 (w : World) : Calls Tryd.prog 16 #[.int .i64 7] w fun x w' => x = .returned (.bool (cl 7)) ∧ Below w.heap.size w w' := by
  go_enter Tryd.func16, Tryd.ntmps16
  go_wp2
  go_ret
  exact ⟨rfl, Below.refl _ _⟩
theorem rcl_8 (w : World) : Calls Tryd.prog 16 #[.int .i64 8] w fun x w' => x = .returned (.bool (cl 8)) ∧ Below w.heap.size w w' := by
  go_enter Tryd.func16, Tryd.ntmps16
  go_wp2
  go_ret
  exact ⟨rfl, Below.refl _ _⟩
theorem rcl_9 (w : World) : Calls Tryd.prog 16 #[.int .i64 9] w fun x w' => x = .returned (.bool (cl 9)) ∧ Below w.heap.size w w' := by
  go_enter Tryd.func16, Tryd.ntmps16
  go_wp2
  go_ret
  exact ⟨rfl, Below.refl _ _⟩
theorem rcl_10 (w : World) : Calls Tryd.prog 16 #[.int .i64 10] w fun x w' => x = .returned (.bool (cl 10)) ∧ Below w.heap.size w w' := by
  go_enter Tryd.func16, Tryd.ntmps16
  go_wp2
  go_ret
  exact ⟨rfl, Below.refl _ _⟩
theorem rcl_11 (w : World) : Calls Tryd.prog 16 #[.int .i64 11] w fun x w' => x = .returned (.bool (cl 11)) ∧ Below w.heap.size w w' := by
  go_enter Tryd.func16, Tryd.ntmps16
  go_wp2
  go_ret
  exact ⟨rfl, Below.refl _ _⟩
theorem rcl_12 (w : World) : Calls Tryd.prog 16 #[.int .i64 12] w fun x w' => x = .returned (.bool (cl 12)) ∧ Below w.heap.size w w' := by
  go_enter Tryd.func16, Tryd.ntmps16
  go_wp2
  go_ret
  exact ⟨rfl, Below.refl _ _⟩
theorem rcl_13 (w : World) : Calls Tryd.prog 16 #[.int .i64 13] w fun x w' => x = .returned (.bool (cl 13)) ∧ Below w.heap.size w w' := by
  go_enter Tryd.func16, Tryd.ntmps16
  go_wp2
  go_ret
  exact ⟨rfl, Below.refl _ _⟩
theorem rcl_14 (w : World) : Calls Tryd.prog 16 #[.int .i64 14] w fun x w' => x = .returned (.bool (cl 14)) ∧ Below w.heap.size w w' := by
  go_enter Tryd.func16, Tryd.ntmps16
  go_wp2
  go_ret
  exact ⟨rfl, Below.refl _ _⟩
theorem rcl_15 (w : World) : Calls Tryd.prog 16 #[.int .i64 15] w fun x w' => x = .returned (.bool (cl 15)) ∧ Below w.heap.size w w' := by
  go_enter Tryd.func16, Tryd.ntmps16
  go_wp2
  go_ret
  exact ⟨rfl, Below.refl _ _⟩
theorem rcl_neg (k : Int) (h0 : k < 0) (w : World) : Calls Tryd.prog 16 #[.int .i64 k] w fun x w' => x = .returned (.bool (cl 16)) ∧ Below w.heap.size w w' := by
  have n0 : ¬ k = 0 := by omega
  have n14 : ¬ k = 14 := by omega
  go_enter Tryd.func16, Tryd.ntmps16
  go_wp2
  go_ret
  exact ⟨ret_bool (by rw [beq_false_of_ne n0, beq_false_of_ne n14]; rfl), Below.refl _ _⟩
theorem rcl_big (k : Int) (_ : ¬ k < 0) (h1 : 15 < k) (w : World) : Calls Tryd.prog 16 #[.int .i64 k] w fun x w' => x = .returned (.bool (cl 16)) ∧ Below w.heap.size w w' := by
  have n0 : ¬ k = 0 := by omega
  have n14 : ¬ k = 14 := by omega
  go_enter Tryd.func16, Tryd.ntmps16
  go_wp2
  go_ret
  exact ⟨ret_bool (by rw [beq_false_of_ne n0, beq_false_of_ne n14]; rfl), Below.refl _ _⟩
theorem ref_cl (k : Int) (w : World) (N : Nat) (hN : rowOf k = N) : Calls Tryd.prog 16 #[.int .i64 k] w fun x w' => x = .returned (.bool (cl N)) ∧ Below w.heap.size w w' := by
  rcases row_cases k with ⟨h0, e⟩ | ⟨h0, h1, e⟩ | ⟨K, rfl, h1, e⟩
  · obtain rfl : N = 16 := hN.symm.trans e
    exact rcl_neg k h0 w
  · obtain rfl : N = 16 := hN.symm.trans e
    exact rcl_big k h0 (by omega) w
  · obtain rfl : N = K := hN.symm.trans e
    match N, h1 with
    | 0, _ => exact rcl_0 w
    | 1, _ => exact rcl_1 w
    | 2, _ => exact rcl_2 w
    | 3, _ => exact rcl_3 w
    | 4, _ => exact rcl_4 w
    | 5, _ => exact rcl_5 w
    | 6, _ => exact rcl_6 w
    | 7, _ => exact rcl_7 w
    | 8, _ => exact rcl_8 w
    | 9, _ => exact rcl_9 w
    | 10, _ => exact rcl_10 w
    | 11, _ => exact rcl_11 w
    | 12, _ => exact rcl_12 w
    | 13, _ => exact rcl_13 w
    | 14, _ => exact rcl_14 w
    | 15, _ => exact rcl_15 w
    | n + 16, h => exact absurd h (by omega)

theorem rem_0 (w : World) : Calls Tryd.prog 19 #[.int .i64 0] w fun x w' => x = .returned (.int .i64 (em 0)) ∧ Below w.heap.size w w' := by
  go_enter Tryd.func19, Tryd.ntmps19
  go_wp2
  go_ret
  exact ⟨rfl, Below.refl _ _⟩
theorem rem_1 (w : World) : Calls Tryd.prog 19 #[.int .i64 1] w fun x w' => x = .returned (.int .i64 (em 1)) ∧ Below w.heap.size w w' := by
  go_enter Tryd.func19, Tryd.ntmps19
  go_wp2
  go_ret
  exact ⟨rfl, Below.refl _ _⟩
theorem rem_2 (w : World) : Calls Tryd.prog 19 #[.int .i64 2] w fun x w' => x = .returned (.int .i64 (em 2)) ∧ Below w.heap.size w w' := by
  go_enter Tryd.func19, Tryd.ntmps19
  go_wp2
  go_ret
  exact ⟨rfl, Below.refl _ _⟩
theorem rem_3 (w : World) : Calls Tryd.prog 19 #[.int .i64 3] w fun x w' => x = .returned (.int .i64 (em 3)) ∧ Below w.heap.size w w' := by
  go_enter Tryd.func19, Tryd.ntmps19
  go_wp2
  go_ret
  exact ⟨rfl, Below.refl _ _⟩
theorem rem_4 (w : World) : Calls Tryd.prog 19 #[.int .i64 4] w fun x w' => x = .returned (.int .i64 (em 4)) ∧ Below w.heap.size w w' := by
  go_enter Tryd.func19, Tryd.ntmps19
  go_wp2
  go_ret
  exact ⟨rfl, Below.refl _ _⟩
theorem rem_5 (w : World) : Calls Tryd.prog 19 #[.int .i64 5] w fun x w' => x = .returned (.int .i64 (em 5)) ∧ Below w.heap.size w w' := by
  go_enter Tryd.func19, Tryd.ntmps19
  go_wp2
  go_ret
  exact ⟨rfl, Below.refl _ _⟩
theorem rem_6 (w : World) : Calls Tryd.prog 19 #[.int .i64 6] w fun x w' => x = .returned (.int .i64 (em 6)) ∧ Below w.heap.size w w' := by
  go_enter Tryd.func19, Tryd.ntmps19
  go_wp2
  go_ret
  exact ⟨rfl, Below.refl _ _⟩
theorem rem_7 (w : World) : Calls Tryd.prog 19 #[.int .i64 7] w fun x w' => x = .returned (.int .i64 (em 7)) ∧ Below w.heap.size w w' := by
  go_enter Tryd.func19, Tryd.ntmps19
  go_wp2
  go_ret
  exact ⟨rfl, Below.refl _ _⟩
theorem rem_8 (w : World) : Calls Tryd.prog 19 #[.int .i64 8] w fun x w' => x = .returned (.int .i64 (em 8)) ∧ Below w.heap.size w w' := by
  go_enter Tryd.func19, Tryd.ntmps19
  go_wp2
  go_ret
  exact ⟨rfl, Below.refl _ _⟩
theorem rem_9 (w : World) : Calls Tryd.prog 19 #[.int .i64 9] w fun x w' => x = .returned (.int .i64 (em 9)) ∧ Below w.heap.size w w' := by
  go_enter Tryd.func19, Tryd.ntmps19
  go_wp2
  go_ret
  exact ⟨rfl, Below.refl _ _⟩
theorem rem_10 (w : World) : Calls Tryd.prog 19 #[.int .i64 10] w fun x w' => x = .returned (.int .i64 (em 10)) ∧ Below w.heap.size w w' := by
  go_enter Tryd.func19, Tryd.ntmps19
  go_wp2
  go_ret
  exact ⟨rfl, Below.refl _ _⟩
theorem rem_11 (w : World) : Calls Tryd.prog 19 #[.int .i64 11] w fun x w' => x = .returned (.int .i64 (em 11)) ∧ Below w.heap.size w w' := by
  go_enter Tryd.func19, Tryd.ntmps19
  go_wp2
  go_ret
  exact ⟨rfl, Below.refl _ _⟩
theorem rem_12 (w : World) : Calls Tryd.prog 19 #[.int .i64 12] w fun x w' => x = .returned (.int .i64 (em 12)) ∧ Below w.heap.size w w' := by
  go_enter Tryd.func19, Tryd.ntmps19
  go_wp2
  go_ret
  exact ⟨rfl, Below.refl _ _⟩
theorem rem_13 (w : World) : Calls Tryd.prog 19 #[.int .i64 13] w fun x w' => x = .returned (.int .i64 (em 13)) ∧ Below w.heap.size w w' := by
  go_enter Tryd.func19, Tryd.ntmps19
  go_wp2
  go_ret
  exact ⟨rfl, Below.refl _ _⟩
theorem rem_14 (w : World) : Calls Tryd.prog 19 #[.int .i64 14] w fun x w' => x = .returned (.int .i64 (em 14)) ∧ Below w.heap.size w w' := by
  go_enter Tryd.func19, Tryd.ntmps19
  go_wp2
  go_ret
  exact ⟨rfl, Below.refl _ _⟩
theorem rem_15 (w : World) : Calls Tryd.prog 19 #[.int .i64 15] w fun x w' => x = .returned (.int .i64 (em 15)) ∧ Below w.heap.size w w' := by
  go_enter Tryd.func19, Tryd.ntmps19
  go_wp2
  go_ret
  exact ⟨rfl, Below.refl _ _⟩
theorem rem_neg (k : Int) (h0 : k < 0) (w : World) : Calls Tryd.prog 19 #[.int .i64 k] w fun x w' => x = .returned (.int .i64 (em 16)) ∧ Below w.heap.size w w' := by
  have n13 : ¬ k = 13 := by omega
  have n9 : ¬ k = 9 := by omega
  go_enter Tryd.func19, Tryd.ntmps19
  go_wp2
  go_ret
  exact ⟨rfl, Below.refl _ _⟩
theorem rem_big (k : Int) (_ : ¬ k < 0) (h1 : 15 < k) (w : World) : Calls Tryd.prog 19 #[.int .i64 k] w fun x w' => x = .returned (.int .i64 (em 16)) ∧ Below w.heap.size w w' := by
  have n13 : ¬ k = 13 := by omega
  have n9 : ¬ k = 9 := by omega
  go_enter Tryd.func19, Tryd.ntmps19
  go_wp2
  go_ret
  exact ⟨rfl, Below.refl _ _⟩
theorem ref_em (k : Int) (w : World) (N : Nat) (hN : rowOf k = N) : Calls Tryd.prog 19 #[.int .i64 k] w fun x w' => x = .returned (.int .i64 (em N)) ∧ Below w.heap.size w w' := by
  rcases row_cases k with ⟨h0, e⟩ | ⟨h0, h1, e⟩ | ⟨K, rfl, h1, e⟩
  · obtain rfl : N = 16 := hN.symm.trans e
    exact rem_neg k h0 w
  · obtain rfl : N = 16 := hN.symm.trans e
    exact rem_big k h0 (by omega) w
  · obtain rfl : N = K := hN.symm.trans e
    match N, h1 with
    | 0, _ => exact rem_0 w
    | 1, _ => exact rem_1 w
    | 2, _ => exact rem_2 w
    | 3, _ => exact rem_3 w
    | 4, _ => exact rem_4 w
    | 5, _ => exact rem_5 w
    | 6, _ => exact rem_6 w
    | 7, _ => exact rem_7 w
    | 8, _ => exact rem_8 w
    | 9, _ => exact rem_9 w
    | 10, _ => exact rem_10 w
    | 11, _ => exact rem_11 w
    | 12, _ => exact rem_12 w
    | 13, _ => exact rem_13 w
    | 14, _ => exact rem_14 w
    | 15, _ => exact rem_15 w
    | n + 16, h => exact absurd h (by omega)

theorem op_ls (N : Nat) : (ls N == 16) = op N := by
  by_cases h : N < 16
  · match N, h with
    | 0, _ => rfl
    | 1, _ => rfl
    | 2, _ => rfl
    | 3, _ => rfl
    | 4, _ => rfl
    | 5, _ => rfl
    | 6, _ => rfl
    | 7, _ => rfl
    | 8, _ => rfl
    | 9, _ => rfl
    | 10, _ => rfl
    | 11, _ => rfl
    | 12, _ => rfl
    | 13, _ => rfl
    | 14, _ => rfl
    | 15, _ => rfl
    | n + 16, h => exact absurd h (by omega)
  · have e1 : ls N = 0 := by unfold ls; rw [List.getD_eq_getElem?_getD, List.getElem?_eq_none (by simp [lsL]; omega)]; rfl
    have e2 : op N = false := by unfold op; rw [List.getD_eq_getElem?_getD, List.getElem?_eq_none (by simp [opL]; omega)]; rfl
    rw [e1, e2]; rfl
theorem ref_op (k : Int) (w : World) (N : Nat) (hN : rowOf k = N) : Calls Tryd.prog 15 #[.int .i64 k] w fun x w' => x = .returned (.bool (op N)) ∧ Below w.heap.size w w' := by
  have e := op_ls N
  have hc := ref_ls k w N hN
  generalize ls N = l at e hc
  generalize op N = q at e
  subst e
  go_enter Tryd.func15, Tryd.ntmps15
  go_wp2_with fail
  refine hc.mono ?_
  rintro _ w1 ⟨rfl, b⟩
  go_wp2
  go_ret
  exact ⟨rfl, b⟩

set_option maxRecDepth 100000 in
theorem ref_of (s : ByteArray) (M : Nat) (hM : M ≤ 16) (hno : ∀ j, j < M → nm j ≠ s) (hyes : M < 16 → nm M = s) (w : World) :
    Calls Tryd.prog 11 #[.string s] w fun e w' => e = .returned (.tuple #[.int .i64 (if M < 16 then M else 0), .bool (decide (M < 16))]) ∧ Below w.heap.size w w' := by
  go_enter Tryd.func11, Tryd.ntmps11
  go_wp2
  go_loopw [4] (fun i wr => ∃ k : Nat, k ≤ M ∧ i = .int .i64 k ∧ Below w.heap.size w wr) (fun i _ => 16 - (intOf i).toNat)
  case atStart => exact ⟨0, Nat.zero_le _, rfl, Below.refl _ _⟩
  case round =>
    obtain ⟨k, hk, rfl, bel⟩ := hrel
    by_cases hlt : k < 16
    · have hc := ref_nm k wr k (rowOf_nat hlt)
      have h16 : (k : Int) < 16 := by omega
      by_cases he : k < M
      · have hne : ((nm k).toList == s.toList) = false := str_ne (hno k he)
        generalize nm k = t at hc hne
        go_wp2_with fail
        refine hc.mono ?_
        rintro _ w1 ⟨rfl, b⟩
        go_wp2
        go_roundw
        case rel => exact ⟨k + 1, by omega, by go_num, bel.trans (b.mono bel.size)⟩
        case measure => simp [intOf]; omega
      · obtain rfl : k = M := by omega
        rw [hyes hlt] at hc
        go_wp2_with fail
        refine hc.mono ?_
        rintro _ w1 ⟨rfl, b⟩
        go_wp2
        go_ret2
        exact ⟨by simp, bel.trans (b.mono bel.size)⟩
    · obtain rfl : k = 16 := by omega
      obtain rfl : M = 16 := by omega
      go_wp2
      go_ret2
      exact ⟨rfl, bel⟩
end Go.Proofs.YtdkmlhchfclpeaaDoor
