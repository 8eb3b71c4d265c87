/-
  What In, Chunk, Index and Cell answer, of the program and of the document, for every cell, chunk and place; whatever lay is as it lay.
-/
import Derived.Test.YtbodopfghejoiaaDiv
namespace Go.Proofs.Ytbodopfghejoiaa
open Go.RowKit

def posV (x y z : Int) : Value := .agg #[.int .i64 x, .int .i64 y, .int .i64 z]
def atV (x z : Int) : Value := .agg #[.int .i64 x, .int .i64 z]

set_option maxHeartbeats 400000 in
theorem tall_c (y : Int) (w : World) : Calls Try.prog 26 #[.int .i64 y] w fun e w' => e = .returned (.bool (decide (0 ≤ y ∧ y ≤ 127))) ∧ w' = w := by
  by_cases h0 : 0 ≤ y
  · by_cases h1 : y < 128
    · go_enter Try.func26, Try.ntmps26
      go_wp2
      go_ret
      exact ⟨ret_bool (by simp; omega), rfl⟩
    · go_enter Try.func26, Try.ntmps26
      go_wp2
      go_ret
      exact ⟨ret_bool (by simp; omega), rfl⟩
  · go_enter Try.func26, Try.ntmps26
    go_wp2
    go_ret
    exact ⟨ret_bool (by simp; omega), rfl⟩
set_option maxHeartbeats 400000 in
theorem wide_c (y : Int) (w : World) : Calls Try.prog 27 #[.int .i64 y] w fun e w' => e = .returned (.bool (decide (-1048576 ≤ y ∧ y ≤ 1048576))) ∧ w' = w := by
  by_cases h0 : -1048576 ≤ y
  · by_cases h1 : y ≤ 1048576
    · go_enter Try.func27, Try.ntmps27
      go_wp2
      go_ret
      exact ⟨ret_bool (by simp; omega), rfl⟩
    · go_enter Try.func27, Try.ntmps27
      go_wp2
      go_ret
      exact ⟨ret_bool (by simp; omega), rfl⟩
  · go_enter Try.func27, Try.ntmps27
    go_wp2
    go_ret
    exact ⟨ret_bool (by simp; omega), rfl⟩

def inW (x y z : Int) : Prop := (0 ≤ y ∧ y ≤ 127) ∧ (-1048576 ≤ x ∧ x ≤ 1048576) ∧ (-1048576 ≤ z ∧ z ≤ 1048576)
instance (x y z : Int) : Decidable (inW x y z) := by unfold inW; infer_instance

def indexN (x y z : Int) : Int := if 0 ≤ y ∧ y ≤ 127 then y * 256 + z % 16 * 16 + x % 16 else -1
theorem i64_id {n : Int} (h0 : -9223372036854775808 ≤ n) (h1 : n ≤ 9223372036854775807) : IntKind.i64.wrap n = n := by rw [IntKind.wrap_i64]; omega
set_option maxHeartbeats 400000 in
theorem in_c (x y z : Int) (w : World) : Calls Try.prog 10 #[.agg #[.int .i64 x, .int .i64 y, .int .i64 z]] w fun e w' => e = .returned (.bool (decide (inW x y z))) ∧ Below w.heap.size w w' := by
  have HB : Hid (Below w.heap.size w (w.alloc (.cells #[.int .i64 x, .int .i64 y, .int .i64 z] 23))) := (Below.refl _ _).alloc (Nat.le_refl _) _
  by_cases c0 : 0 ≤ y ∧ y ≤ 127
  case neg =>
    go_enter Try.func10, Try.ntmps10
    go_wp2_with (first | (go_at_call 26; refine (tall_c _ _).mono ?_; rintro e w' ⟨rfl, rfl⟩) | (go_at_call 27; refine (wide_c _ _).mono ?_; rintro e w' ⟨rfl, rfl⟩))
    go_ret
    exact ⟨ret_bool (by simp [inW, *]), HB.out⟩
  by_cases c1 : -1048576 ≤ x ∧ x ≤ 1048576
  case neg =>
    go_enter Try.func10, Try.ntmps10
    go_wp2_with (first | (go_at_call 26; refine (tall_c _ _).mono ?_; rintro e w' ⟨rfl, rfl⟩) | (go_at_call 27; refine (wide_c _ _).mono ?_; rintro e w' ⟨rfl, rfl⟩))
    go_ret
    exact ⟨ret_bool (by simp [inW, *]), HB.out⟩
  by_cases c2 : -1048576 ≤ z ∧ z ≤ 1048576
  case neg =>
    go_enter Try.func10, Try.ntmps10
    go_wp2_with (first | (go_at_call 26; refine (tall_c _ _).mono ?_; rintro e w' ⟨rfl, rfl⟩) | (go_at_call 27; refine (wide_c _ _).mono ?_; rintro e w' ⟨rfl, rfl⟩))
    go_ret
    exact ⟨ret_bool (by simp [inW, *]), HB.out⟩
  go_enter Try.func10, Try.ntmps10
  go_wp2_with (first | (go_at_call 26; refine (tall_c _ _).mono ?_; rintro e w' ⟨rfl, rfl⟩) | (go_at_call 27; refine (wide_c _ _).mono ?_; rintro e w' ⟨rfl, rfl⟩))
  go_ret
  exact ⟨ret_bool (by simp [inW, *]), HB.out⟩
set_option maxHeartbeats 400000 in
theorem rin_c (x y z : Int) (w : World) : Calls Try.prog 11 #[.agg #[.int .i64 x, .int .i64 y, .int .i64 z]] w fun e w' => e = .returned (.bool (decide (inW x y z))) ∧ Below w.heap.size w w' := by
  have HB : Hid (Below w.heap.size w (w.alloc (.cells #[.int .i64 x, .int .i64 y, .int .i64 z] 23))) := (Below.refl _ _).alloc (Nat.le_refl _) _
  by_cases c0 : -1048576 ≤ x
  case neg =>
    go_enter Try.func11, Try.ntmps11
    go_wp2
    go_ret
    exact ⟨ret_bool (by first | (have t : inW x y z := (by unfold inW; omega); simp [t]) | (have t : ¬ inW x y z := (by unfold inW; omega); simp [t])), HB.out⟩
  by_cases c1 : x ≤ 1048576
  case neg =>
    go_enter Try.func11, Try.ntmps11
    go_wp2
    go_ret
    exact ⟨ret_bool (by first | (have t : inW x y z := (by unfold inW; omega); simp [t]) | (have t : ¬ inW x y z := (by unfold inW; omega); simp [t])), HB.out⟩
  by_cases c2 : -1048576 ≤ z
  case neg =>
    go_enter Try.func11, Try.ntmps11
    go_wp2
    go_ret
    exact ⟨ret_bool (by first | (have t : inW x y z := (by unfold inW; omega); simp [t]) | (have t : ¬ inW x y z := (by unfold inW; omega); simp [t])), HB.out⟩
  by_cases c3 : z ≤ 1048576
  case neg =>
    go_enter Try.func11, Try.ntmps11
    go_wp2
    go_ret
    exact ⟨ret_bool (by first | (have t : inW x y z := (by unfold inW; omega); simp [t]) | (have t : ¬ inW x y z := (by unfold inW; omega); simp [t])), HB.out⟩
  by_cases c4 : 0 ≤ y
  case neg =>
    go_enter Try.func11, Try.ntmps11
    go_wp2
    go_ret
    exact ⟨ret_bool (by first | (have t : inW x y z := (by unfold inW; omega); simp [t]) | (have t : ¬ inW x y z := (by unfold inW; omega); simp [t])), HB.out⟩
  by_cases c5 : y < 128
  case neg =>
    go_enter Try.func11, Try.ntmps11
    go_wp2
    go_ret
    exact ⟨ret_bool (by first | (have t : inW x y z := (by unfold inW; omega); simp [t]) | (have t : ¬ inW x y z := (by unfold inW; omega); simp [t])), HB.out⟩
  go_enter Try.func11, Try.ntmps11
  go_wp2
  go_ret
  exact ⟨ret_bool (by first | (have t : inW x y z := (by unfold inW; omega); simp [t]) | (have t : ¬ inW x y z := (by unfold inW; omega); simp [t])), HB.out⟩
set_option maxHeartbeats 400000 in
theorem chunk_c (x y z : Int) (hx0 : -9223372036854775808 ≤ x) (hx1 : x ≤ 9223372036854775807) (hz0 : -9223372036854775808 ≤ z) (hz1 : z ≤ 9223372036854775807) (w : World) : Calls Try.prog 12 #[.agg #[.int .i64 x, .int .i64 y, .int .i64 z]] w fun e w' => e = .returned (.agg #[.int .i64 (x / 16), .int .i64 (z / 16)]) ∧ Below w.heap.size w w' := by
  go_enter Try.func12, Try.ntmps12
  go_wp2_with fail
  refine wp_region_tail 7 (by kernel_rfl) (by kernel_rfl) ?_
  simp only [List.take_succ_cons, List.take_zero, List.drop_succ_cons, List.drop_zero]
  repeat (first | still_step | still_call (div_hi _ 16 _ (by decide) (by decide) (by assumption) (by assumption)))
  refine wpStill_nil ?_
  go_wp2
  exact bodyPost_ret (results_cell_row rfl _ _ (w.heap.size + 1) 27 _ (0, 0) _ rfl (set_two (new_two w _ _)) Try.underlying27 rfl (by kernel_rfl)) rfl ⟨rfl, ((below_drewN (below_two w _ _) 1).setCell (p := ⟨w.heap.size + 1, 0, none⟩) (by simp) _).setCell (p := ⟨w.heap.size + 1, 1, none⟩) (by simp) _⟩
set_option maxHeartbeats 400000 in
theorem rchunk_c (x y z : Int) (hx0 : -9223372036854775808 ≤ x) (hx1 : x ≤ 9223372036854775807) (hz0 : -9223372036854775808 ≤ z) (hz1 : z ≤ 9223372036854775807) (w : World) : Calls Try.prog 13 #[.agg #[.int .i64 x, .int .i64 y, .int .i64 z]] w fun e w' => e = .returned (.agg #[.int .i64 (x / 16), .int .i64 (z / 16)]) ∧ Below w.heap.size w w' := by
  go_enter Try.func13, Try.ntmps13
  go_wp2_with fail
  refine wp_region_tail 7 (by kernel_rfl) (by kernel_rfl) ?_
  simp only [List.take_succ_cons, List.take_zero, List.drop_succ_cons, List.drop_zero]
  repeat (first | still_step | still_call (rdiv_hi _ 16 _ (by decide) (by decide) (by assumption) (by assumption)))
  refine wpStill_nil ?_
  go_wp2
  exact bodyPost_ret (results_cell_row rfl _ _ (w.heap.size + 1) 27 _ (0, 0) _ rfl (set_two (new_two w _ _)) Try.underlying27 rfl (by kernel_rfl)) rfl ⟨rfl, ((below_drewN (below_two w _ _) 1).setCell (p := ⟨w.heap.size + 1, 0, none⟩) (by simp) _).setCell (p := ⟨w.heap.size + 1, 1, none⟩) (by simp) _⟩
set_option maxHeartbeats 400000 in
theorem index_c (x y z : Int) (hx0 : -9223372036854775808 ≤ x) (hx1 : x ≤ 9223372036854775807) (hz0 : -9223372036854775808 ≤ z) (hz1 : z ≤ 9223372036854775807) (w : World) : Calls Try.prog 14 #[.agg #[.int .i64 x, .int .i64 y, .int .i64 z]] w fun e w' => e = .returned (.int .i64 (indexN x y z)) ∧ Below w.heap.size w w' := by
  have HB : Hid (Below w.heap.size w (w.alloc (.cells #[.int .i64 x, .int .i64 y, .int .i64 z] 23))) := (Below.refl _ _).alloc (Nat.le_refl _) _
  by_cases c0 : 0 ≤ y ∧ y ≤ 127
  case neg =>
    go_enter Try.func14, Try.ntmps14
    go_wp2_with (go_at_call 26; refine (tall_c _ _).mono ?_; rintro e w' ⟨rfl, rfl⟩)
    go_ret
    exact ⟨ret_int (by simp [indexN, c0]), HB.out⟩
  have c1 := c0.1
  have c2 : y < 128 := by omega
  go_enter Try.func14, Try.ntmps14
  go_wp2_with (go_at_call 26; refine (tall_c _ _).mono ?_; rintro e w' ⟨rfl, rfl⟩)
  go_quiet (first | (go_at_call 30; refine Calls.quiet_of_same (mod_hi _ 16 _ (by decide) (by decide) (by assumption) (by assumption))))
  go_wp2
  go_ret
  exact ⟨ret_int (by simp [indexN, c0]), below_drewN HB.out _⟩
set_option maxHeartbeats 400000 in
theorem rindex_c (x y z : Int) (hx0 : -9223372036854775808 ≤ x) (hx1 : x ≤ 9223372036854775807) (hz0 : -9223372036854775808 ≤ z) (hz1 : z ≤ 9223372036854775807) (w : World) : Calls Try.prog 15 #[.agg #[.int .i64 x, .int .i64 y, .int .i64 z]] w fun e w' => e = .returned (.int .i64 (indexN x y z)) ∧ Below w.heap.size w w' := by
  have HB : Hid (Below w.heap.size w (w.alloc (.cells #[.int .i64 x, .int .i64 y, .int .i64 z] 23))) := (Below.refl _ _).alloc (Nat.le_refl _) _
  by_cases c0 : 0 ≤ y ∧ y ≤ 127
  case neg =>
    by_cases c1 : 0 ≤ y
    · have c2 : 128 ≤ y := by omega
      go_enter Try.func15, Try.ntmps15
      go_wp2
      go_ret
      exact ⟨ret_int (by simp [indexN, c0]), HB.out⟩
    · go_enter Try.func15, Try.ntmps15
      go_wp2
      go_ret
      exact ⟨ret_int (by simp [indexN, c0]), HB.out⟩
  have c1 := c0.1
  have c2 : y < 128 := by omega
  go_enter Try.func15, Try.ntmps15
  go_wp2_with fail
  go_quiet (first | (go_at_call 31; refine Calls.quiet_of_same (rmod_hi _ 16 _ (by decide) (by decide) (by assumption) (by assumption))))
  go_wp2
  go_ret
  exact ⟨ret_int (by simp [indexN, c0]), below_drewN HB.out _⟩

def cellY (i : Int) : Int := if 0 ≤ i ∧ i ≤ 32767 then i / 256 else 0
def cellX (cx i : Int) : Int := if 0 ≤ i ∧ i ≤ 32767 then wrap64 (wrap64 (cx * 16) + i % 16) else 0
def cellZ (cz i : Int) : Int := if 0 ≤ i ∧ i ≤ 32767 then wrap64 (wrap64 (cz * 16) + i % 256 / 16) else 0
set_option maxHeartbeats 400000 in
theorem cell_c (cx cz i : Int) (w : World) : Calls Try.prog 16 #[.agg #[.int .i64 cx, .int .i64 cz], .int .i64 i] w fun e w' => e = .returned (.agg #[.int .i64 (cellX cx i), .int .i64 (cellY i), .int .i64 (cellZ cz i)]) ∧ Below w.heap.size w w' := by
  by_cases c0 : 0 ≤ i
  case neg =>
    go_enter Try.func16, Try.ntmps16
    go_wp2
    exact bodyPost_ret (results_cell_row rfl _ _ (w.heap.size + 1) 23 _ (0, 0) _ rfl (new_two w _ _) Try.underlying23 rfl (by kernel_rfl)) rfl ⟨by simp [cellX, cellY, cellZ, show ¬ (0 ≤ i ∧ i ≤ 32767) by omega], below_two w _ _⟩
  by_cases c1 : i < 32768
  case neg =>
    go_enter Try.func16, Try.ntmps16
    go_wp2
    exact bodyPost_ret (results_cell_row rfl _ _ (w.heap.size + 1) 23 _ (0, 0) _ rfl (new_two w _ _) Try.underlying23 rfl (by kernel_rfl)) rfl ⟨by simp [cellX, cellY, cellZ, show ¬ (0 ≤ i ∧ i ≤ 32767) by omega], below_two w _ _⟩
  go_enter Try.func16, Try.ntmps16
  go_wp2_with fail
  refine wp_region_tail 16 (by kernel_rfl) (by kernel_rfl) ?_
  simp only [List.take_succ_cons, List.take_zero, List.drop_succ_cons, List.drop_zero]
  still_step
  still_step
  still_step
  still_step
  still_call (mod_hi _ _ _ (by decide) (by decide) (by omega) (by omega))
  still_step
  still_step
  still_call (div_hi _ _ _ (by decide) (by decide) (by omega) (by omega))
  still_step
  still_step
  still_step
  still_step
  still_call (mod_hi _ _ _ (by decide) (by decide) (by omega) (by omega))
  still_call (div_hi _ _ _ (by decide) (by decide) (by omega) (by omega))
  still_step
  still_step
  refine wpStill_nil ?_
  go_wp2
  refine bodyPost_ret (results_cell_row rfl _ _ (w.heap.size + 1) 23 _ (0, 0) _ rfl (set_three (new_two w _ _)) Try.underlying23 rfl (by kernel_rfl)) rfl ⟨?_, below_set3 (below_drewN (below_two w _ _) 1) (Nat.le_add_right _ _)⟩
  simp [cellX, cellY, cellZ, show 0 ≤ i ∧ i ≤ 32767 by omega]
set_option maxHeartbeats 400000 in
theorem rcell_c (cx cz i : Int) (w : World) : Calls Try.prog 17 #[.agg #[.int .i64 cx, .int .i64 cz], .int .i64 i] w fun e w' => e = .returned (.agg #[.int .i64 (cellX cx i), .int .i64 (cellY i), .int .i64 (cellZ cz i)]) ∧ Below w.heap.size w w' := by
  by_cases c0 : 0 ≤ i
  case neg =>
    go_enter Try.func17, Try.ntmps17
    go_wp2
    exact bodyPost_ret (results_cell_row rfl _ _ (w.heap.size + 1) 23 _ (0, 0) _ rfl (new_two w _ _) Try.underlying23 rfl (by kernel_rfl)) rfl ⟨by simp [cellX, cellY, cellZ, show ¬ (0 ≤ i ∧ i ≤ 32767) by omega], below_two w _ _⟩
  by_cases c1 : i < 32768
  case neg =>
    go_enter Try.func17, Try.ntmps17
    go_wp2
    exact bodyPost_ret (results_cell_row rfl _ _ (w.heap.size + 1) 23 _ (0, 0) _ rfl (new_two w _ _) Try.underlying23 rfl (by kernel_rfl)) rfl ⟨by simp [cellX, cellY, cellZ, show ¬ (0 ≤ i ∧ i ≤ 32767) by omega], below_two w _ _⟩
  go_enter Try.func17, Try.ntmps17
  go_wp2
  refine bodyPost_ret (results_cell_row rfl _ _ (w.heap.size + 1) 23 _ (0, 0) _ rfl (new_two w _ _) Try.underlying23 rfl (by kernel_rfl)) rfl ⟨?_, below_two w _ _⟩
  simp [cellX, cellY, cellZ, show 0 ≤ i ∧ i ≤ 32767 by omega, show i / 16 % 16 = i % 256 / 16 by omega]
end Go.Proofs.Ytbodopfghejoiaa
