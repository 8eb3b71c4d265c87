/-
  What In, Chunk, Index and Cell answer, of the program and of the document, for every cell, chunk and place; whatever lay is as it lay.
-/
import Derived.Test.YtbcadklodjdokaaGn2
set_option maxRecDepth 20000
namespace Go.Proofs.Ytbcadklodjdokaa.G
open Go.RowKit

def posV (x y z : Int) : Value := .agg #[.int .i64 x, .int .i64 y, .int .i64 z]
def atV (x z : Int) : Value := .agg #[.int .i64 x, .int .i64 z]

set_option maxHeartbeats 400000 in
theorem tall_c (y : Int) (w : World) : Calls Try.prog 55 #[.int .i64 y] w fun e w' => e = .returned (.bool (decide (0 ≤ y ∧ y ≤ 127))) ∧ w' = w := by
  by_cases h0 : 0 ≤ y
  · by_cases h1 : y < 128
    · go_enter Try.func55, Try.ntmps55
      go_wp2
      go_ret
      exact ⟨ret_bool (by simp; omega), rfl⟩
    · go_enter Try.func55, Try.ntmps55
      go_wp2
      go_ret
      exact ⟨ret_bool (by simp; omega), rfl⟩
  · go_enter Try.func55, Try.ntmps55
    go_wp2
    go_ret
    exact ⟨ret_bool (by simp; omega), rfl⟩
def inW (x y z : Int) : Prop := (0 ≤ y ∧ y ≤ 127) ∧ (-1048576 ≤ x ∧ x ≤ 1048576) ∧ (-1048576 ≤ z ∧ z ≤ 1048576)

def indexN (x y z : Int) : Int := if 0 ≤ y ∧ y ≤ 127 then y * 256 + z % 16 * 16 + x % 16 else -1
theorem i64_id {n : Int} (h0 : -9223372036854775808 ≤ n) (h1 : n ≤ 9223372036854775807) : IntKind.i64.wrap n = n := by rw [IntKind.wrap_i64]; omega
set_option maxHeartbeats 400000 in
theorem chunk_c (x y z : Int) (hx0 : -9223372036854775808 ≤ x) (hx1 : x ≤ 9223372036854775807) (hz0 : -9223372036854775808 ≤ z) (hz1 : z ≤ 9223372036854775807) (w : World) : Calls Try.prog 32 #[.agg #[.int .i64 x, .int .i64 y, .int .i64 z]] w fun e w' => e = .returned (.agg #[.int .i64 (x / 16), .int .i64 (z / 16)]) ∧ Below w.heap.size w w' := by
  go_enter Try.func32, Try.ntmps32
  go_wp2_with fail
  refine wp_region_tail 7 (by kernel_rfl) (by kernel_rfl) ?_
  simp only [List.take_succ_cons, List.take_zero, List.drop_succ_cons, List.drop_zero]
  repeat (first | still_step | still_call (div_hi _ 16 _ (by decide) (by decide) (by assumption) (by assumption)))
  refine wpStill_nil ?_
  go_wp2
  exact bodyPost_ret (results_cell_row rfl _ _ (w.heap.size + 1) 30 _ (0, 0) _ rfl (set_two (new_two w _ _)) Try.underlying30 rfl (by kernel_rfl)) rfl ⟨rfl, ((below_drewN (below_two w _ _) 1).setCell (p := ⟨w.heap.size + 1, 0, none⟩) (by simp) _).setCell (p := ⟨w.heap.size + 1, 1, none⟩) (by simp) _⟩
set_option maxHeartbeats 400000 in
theorem index_c (x y z : Int) (hx0 : -9223372036854775808 ≤ x) (hx1 : x ≤ 9223372036854775807) (hz0 : -9223372036854775808 ≤ z) (hz1 : z ≤ 9223372036854775807) (w : World) : Calls Try.prog 46 #[.agg #[.int .i64 x, .int .i64 y, .int .i64 z]] w fun e w' => e = .returned (.int .i64 (indexN x y z)) ∧ Below w.heap.size w w' := by
  have HB : Hid (Below w.heap.size w (w.alloc (.cells #[.int .i64 x, .int .i64 y, .int .i64 z] 24))) := (Below.refl _ _).alloc (Nat.le_refl _) _
  by_cases c0 : 0 ≤ y ∧ y ≤ 127
  case neg =>
    go_enter Try.func46, Try.ntmps46
    go_wp2_with (go_at_call 55; refine (tall_c _ _).mono ?_; rintro e w' ⟨rfl, rfl⟩)
    go_ret
    exact ⟨ret_int (by simp [indexN, c0]), HB.out⟩
  have c1 := c0.1
  have c2 : y < 128 := by omega
  go_enter Try.func46, Try.ntmps46
  go_wp2_with (go_at_call 55; refine (tall_c _ _).mono ?_; rintro e w' ⟨rfl, rfl⟩)
  go_quiet (first | (go_at_call 44; refine Calls.quiet_of_same (mod_hi _ 16 _ (by decide) (by decide) (by assumption) (by assumption))))
  go_wp2
  go_ret
  exact ⟨ret_int (by simp [indexN, c0]), below_drewN HB.out _⟩
def cellY (i : Int) : Int := if 0 ≤ i ∧ i ≤ 32767 then i / 256 else 0
def cellX (cx i : Int) : Int := if 0 ≤ i ∧ i ≤ 32767 then wrap64 (wrap64 (cx * 16) + i % 16) else 0
def cellZ (cz i : Int) : Int := if 0 ≤ i ∧ i ≤ 32767 then wrap64 (wrap64 (cz * 16) + i % 256 / 16) else 0
set_option maxHeartbeats 400000 in
theorem cell_c (cx cz i : Int) (w : World) : Calls Try.prog 29 #[.agg #[.int .i64 cx, .int .i64 cz], .int .i64 i] w fun e w' => e = .returned (.agg #[.int .i64 (cellX cx i), .int .i64 (cellY i), .int .i64 (cellZ cz i)]) ∧ Below w.heap.size w w' := by
  by_cases c0 : 0 ≤ i
  case neg =>
    go_enter Try.func29, Try.ntmps29
    go_wp2
    exact bodyPost_ret (results_cell_row rfl _ _ (w.heap.size + 1) 24 _ (0, 0) _ rfl (new_two w _ _) Try.underlying24 rfl (by kernel_rfl)) rfl ⟨by simp [cellX, cellY, cellZ, show ¬ (0 ≤ i ∧ i ≤ 32767) by omega], below_two w _ _⟩
  by_cases c1 : i < 32768
  case neg =>
    go_enter Try.func29, Try.ntmps29
    go_wp2
    exact bodyPost_ret (results_cell_row rfl _ _ (w.heap.size + 1) 24 _ (0, 0) _ rfl (new_two w _ _) Try.underlying24 rfl (by kernel_rfl)) rfl ⟨by simp [cellX, cellY, cellZ, show ¬ (0 ≤ i ∧ i ≤ 32767) by omega], below_two w _ _⟩
  go_enter Try.func29, Try.ntmps29
  go_wp2_with fail
  refine wp_region_tail 16 (by kernel_rfl) (by kernel_rfl) ?_
  simp only [List.take_succ_cons, List.take_zero, List.drop_succ_cons, List.drop_zero]
  still_step
  still_step
  still_step
  still_step
  still_call (mod_hi _ _ _ (by decide) (by decide) (by omega) (by omega))
  still_step
  still_step
  still_call (div_hi _ _ _ (by decide) (by decide) (by omega) (by omega))
  still_step
  still_step
  still_step
  still_step
  still_call (mod_hi _ _ _ (by decide) (by decide) (by omega) (by omega))
  still_call (div_hi _ _ _ (by decide) (by decide) (by omega) (by omega))
  still_step
  still_step
  refine wpStill_nil ?_
  go_wp2
  refine bodyPost_ret (results_cell_row rfl _ _ (w.heap.size + 1) 24 _ (0, 0) _ rfl (set_three (new_two w _ _)) Try.underlying24 rfl (by kernel_rfl)) rfl ⟨?_, below_set3 (below_drewN (below_two w _ _) 1) (Nat.le_add_right _ _)⟩
  simp [cellX, cellY, cellZ, show 0 ≤ i ∧ i ≤ 32767 by omega]
end Go.Proofs.Ytbcadklodjdokaa.G