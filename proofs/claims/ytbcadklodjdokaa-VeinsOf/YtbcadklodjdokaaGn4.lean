/-
  What Count and Inside answer, of the program and of the document, for every box; whatever lay is as it lay.
-/
import Derived.Test.YtbcadklodjdokaaGn3
import Derived.LoopN
import Derived.Lib.MinMax
set_option maxRecDepth 20000
namespace Go.Proofs.Ytbcadklodjdokaa.G
open Go.RowKit

def sideN (a b : Int) : Int := if a ≤ b ∧ -1099511627776 ≤ a ∧ b ≤ 1099511627776 then b - a + 1 else 0
theorem sideN_bd (a b : Int) : 0 ≤ sideN a b ∧ sideN a b ≤ 2199023255553 := by
  unfold sideN
  split <;> omega
def countN (a1 a2 a3 b1 b2 b3 : Int) : Int := min (sideN a1 b1 * sideN a2 b2 * sideN a3 b3) 2147483648

theorem cap (a s : Int) (ha : 0 ≤ a) (hs : 0 ≤ s) : min (min a 2147483648 * min s 2147483648) 2147483648 = min (a * s) 2147483648 := by
  by_cases h1 : a ≤ 2147483648
  · by_cases h2 : s ≤ 2147483648
    · rw [Int.min_eq_left h1, Int.min_eq_left h2]
    · rw [Int.min_eq_left h1, Int.min_eq_right (by omega : (2147483648 : Int) ≤ s)]
      rcases Int.lt_or_eq_of_le ha with h | h
      · have e1 : 1 * 2147483648 ≤ a * 2147483648 := Int.mul_le_mul_of_nonneg_right (by omega) (by omega)
        have e2 : 1 * 2147483648 ≤ a * s := Int.mul_le_mul (by omega) (by omega) (by omega) (by omega)
        omega
      · subst h; simp
  · rw [Int.min_eq_right (by omega : (2147483648 : Int) ≤ a)]
    rcases Int.lt_or_eq_of_le hs with h | h
    · have e1 : (1 : Int) ≤ min s 2147483648 := by omega
      have e2 : 2147483648 * 1 ≤ 2147483648 * min s 2147483648 := Int.mul_le_mul_of_nonneg_left e1 (by omega)
      have e3 : 2147483648 * 1 ≤ a * s := Int.mul_le_mul (by omega) (by omega) (by omega) (by omega)
      omega
    · subst h; simp [Int.min_def]

theorem count_steps (a1 a2 a3 b1 b2 b3 s1 s2 s3 : Int) (h1 : sideN a1 b1 = s1) (h2 : sideN a2 b2 = s2) (h3 : sideN a3 b3 = s3) :
    ∃ m1 m2 m3 m12 c, min s1 2147483648 = m1 ∧ min s2 2147483648 = m2 ∧ min s3 2147483648 = m3 ∧ min m1 2147483648 = m1 ∧ (0 ≤ m1 ∧ m1 ≤ 2147483648) ∧ (0 ≤ m1 * m2 ∧ m1 * m2 ≤ 4611686018427387904) ∧ min (m1 * m2) 2147483648 = m12 ∧ (0 ≤ m12 * m3 ∧ m12 * m3 ≤ 4611686018427387904) ∧ min (m12 * m3) 2147483648 = c ∧ c = countN a1 a2 a3 b1 b2 b3 := by
  have k1 := sideN_bd a1 b1
  have k2 := sideN_bd a2 b2
  have k3 := sideN_bd a3 b3
  rw [h1] at k1; rw [h2] at k2; rw [h3] at k3
  have p12 : 0 ≤ s1 * s2 := Int.mul_nonneg k1.1 k2.1
  have bd : ∀ x y : Int, 0 ≤ x → x ≤ 2147483648 → 0 ≤ y → y ≤ 2147483648 → 0 ≤ x * y ∧ x * y ≤ 4611686018427387904 := fun x y hx hx' hy hy' =>
    ⟨Int.mul_nonneg hx hy, Int.le_trans (Int.mul_le_mul hx' hy' hy (by omega)) (by omega)⟩
  refine ⟨_, _, _, _, _, rfl, rfl, rfl, by omega, by omega, bd _ _ (by omega) (by omega) (by omega) (by omega), rfl, bd _ _ ?_ (by omega) (by omega) (by omega), rfl, ?_⟩
  · have := (bd (min s1 2147483648) (min s2 2147483648) (by omega) (by omega) (by omega) (by omega)).1
    omega
  · rw [cap s1 s2 k1.1 k2.1, cap (s1 * s2) s3 p12 k3.1, countN, h1, h2, h3]

set_option maxHeartbeats 400000 in
theorem side_c (a b : Int) (w : World) : Calls Try.prog 59 #[.int .i64 a, .int .i64 b] w fun e w' => e = .returned (.int .i64 (sideN a b)) ∧ w' = w := by
  by_cases c0 : a ≤ b
  case neg =>
    go_enter Try.func59, Try.ntmps59
    go_wp2
    go_ret
    exact ⟨ret_int (by simp [sideN, show ¬ (a ≤ b ∧ -1099511627776 ≤ a ∧ b ≤ 1099511627776) by omega]), rfl⟩
  by_cases c1 : -1099511627776 ≤ a
  case neg =>
    go_enter Try.func59, Try.ntmps59
    go_wp2
    go_ret
    exact ⟨ret_int (by simp [sideN, show ¬ (a ≤ b ∧ -1099511627776 ≤ a ∧ b ≤ 1099511627776) by omega]), rfl⟩
  by_cases c2 : b ≤ 1099511627776
  case neg =>
    go_enter Try.func59, Try.ntmps59
    go_wp2
    go_ret
    exact ⟨ret_int (by simp [sideN, show ¬ (a ≤ b ∧ -1099511627776 ≤ a ∧ b ≤ 1099511627776) by omega]), rfl⟩
  go_enter Try.func59, Try.ntmps59
  go_wp2
  go_ret
  exact ⟨ret_int (by simp [sideN, show a ≤ b ∧ -1099511627776 ≤ a ∧ b ≤ 1099511627776 by omega]), rfl⟩

set_option maxHeartbeats 1000000 in
theorem count_c (a1 a2 a3 b1 b2 b3 : Int) (w : World) : Calls Try.prog 58 #[.agg #[.int .i64 a1, .int .i64 a2, .int .i64 a3, .int .i64 b1, .int .i64 b2, .int .i64 b3]] w fun e w' => e = .returned (.int .i64 (countN a1 a2 a3 b1 b2 b3)) ∧ Below w.heap.size w w' := by
  have HB : Hid (Below w.heap.size w (w.alloc (.cells #[.int .i64 a1, .int .i64 a2, .int .i64 a3, .int .i64 b1, .int .i64 b2, .int .i64 b3] 86))) := (Below.refl _ _).alloc (Nat.le_refl _) _
  generalize h1 : sideN a1 b1 = s1
  generalize h2 : sideN a2 b2 = s2
  generalize h3 : sideN a3 b3 = s3
  obtain ⟨m1, m2, m3, m12, c, e1, e2, e3, e4, e5, e6, e7, e8, e9, e10⟩ := count_steps a1 a2 a3 b1 b2 b3 s1 s2 s3 h1 h2 h3
  have HC : Hid (c = countN a1 a2 a3 b1 b2 b3) := e10
  clear e10
  have i0 : ∀ w, Sem.run Try.prog (Instr.index 79 (.agg #[.int .i64 s1, .int .i64 s2, .int .i64 s3]) (.int .i64 0)) w = .ok (.int .i64 s1) w := fun w => by kernel_rfl
  have i1 : ∀ w, Sem.run Try.prog (Instr.index 79 (.agg #[.int .i64 s1, .int .i64 s2, .int .i64 s3]) (.int .i64 1)) w = .ok (.int .i64 s2) w := fun w => by kernel_rfl
  have i2 : ∀ w, Sem.run Try.prog (Instr.index 79 (.agg #[.int .i64 s1, .int .i64 s2, .int .i64 s3]) (.int .i64 2)) w = .ok (.int .i64 s3) w := fun w => by kernel_rfl
  go_enter Try.func58, Try.ntmps58
  go_wp2_with fail
  go_quiet (first | (go_at_call 59; refine Calls.quiet_of_same (side_c _ _ _)))
  go_wp2
  refine wp_loop_rounds 4 ?_
  rw [rounds_succ]
  go_wp2
  rw [rounds_succ]
  go_wp2
  rw [rounds_succ]
  go_wp2
  rw [rounds_succ]
  go_wp2
  go_ret
  exact ⟨ret_int HC.out, below_drewN HB.out _⟩

def Six (w : World) (B : Nat) (a1 a2 a3 b1 b2 b3 : Int) : Prop := w.heap[B]? = some (.cells #[.int .i64 a1, .int .i64 a2, .int .i64 a3, .int .i64 b1, .int .i64 b2, .int .i64 b3] 86 (0, 0))
theorem Six.on {w w' : World} {n B : Nat} {a1 a2 a3 b1 b2 b3 : Int} (h : Six w B a1 a2 a3 b1 b2 b3) (hb : Below n w w') (hB : B < n) : Six w' B a1 a2 a3 b1 b2 b3 := (hb.block B hB).trans h
theorem Six.new (w : World) (a1 a2 a3 b1 b2 b3 : Int) : Six (w.alloc (.cells #[.int .i64 a1, .int .i64 a2, .int .i64 a3, .int .i64 b1, .int .i64 b2, .int .i64 b3] 86)) w.heap.size a1 a2 a3 b1 b2 b3 := heap_alloc_new w _
theorem Six.cells {w : World} {B : Nat} {a1 a2 a3 b1 b2 b3 : Int} (h : Six w B a1 a2 a3 b1 b2 b3) : w.cell? ⟨B, 0, none⟩ = some (.int .i64 a1) ∧ w.cell? ⟨B, 1, none⟩ = some (.int .i64 a2) ∧ w.cell? ⟨B, 2, none⟩ = some (.int .i64 a3) ∧ w.cell? ⟨B, 3, none⟩ = some (.int .i64 b1) ∧ w.cell? ⟨B, 4, none⟩ = some (.int .i64 b2) ∧ w.cell? ⟨B, 5, none⟩ = some (.int .i64 b3) :=
  ⟨(cell_of_row w B 0 _ 86 (0, 0) h).trans rfl, (cell_of_row w B 1 _ 86 (0, 0) h).trans rfl, (cell_of_row w B 2 _ 86 (0, 0) h).trans rfl, (cell_of_row w B 3 _ 86 (0, 0) h).trans rfl, (cell_of_row w B 4 _ 86 (0, 0) h).trans rfl, (cell_of_row w B 5 _ 86 (0, 0) h).trans rfl⟩
def insP (a1 a2 a3 b1 b2 b3 : Int) : Prop := inW a1 a2 a3 ∧ inW b1 b2 b3 ∧ a1 ≤ b1 ∧ a2 ≤ b2 ∧ a3 ≤ b3

end Go.Proofs.Ytbcadklodjdokaa.G