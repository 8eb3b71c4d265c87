/-
  What Count and Inside answer, of the program and of the document, for every box; whatever lay is as it lay.
  Each: the cells of a box one after the other, for every body that leaves the box alone; and the plain list of these cells.
  Near: the chunks about a chunk, as a new slice; whatever lay is as it lay.
-/
import Derived.Test.YtjeapaojbkicmabDoorGn3
import Derived.LoopN
import Derived.Lib.MinMax
import Derived.RangeFuncNested
import Derived.RangeFuncBound
import Derived.RangeFuncCalls
import Derived.RangeFuncLeaves
import Derived.Shelf.Abstract
import Derived.Shelf.RegionOpen
import Derived.OwnWalkIn
import Derived.TacticsInMore
import Derived.LoopNIn
import Derived.LoopIn
import Derived.WalkMore
import Derived.Maps.AppendAt
import Derived.RangeFuncBox
import Derived.Laws.MakeOwn
set_option maxRecDepth 20000
namespace Go.Proofs.YtjeapaojbkicmabDoor.G
section
open Go.RowKit

def sideN (a b : Int) : Int := if a ≤ b ∧ -1099511627776 ≤ a ∧ b ≤ 1099511627776 then b - a + 1 else 0
theorem sideN_bd (a b : Int) : 0 ≤ sideN a b ∧ sideN a b ≤ 2199023255553 := by
  unfold sideN
  split <;> omega
def countN (a1 a2 a3 b1 b2 b3 : Int) : Int := min (sideN a1 b1 * sideN a2 b2 * sideN a3 b3) 2147483648

theorem cap (a s : Int) (ha : 0 ≤ a) (hs : 0 ≤ s) : min (min a 2147483648 * min s 2147483648) 2147483648 = min (a * s) 2147483648 := by
  by_cases h1 : a ≤ 2147483648
  · by_cases h2 : s ≤ 2147483648
    · rw [Int.min_eq_left h1, Int.min_eq_left h2]
    · rw [Int.min_eq_left h1, Int.min_eq_right (by omega : (2147483648 : Int) ≤ s)]
      rcases Int.lt_or_eq_of_le ha with h | h
      · have e1 : 1 * 2147483648 ≤ a * 2147483648 := Int.mul_le_mul_of_nonneg_right (by omega) (by omega)
        have e2 : 1 * 2147483648 ≤ a * s := Int.mul_le_mul (by omega) (by omega) (by omega) (by omega)
        omega
      · subst h; simp
  · rw [Int.min_eq_right (by omega : (2147483648 : Int) ≤ a)]
    rcases Int.lt_or_eq_of_le hs with h | h
    · have e1 : (1 : Int) ≤ min s 2147483648 := by omega
      have e2 : 2147483648 * 1 ≤ 2147483648 * min s 2147483648 := Int.mul_le_mul_of_nonneg_left e1 (by omega)
      have e3 : 2147483648 * 1 ≤ a * s := Int.mul_le_mul (by omega) (by omega) (by omega) (by omega)
      omega
    · subst h; simp [Int.min_def]

theorem count_steps (a1 a2 a3 b1 b2 b3 s1 s2 s3 : Int) (h1 : sideN a1 b1 = s1) (h2 : sideN a2 b2 = s2) (h3 : sideN a3 b3 = s3) :
    ∃ m1 m2 m3 m12 c, min s1 2147483648 = m1 ∧ min s2 2147483648 = m2 ∧ min s3 2147483648 = m3 ∧ min m1 2147483648 = m1 ∧ (0 ≤ m1 ∧ m1 ≤ 2147483648) ∧ (0 ≤ m1 * m2 ∧ m1 * m2 ≤ 4611686018427387904) ∧ min (m1 * m2) 2147483648 = m12 ∧ (0 ≤ m12 * m3 ∧ m12 * m3 ≤ 4611686018427387904) ∧ min (m12 * m3) 2147483648 = c ∧ c = countN a1 a2 a3 b1 b2 b3 := by
  have k1 := sideN_bd a1 b1
  have k2 := sideN_bd a2 b2
  have k3 := sideN_bd a3 b3
  rw [h1] at k1; rw [h2] at k2; rw [h3] at k3
  have p12 : 0 ≤ s1 * s2 := Int.mul_nonneg k1.1 k2.1
  have bd : ∀ x y : Int, 0 ≤ x → x ≤ 2147483648 → 0 ≤ y → y ≤ 2147483648 → 0 ≤ x * y ∧ x * y ≤ 4611686018427387904 := fun x y hx hx' hy hy' =>
    ⟨Int.mul_nonneg hx hy, Int.le_trans (Int.mul_le_mul hx' hy' hy (by omega)) (by omega)⟩
  refine ⟨_, _, _, _, _, rfl, rfl, rfl, by omega, by omega, bd _ _ (by omega) (by omega) (by omega) (by omega), rfl, bd _ _ ?_ (by omega) (by omega) (by omega), rfl, ?_⟩
  · have := (bd (min s1 2147483648) (min s2 2147483648) (by omega) (by omega) (by omega) (by omega)).1
    omega
  · rw [cap s1 s2 k1.1 k2.1, cap (s1 * s2) s3 p12 k3.1, countN, h1, h2, h3]

set_option maxHeartbeats 400000 in
theorem side_c (a b : Int) (w : World) : Calls Tryd.prog 45 #[.int .i64 a, .int .i64 b] w fun e w' => e = .returned (.int .i64 (sideN a b)) ∧ w' = w := by
  by_cases c0 : a ≤ b
  case neg =>
    go_enter Tryd.func45, Tryd.ntmps45
    go_wp2
    go_ret
    exact ⟨ret_int (by simp [sideN, show ¬ (a ≤ b ∧ -1099511627776 ≤ a ∧ b ≤ 1099511627776) by omega]), rfl⟩
  by_cases c1 : -1099511627776 ≤ a
  case neg =>
    go_enter Tryd.func45, Tryd.ntmps45
    go_wp2
    go_ret
    exact ⟨ret_int (by simp [sideN, show ¬ (a ≤ b ∧ -1099511627776 ≤ a ∧ b ≤ 1099511627776) by omega]), rfl⟩
  by_cases c2 : b ≤ 1099511627776
  case neg =>
    go_enter Tryd.func45, Tryd.ntmps45
    go_wp2
    go_ret
    exact ⟨ret_int (by simp [sideN, show ¬ (a ≤ b ∧ -1099511627776 ≤ a ∧ b ≤ 1099511627776) by omega]), rfl⟩
  go_enter Tryd.func45, Tryd.ntmps45
  go_wp2
  go_ret
  exact ⟨ret_int (by simp [sideN, show a ≤ b ∧ -1099511627776 ≤ a ∧ b ≤ 1099511627776 by omega]), rfl⟩

set_option maxHeartbeats 1000000 in
theorem count_c (a1 a2 a3 b1 b2 b3 : Int) (w : World) : Calls Tryd.prog 36 #[.agg #[.int .i64 a1, .int .i64 a2, .int .i64 a3, .int .i64 b1, .int .i64 b2, .int .i64 b3]] w fun e w' => e = .returned (.int .i64 (countN a1 a2 a3 b1 b2 b3)) ∧ Below w.heap.size w w' := by
  have HB : Hid (Below w.heap.size w (w.alloc (.cells #[.int .i64 a1, .int .i64 a2, .int .i64 a3, .int .i64 b1, .int .i64 b2, .int .i64 b3] 76))) := (Below.refl _ _).alloc (Nat.le_refl _) _
  generalize h1 : sideN a1 b1 = s1
  generalize h2 : sideN a2 b2 = s2
  generalize h3 : sideN a3 b3 = s3
  obtain ⟨m1, m2, m3, m12, c, e1, e2, e3, e4, e5, e6, e7, e8, e9, e10⟩ := count_steps a1 a2 a3 b1 b2 b3 s1 s2 s3 h1 h2 h3
  have HC : Hid (c = countN a1 a2 a3 b1 b2 b3) := e10
  clear e10
  have i0 : ∀ w, Sem.run Tryd.prog (Instr.index 86 (.agg #[.int .i64 s1, .int .i64 s2, .int .i64 s3]) (.int .i64 0)) w = .ok (.int .i64 s1) w := fun w => by kernel_rfl
  have i1 : ∀ w, Sem.run Tryd.prog (Instr.index 86 (.agg #[.int .i64 s1, .int .i64 s2, .int .i64 s3]) (.int .i64 1)) w = .ok (.int .i64 s2) w := fun w => by kernel_rfl
  have i2 : ∀ w, Sem.run Tryd.prog (Instr.index 86 (.agg #[.int .i64 s1, .int .i64 s2, .int .i64 s3]) (.int .i64 2)) w = .ok (.int .i64 s3) w := fun w => by kernel_rfl
  go_enter Tryd.func36, Tryd.ntmps36
  go_wp2_with fail
  go_quiet (first | (go_at_call 45; refine Calls.quiet_of_same (side_c _ _ _)))
  go_wp2
  refine wp_loop_rounds 4 ?_
  rw [rounds_succ]
  go_wp2
  rw [rounds_succ]
  go_wp2
  rw [rounds_succ]
  go_wp2
  rw [rounds_succ]
  go_wp2
  go_ret
  exact ⟨ret_int HC.out, below_drewN HB.out _⟩

def Six (w : World) (B : Nat) (a1 a2 a3 b1 b2 b3 : Int) : Prop := w.heap[B]? = some (.cells #[.int .i64 a1, .int .i64 a2, .int .i64 a3, .int .i64 b1, .int .i64 b2, .int .i64 b3] 76 (0, 0))
theorem Six.on {w w' : World} {n B : Nat} {a1 a2 a3 b1 b2 b3 : Int} (h : Six w B a1 a2 a3 b1 b2 b3) (hb : Below n w w') (hB : B < n) : Six w' B a1 a2 a3 b1 b2 b3 := (hb.block B hB).trans h
theorem Six.new (w : World) (a1 a2 a3 b1 b2 b3 : Int) : Six (w.alloc (.cells #[.int .i64 a1, .int .i64 a2, .int .i64 a3, .int .i64 b1, .int .i64 b2, .int .i64 b3] 76)) w.heap.size a1 a2 a3 b1 b2 b3 := heap_alloc_new w _
theorem Six.cells {w : World} {B : Nat} {a1 a2 a3 b1 b2 b3 : Int} (h : Six w B a1 a2 a3 b1 b2 b3) : w.cell? ⟨B, 0, none⟩ = some (.int .i64 a1) ∧ w.cell? ⟨B, 1, none⟩ = some (.int .i64 a2) ∧ w.cell? ⟨B, 2, none⟩ = some (.int .i64 a3) ∧ w.cell? ⟨B, 3, none⟩ = some (.int .i64 b1) ∧ w.cell? ⟨B, 4, none⟩ = some (.int .i64 b2) ∧ w.cell? ⟨B, 5, none⟩ = some (.int .i64 b3) :=
  ⟨(cell_of_row w B 0 _ 76 (0, 0) h).trans rfl, (cell_of_row w B 1 _ 76 (0, 0) h).trans rfl, (cell_of_row w B 2 _ 76 (0, 0) h).trans rfl, (cell_of_row w B 3 _ 76 (0, 0) h).trans rfl, (cell_of_row w B 4 _ 76 (0, 0) h).trans rfl, (cell_of_row w B 5 _ 76 (0, 0) h).trans rfl⟩
def insP (a1 a2 a3 b1 b2 b3 : Int) : Prop := inW a1 a2 a3 ∧ inW b1 b2 b3 ∧ a1 ≤ b1 ∧ a2 ≤ b2 ∧ a3 ≤ b3
end
section
open Go.RowKit Go.Shelf

attribute [local go_sem] Oper.semAt_some

structure P3 where
  x : Int
  y : Int
  z : Int
abbrev P3.val (p : P3) : Value := .agg #[.int .i64 p.x, .int .i64 p.y, .int .i64 p.z]

/-- The k-th cell from a corner on, S1 cells a row and S3 rows a layer. -/
def cellAt (a1 a2 a3 : Int) (S1 S3 k : Nat) : P3 := ⟨a1 + (k % S1 : Nat), a2 + (k / S1 / S3 : Nat), a3 + (k / S1 % S3 : Nat)⟩
def upto (a1 a2 a3 : Int) (S1 S3 n : Nat) : List P3 := (List.range n).map (cellAt a1 a2 a3 S1 S3)
theorem upto_zero (a1 a2 a3 : Int) (S1 S3 : Nat) : upto a1 a2 a3 S1 S3 0 = [] := rfl
theorem upto_succ (a1 a2 a3 : Int) (S1 S3 n : Nat) : upto a1 a2 a3 S1 S3 (n + 1) = upto a1 a2 a3 S1 S3 n ++ [cellAt a1 a2 a3 S1 S3 n] := by simp [upto, List.range_succ]
theorem upto_length (a1 a2 a3 : Int) (S1 S3 n : Nat) : (upto a1 a2 a3 S1 S3 n).length = n := by simp [upto]
theorem upto_prefix (a1 a2 a3 : Int) (S1 S3 : Nat) {m n : Nat} (h : m ≤ n) : upto a1 a2 a3 S1 S3 m <+: upto a1 a2 a3 S1 S3 n := by
  obtain ⟨d, rfl⟩ := Nat.exists_eq_add_of_le h
  clear h
  induction d with
  | zero => exact List.prefix_refl _
  | succ d ih =>
    rw [show m + (d + 1) = m + d + 1 by omega, upto_succ]
    exact ih.trans (List.prefix_append _ _)
theorem idx_lt {S1 S2 S3 I M L : Nat} (hI : I < S1) (hM : M < S3) (hL : L < S2) : (L * S3 + M) * S1 + I < S2 * S3 * S1 := by
  have h1 : (L * S3 + M) + 1 ≤ S2 * S3 := by
    have : (L + 1) * S3 ≤ S2 * S3 := Nat.mul_le_mul_right _ (by omega)
    rw [Nat.add_mul] at this
    omega
  have h2 : (L * S3 + M + 1) * S1 ≤ S2 * S3 * S1 := Nat.mul_le_mul_right _ h1
  rw [Nat.add_mul] at h2
  omega
theorem idx_last (L M I : Nat) : (L * (M + 1) + M) * (I + 1) + I + 1 = (L + 1) * (M + 1) * (I + 1) := by grind
theorem cellAt_of (a1 a2 a3 : Int) (S1 S3 i j l : Nat) (hi : i < S1) (hj : j < S3) : cellAt a1 a2 a3 S1 S3 ((l * S3 + j) * S1 + i) = ⟨a1 + i, a2 + l, a3 + j⟩ := by
  have e1 : ((l * S3 + j) * S1 + i) % S1 = i := by rw [Nat.mul_comm, Nat.mul_add_mod]; exact Nat.mod_eq_of_lt hi
  have e2 : ((l * S3 + j) * S1 + i) / S1 = l * S3 + j := by rw [Nat.mul_comm, Nat.mul_add_div (by omega), Nat.div_eq_of_lt hi]; omega
  have e3 : (l * S3 + j) / S3 = l := by rw [Nat.mul_comm, Nat.mul_add_div (by omega), Nat.div_eq_of_lt hj]; omega
  have e4 : (l * S3 + j) % S3 = j := by rw [Nat.mul_comm, Nat.mul_add_mod]; exact Nat.mod_eq_of_lt hj
  unfold cellAt
  rw [e1, e2, e3, e4]

/-- What a round must leave alone: the box's block, and every cell that was laid since n₁. -/
def Kp (B n₁ : Nat) (W W' : World) : Prop := (∀ cs fr, W.heap[B]? = some (.cells cs 76 fr) → W'.heap[B]? = some (.cells cs 76 fr)) ∧ ∀ k cs fr, n₁ ≤ k → W.heap[k]? = some (.cells cs 62 fr) → W'.heap[k]? = some (.cells cs 62 fr)
theorem Kp.trans {B n₁ : Nat} {X Y Z : World} (h : Kp B n₁ X Y) (k : Kp B n₁ Y Z) : Kp B n₁ X Z := ⟨fun cs fr e => k.1 cs fr (h.1 cs fr e), fun i cs fr hi e => k.2 i cs fr hi (h.2 i cs fr hi e)⟩
theorem Kp.refl (B n₁ : Nat) (W : World) : Kp B n₁ W W := ⟨fun _ _ e => e, fun _ _ _ _ e => e⟩
/-- A step that turns at most one block, which is neither. -/
theorem Kp.row {B n₁ : Nat} {W W' : World} {row : Option Nat} (h : W.grownBy W' row) (hr : ∀ g, row = some g → (∀ cs fr, W.heap[g]? ≠ some (.cells cs 76 fr)) ∧ ∀ cs fr, W.heap[g]? ≠ some (.cells cs 62 fr)) : Kp B n₁ W W' :=
  ⟨fun cs fr e => (h.block B (Array.getElem?_eq_some_iff.1 e).1 (fun e' => (hr B e'.symm).1 cs fr e)).trans e, fun k cs fr _ e => (h.block k (Array.getElem?_eq_some_iff.1 e).1 (fun e' => (hr k e'.symm).2 cs fr e)).trans e⟩
/-- The loop's own books are no cells. -/
theorem Kp.book {B n₁ : Nat} (W : World) (l : Nat) (o o' : Obj) (h : W.heap[l]? = some o) (ho : o.isCells = false) : Kp B n₁ W (W.putObj l o') :=
  Kp.row (grownBy_putObj' W l o') (fun g e => by cases e; rw [h]; exact ⟨fun cs fr e => (by cases e; cases ho), fun cs fr e => (by cases e; cases ho)⟩)
/-- New blocks turn nothing. -/
theorem Kp.grow {B n₁ : Nat} {W W' : World} (h : W.grownBy W' none) : Kp B n₁ W W' := Kp.row h (fun g e => by cases e)
/-- A store into a block that lay ahead of the loop. -/
theorem Kp.set {B n₁ b k : Nat} {W : World} {v : Value} (h1 : b < n₁) (h2 : b ≠ B) : Kp B n₁ W (W.setCell ⟨b, k, none⟩ v) :=
  ⟨fun cs fr e => (Below.heap_setCell W ⟨b, k, none⟩ v B (fun e' => h2 e'.symm)).trans e, fun i cs fr hi e => (Below.heap_setCell W ⟨b, k, none⟩ v i (fun e' => by simp at e'; omega)).trans e⟩
theorem below_grow {w w' : World} (h : Below w.heap.size w w') : w.grownBy w' none := ⟨h.os, h.tape, h.output, h.size, fun k hk _ => h.block k hk⟩

theorem wide_scope {n : Nat} {P : Program} {c : Code} {Q : Exit → Act → World → Prop} {a : Act} {w : World} (h : c.wpIn Fence.wide n P (Exit.noGoto Q) a w) : (Code.scope c).wpIn Fence.wide n P Q a w :=
  wpIn_wide.2 (wp_scope_straight (wpIn_wide.1 h))

set_option maxRecDepth 100000 in
set_option maxHeartbeats 1000000 in
theorem each1_none (n : Nat) (hn : 1 ≤ n) (l Bb : Nat) (a1 a2 a3 b1 b2 b3 : Int) (h0 : countN a1 a2 a3 b1 b2 b3 = 0) (J : List P3 → World → Prop) (W : World) (hW : AbidesFrom W.heap.size J) (hS : Six W Bb a1 a2 a3 b1 b2 b3) (hJ : J [] W) :
    CallsIn Fence.wide n Tryd.prog 46 #[.func (.yield l) #[] #[], .pointer (some ⟨Bb, 0, none⟩)] W fun e W' => (∃ v, e = .returned v) ∧ J [] W' := by
  refine callsIn_of_wp Tryd.func46 rfl trivial ?_ rfl
  simp only [Tryd.ntmps46, List.size_toArray, List.length_cons, List.length_nil, Nat.reduceAdd, Nat.reduceSub, Array.replicate_succ, Array.replicate_zero, List.push_toArray, List.append_toArray, List.nil_append, List.cons_append]
  obtain ⟨k0, k1, k2, k3, k4, k5⟩ := hS.cells
  gi_wp2
  refine wide_scope ?_
  gi_wp2_with (refine ⟨trivial, ?_⟩; gi_at_call 36; refine (callsIn_wide.2 (count_c _ _ _ _ _ _ _)).mono ?_; rintro e w1 ⟨rfl, hw1⟩)
  rw [Exit.noGoto_ret]
  refine bodyPost_ret (results_none rfl _ _ _) rfl ⟨⟨_, rfl⟩, ?_⟩
  exact hW [] W w1 none hJ (below_grow hw1) (fun r h => by cases h)

set_option maxRecDepth 100000 in
set_option maxHeartbeats 2000000 in
theorem each1_some (n : Nat) (hn : 1 ≤ n) (l Bb n₁ : Nat) (a1 a2 a3 b1 b2 b3 : Int) (S1 S2 S3 : Nat) (p1 : 1 ≤ S1) (p2 : 1 ≤ S2) (p3 : 1 ≤ S3) (e1 : a1 + (S1 : Int) = b1 + 1) (e2 : a2 + (S2 : Int) = b2 + 1) (e3 : a3 + (S3 : Int) = b3 + 1)
    (q1 : -1099511627776 ≤ a1 ∧ b1 ≤ 1099511627776) (q2 : -1099511627776 ≤ a2 ∧ b2 ≤ 1099511627776) (q3 : -1099511627776 ≤ a3 ∧ b3 ≤ 1099511627776)
    (J Jx : List P3 → World → Prop) (W : World) (hn₁ : n₁ ≤ W.heap.size) (hW : AbidesFrom W.heap.size J) (_hWx : AbidesFrom W.heap.size Jx)
    (hY : ∀ pre x W1, J pre W1 → pre.length < S2 * S3 * S1 → YieldAt Fence.wide (n - 1) Tryd.prog l #[P3.val x] W1 fun e W' =>
      (e = .returned (.bool true) ∧ J (pre ++ [x]) W' ∧ Kp Bb n₁ W1 W') ∨ (e = .returned (.bool false) ∧ Jx (pre ++ [x]) W'))
    (hS : Six W Bb a1 a2 a3 b1 b2 b3) (hJ : J [] W) :
    CallsIn Fence.wide n Tryd.prog 46 #[.func (.yield l) #[] #[], .pointer (some ⟨Bb, 0, none⟩)] W fun e W' => (∃ v, e = .returned v) ∧ (J (upto a1 a2 a3 S1 S3 (S2 * S3 * S1)) W' ∨ ∃ pre, pre <+: upto a1 a2 a3 S1 S3 (S2 * S3 * S1) ∧ Jx pre W') := by
  have HN : Hid (countN a1 a2 a3 b1 b2 b3 ≠ 0) := by
    have r1 : sideN a1 b1 = S1 := by unfold sideN; rw [if_pos (by omega)]; omega
    have r2 : sideN a2 b2 = S2 := by unfold sideN; rw [if_pos (by omega)]; omega
    have r3 : sideN a3 b3 = S3 := by unfold sideN; rw [if_pos (by omega)]; omega
    have r4 : 1 ≤ S1 * S2 * S3 := Nat.mul_le_mul (Nat.mul_le_mul p1 p2) p3
    have r5 : ((S1 : Int) * S2 * S3) = ((S1 * S2 * S3 : Nat) : Int) := by simp
    show countN a1 a2 a3 b1 b2 b3 ≠ 0
    unfold countN
    rw [r1, r2, r3, r5]
    omega
  obtain ⟨c, hc⟩ : ∃ c, countN a1 a2 a3 b1 b2 b3 = c := ⟨_, rfl⟩
  have hc0 : c ≠ 0 := hc ▸ HN.out
  have hcb : (c == 0) = false := by simp [hc0]
  refine callsIn_of_wp Tryd.func46 rfl trivial ?_ rfl
  simp only [Tryd.ntmps46, List.size_toArray, List.length_cons, List.length_nil, Nat.reduceAdd, Nat.reduceSub, Array.replicate_succ, Array.replicate_zero, List.push_toArray, List.append_toArray, List.nil_append, List.cons_append]
  obtain ⟨k0, k1, k2, k3, k4, k5⟩ := hS.cells
  gi_wp2
  refine wide_scope ?_
  gi_wp2_with (refine ⟨trivial, ?_⟩; gi_at_call 36; refine (callsIn_wide.2 (count_c _ _ _ _ _ _ _)).mono ?_; rintro e w1 ⟨rfl, hw1⟩)
  refine wpIn_label ?_
  have hS1 : Six w1 Bb a1 a2 a3 b1 b2 b3 := hS.on hw1 (Array.getElem?_eq_some_iff.1 hS).1
  have hJ1 : J [] w1 := hW [] W w1 none hJ (below_grow hw1) (fun r h => by cases h)
  obtain ⟨m0, m1, m2, m3, m4, m5⟩ := hS1.cells
  clear k0 k1 k2 k3 k4 k5
  gi_wp2
  gi_loopw [3] (fun y wr => ∃ L : Nat, y = .int .i64 (a2 + L) ∧ L < S2 ∧ Six wr Bb a1 a2 a3 b1 b2 b3 ∧ n₁ ≤ wr.heap.size ∧ J (upto a1 a2 a3 S1 S3 (L * S3 * S1)) wr) (fun y _ => (a2 + S2 - intOf y).toNat)
  case atStart => exact ⟨0, by simp, by omega, hS1, Nat.le_trans hn₁ hw1.size, by simpa [upto] using hJ1⟩
  case round =>
    clear m0 m1 m2 m3 m4 m5
    obtain ⟨L, rfl, hL, hS2, hz2, hJ2⟩ := hrel
    obtain ⟨r0, r1, r2, r3, r4, r5⟩ := hS2.cells
    gi_wp2
    gi_loopw [4] (fun z wr => ∃ M : Nat, z = .int .i64 (a3 + M) ∧ M ≤ S3 ∧ (M = S3 → L + 1 < S2) ∧ Six wr Bb a1 a2 a3 b1 b2 b3 ∧ n₁ ≤ wr.heap.size ∧ J (upto a1 a2 a3 S1 S3 ((L * S3 + M) * S1)) wr) (fun z _ => (a3 + S3 + 1 - intOf z).toNat)
    case atStart => exact ⟨0, by simp, by omega, fun h => by omega, hS2, hz2, by simpa using hJ2⟩
    case round =>
      clear r0 r1 r2 r3 r4 r5
      obtain ⟨M, rfl, hM, hM2, hS3, hz3, hJ3⟩ := hrel
      obtain ⟨t0, t1, t2, t3, t4, t5⟩ := hS3.cells
      by_cases hm : M = S3
      · have hm' : ¬ a3 + (M : Int) ≤ b3 := by omega
        gi_wp2
        refine ⟨⟨L + 1, by simp; omega, hM2 hm, hS3, hz3, ?_⟩, by simp [intOf]; omega⟩
        rw [hm] at hJ3
        rwa [show (L + 1) * S3 = L * S3 + S3 by rw [Nat.add_mul]; omega]
      · have hm' : a3 + (M : Int) ≤ b3 := by omega
        have hm3 : M < S3 := by omega
        gi_wp2
        gi_loopw [5] (fun x wr => ∃ I : Nat, x = .int .i64 (a1 + I) ∧ I ≤ S1 ∧ (I = S1 → ¬ (L + 1 = S2 ∧ M + 1 = S3)) ∧ Six wr Bb a1 a2 a3 b1 b2 b3 ∧ n₁ ≤ wr.heap.size ∧ J (upto a1 a2 a3 S1 S3 ((L * S3 + M) * S1 + I)) wr) (fun x _ => (a1 + S1 + 1 - intOf x).toNat)
        case atStart => exact ⟨0, by simp, by omega, fun h => by omega, hS3, hz3, by simpa using hJ3⟩
        case round =>
          clear t0 t1 t2 t3 t4 t5
          obtain ⟨I, rfl, hI, hI2, hS4, hz4, hJ4⟩ := hrel
          obtain ⟨v0, v1, v2, v3, v4, v5⟩ := hS4.cells
          by_cases hi : I = S1
          · have hi' : ¬ a1 + (I : Int) ≤ b1 := by omega
            gi_wp2
            refine ⟨⟨M + 1, by simp; omega, by omega, fun h => by have := hI2 hi; omega, hS4, hz4, ?_⟩, by simp [intOf]; omega⟩
            rw [hi] at hJ4
            rwa [show (L * S3 + (M + 1)) * S1 = (L * S3 + M) * S1 + S1 by rw [← Nat.add_assoc, Nat.add_mul]; omega]
          · have hi' : a1 + (I : Int) ≤ b1 := by omega
            have hi3 : I < S1 := by omega
            have hJ5 : J (upto a1 a2 a3 S1 S3 ((L * S3 + M) * S1 + I)) (wr.alloc (.cells #[.int .i64 (a1 + I), .int .i64 (a2 + L), .int .i64 (a3 + M)] 62)) := hW _ wr _ none hJ4 (World.grownBy_alloc wr _ none) (fun r h => by cases h)
            have hS5 : Six (wr.alloc (.cells #[.int .i64 (a1 + I), .int .i64 (a2 + L), .int .i64 (a3 + M)] 62)) Bb a1 a2 a3 b1 b2 b3 := (Below.heap_alloc wr _ Bb (Array.getElem?_eq_some_iff.1 hS4).1).trans hS4
            have hP5 := heap_alloc_new wr (.cells #[.int .i64 (a1 + I), .int .i64 (a2 + L), .int .i64 (a3 + M)] 62)
            obtain ⟨fn, tmps, assign, body, hy, hR⟩ := hY _ ⟨a1 + I, a2 + L, a3 + M⟩ _ hJ5 (by rw [upto_length]; exact idx_lt hi3 hm3 hL)
            dsimp only [P3.val] at hy
            gi_wp2
            refine hR.mono ?_
            clear v0 v1 v2 v3 v4 v5 hy
            rintro e W3 (⟨rfl, hJ6, hk⟩ | ⟨rfl, hx⟩)
            · have hS6 : Six W3 Bb a1 a2 a3 b1 b2 b3 := hk.1 _ _ hS5
              have hP6 := hk.2 _ _ _ hz4 hP5
              have hJ7 : J (upto a1 a2 a3 S1 S3 ((L * S3 + M) * S1 + I + 1)) W3 := by rw [upto_succ, cellAt_of _ _ _ _ _ _ _ _ hi3 hm3]; exact hJ6
              have hz6 : n₁ ≤ W3.heap.size := by have := (Array.getElem?_eq_some_iff.1 hP6).1; omega
              obtain ⟨y0, y1, y2, y3, y4, y5⟩ := hS6.cells
              have x0 : W3.cell? ⟨wr.heap.size, 0, none⟩ = some (.int .i64 (a1 + I)) := (cell_of_row W3 _ 0 _ 62 (0, 0) hP6).trans rfl
              have x1 : W3.cell? ⟨wr.heap.size, 1, none⟩ = some (.int .i64 (a2 + L)) := (cell_of_row W3 _ 1 _ 62 (0, 0) hP6).trans rfl
              have x2 : W3.cell? ⟨wr.heap.size, 2, none⟩ = some (.int .i64 (a3 + M)) := (cell_of_row W3 _ 2 _ 62 (0, 0) hP6).trans rfl
              by_cases g1 : a1 + (I : Int) = b1
              case neg =>
                gi_wp2
                exact ⟨⟨I + 1, by simp; omega, by omega, fun h => by omega, hS6, hz6, hJ7⟩, by simp [intOf]; omega⟩
              have g1a := Int.le_of_eq g1
              have g1b := Int.le_of_eq g1.symm
              clear g1
              by_cases g2 : a2 + (L : Int) = b2
              case neg =>
                gi_wp2
                exact ⟨⟨I + 1, by simp; omega, by omega, fun h => by omega, hS6, hz6, hJ7⟩, by simp [intOf]; omega⟩
              have g2a := Int.le_of_eq g2
              have g2b := Int.le_of_eq g2.symm
              clear g2
              by_cases g3 : a3 + (M : Int) = b3
              case neg =>
                gi_wp2
                exact ⟨⟨I + 1, by simp; omega, by omega, fun h => by omega, hS6, hz6, hJ7⟩, by simp [intOf]; omega⟩
              have hJ8 : J (upto a1 a2 a3 S1 S3 (S2 * S3 * S1)) W3 := by
                have z1 : I + 1 = S1 := by omega
                have z2 : L + 1 = S2 := by omega
                have z3 : M + 1 = S3 := by omega
                have z : (L * S3 + M) * S1 + I + 1 = S2 * S3 * S1 := by
                  rw [← z1, ← z2, ← z3]
                  exact idx_last L M I
                rwa [z] at hJ7
              gi_wp2
              rw [Exit.noGoto_normal]
              go_end0
              exact ⟨⟨_, rfl⟩, .inl hJ8⟩
            · have hpf : upto a1 a2 a3 S1 S3 ((L * S3 + M) * S1 + I) ++ [⟨a1 + I, a2 + L, a3 + M⟩] <+: upto a1 a2 a3 S1 S3 (S2 * S3 * S1) := by
                rw [← cellAt_of a1 a2 a3 S1 S3 I M L hi3 hm3, ← upto_succ]
                exact upto_prefix _ _ _ _ _ (idx_lt hi3 hm3 hL)
              gi_wp2
              rw [Exit.noGoto_normal]
              go_end0
              exact ⟨⟨_, rfl⟩, .inr ⟨_, hpf, hx⟩⟩
end
section
open Go.RowKit Go.Shelf

attribute [local go_sem] Oper.semAt_some

/-- How many cells a box has, and which, one after the other. -/
def boxN (a1 a2 a3 b1 b2 b3 : Int) : Nat := (sideN a2 b2).toNat * (sideN a3 b3).toNat * (sideN a1 b1).toNat
def boxL (a1 a2 a3 b1 b2 b3 : Int) : List P3 := upto a1 a2 a3 (sideN a1 b1).toNat (sideN a3 b3).toNat (boxN a1 a2 a3 b1 b2 b3)
theorem boxL_length (a1 a2 a3 b1 b2 b3 : Int) : (boxL a1 a2 a3 b1 b2 b3).length = boxN a1 a2 a3 b1 b2 b3 := upto_length _ _ _ _ _ _

theorem sideN_cases (a b : Int) : (sideN a b = 0) ∨ (∃ S : Nat, 1 ≤ S ∧ sideN a b = S ∧ a + (S : Int) = b + 1 ∧ -1099511627776 ≤ a ∧ b ≤ 1099511627776) := by
  unfold sideN
  by_cases h : a ≤ b ∧ -1099511627776 ≤ a ∧ b ≤ 1099511627776
  · rw [if_pos h]
    exact .inr ⟨(b - a + 1).toNat, by omega, by omega, by omega, h.2⟩
  · rw [if_neg h]
    exact .inl rfl
theorem boxN_zero (a1 a2 a3 b1 b2 b3 : Int) (h : sideN a1 b1 = 0 ∨ sideN a2 b2 = 0 ∨ sideN a3 b3 = 0) : boxN a1 a2 a3 b1 b2 b3 = 0 ∧ countN a1 a2 a3 b1 b2 b3 = 0 := by
  unfold boxN countN
  rcases h with h | h | h <;> rw [h] <;> simp [Int.min_def]

theorem Six.alloc {w : World} {B : Nat} {a1 a2 a3 b1 b2 b3 : Int} (h : Six w B a1 a2 a3 b1 b2 b3) (o : Obj) : Six (w.alloc o) B a1 a2 a3 b1 b2 b3 := (Below.heap_alloc w o B (Array.getElem?_eq_some_iff.1 h).1).trans h

set_option maxHeartbeats 1000000 in
theorem each_c (a1 a2 a3 b1 b2 b3 : Int) (w : World) : Calls Tryd.prog 37 #[.agg #[.int .i64 a1, .int .i64 a2, .int .i64 a3, .int .i64 b1, .int .i64 b2, .int .i64 b3]] w fun e w' => e = .returned (.func (.func 46) #[] #[.pointer (some ⟨w.heap.size, 0, none⟩)]) ∧ w' = w.alloc (.cells #[.int .i64 a1, .int .i64 a2, .int .i64 a3, .int .i64 b1, .int .i64 b2, .int .i64 b3] 76) := by
  have hmf : ∀ w, Sem.run Tryd.prog (Instr.makeFunc (.func 46) #[] #[.pointer (some ⟨w.heap.size, 0, none⟩)]) w = .ok (.func (.func 46) #[] #[.pointer (some ⟨w.heap.size, 0, none⟩)]) w := fun w => by rfl
  go_enter Tryd.func37, Tryd.ntmps37
  go_wp2
  go_ret
  exact ⟨rfl, rfl⟩

/-- A range over the cells of a box, for every body that leaves the box alone. -/
theorem each_stops (n : Nat) (hn : 1 ≤ n) (Bb n₁ : Nat) (a1 a2 a3 b1 b2 b3 : Int) (w : World) (hB : Bb < w.heap.size) (hn₁ : n₁ ≤ w.heap.size) (hS : Six w Bb a1 a2 a3 b1 b2 b3) :
    SeqStopsK Fence.wide n Tryd.prog 46 #[.pointer (some ⟨Bb, 0, none⟩)] (fun x : P3 => #[P3.val x]) (Kp Bb n₁) (fun xs => xs = boxL a1 a2 a3 b1 b2 b3) (fun pre => pre <+: boxL a1 a2 a3 b1 b2 b3) (boxN a1 a2 a3 b1 b2 b3) w := fun l J Jx W hW hJ hJx hY h0 => by
  have hSW : Six W Bb a1 a2 a3 b1 b2 b3 := hS.on hW hB
  have none : (sideN a1 b1 = 0 ∨ sideN a2 b2 = 0 ∨ sideN a3 b3 = 0) → CallsIn Fence.wide n Tryd.prog 46 #[.func (.yield l) #[] #[], .pointer (some ⟨Bb, 0, none⟩)] W fun e W' => (∃ v, e = .returned v) ∧ ((∃ xs, xs = boxL a1 a2 a3 b1 b2 b3 ∧ J xs W') ∨ (∃ pre, pre <+: boxL a1 a2 a3 b1 b2 b3 ∧ Jx pre W')) := fun h => by
    obtain ⟨e0, e1⟩ := boxN_zero a1 a2 a3 b1 b2 b3 h
    refine (each1_none n hn l Bb a1 a2 a3 b1 b2 b3 e1 J W hJ hSW h0).mono ?_
    rintro e W' ⟨hv, hj⟩
    exact ⟨hv, .inl ⟨[], by unfold boxL; rw [e0, upto_zero], hj⟩⟩
  rcases sideN_cases a1 b1 with h1 | ⟨S1, p1, r1, e1, q1⟩
  · exact none (.inl h1)
  rcases sideN_cases a2 b2 with h2 | ⟨S2, p2, r2, e2, q2⟩
  · exact none (.inr (.inl h2))
  rcases sideN_cases a3 b3 with h3 | ⟨S3, p3, r3, e3, q3⟩
  · exact none (.inr (.inr h3))
  have eN : boxN a1 a2 a3 b1 b2 b3 = S2 * S3 * S1 := by unfold boxN; rw [r1, r2, r3]; simp
  have eL : boxL a1 a2 a3 b1 b2 b3 = upto a1 a2 a3 S1 S3 (S2 * S3 * S1) := by unfold boxL; rw [eN, r1, r3]; simp
  rw [eN] at hY
  refine (each1_some n hn l Bb n₁ a1 a2 a3 b1 b2 b3 S1 S2 S3 p1 p2 p3 e1 e2 e3 q1 q2 q3 J Jx W (Nat.le_trans hn₁ hW.size) hJ hJx hY hSW h0).mono ?_
  rintro e W' ⟨hv, hj | ⟨pre, hp, hx⟩⟩
  · exact ⟨hv, .inl ⟨_, eL.symm, hj⟩⟩
  · exact ⟨hv, .inr ⟨pre, by rw [eL]; exact hp, hx⟩⟩

theorem info58 : (Tryd.prog.info? 58).map (fun i => (i.zero, i.size, i.bytes)) = some (some (.agg #[.int .i64 0, .int .i64 0]), 2, 16) := by kernel_rfl

/-- The chunks at these steps from a chunk, as the cells of a row. -/
def flatN (cx cz : Int) (l : List P3) : List Value := l.flatMap fun p => [.int .i64 (wrap64 (cx + p.x)), .int .i64 (wrap64 (cz + p.z))]
theorem flatN_snoc (cx cz : Int) (l : List P3) (p : P3) : flatN cx cz (l ++ [p]) = flatN cx cz l ++ [.int .i64 (wrap64 (cx + p.x)), .int .i64 (wrap64 (cz + p.z))] := by simp [flatN]
theorem flatN_length (cx cz : Int) (l : List P3) : (flatN cx cz l).length = l.length * 2 := by
  induction l with
  | nil => rfl
  | cons p l ih =>
    have : flatN cx cz (p :: l) = [.int .i64 (wrap64 (cx + p.x)), .int .i64 (wrap64 (cz + p.z))] ++ flatN cx cz l := by simp [flatN]
    rw [this, List.length_append, ih]
    simp
    omega
def nearN (r : Int) : Nat := boxN (-r) 0 (-r) r 0 r
def nearL (r : Int) : List P3 := boxL (-r) 0 (-r) r 0 r
theorem near_count (r : Int) (h0 : 0 ≤ r) (h8 : r ≤ 8) : countN (-r) 0 (-r) r 0 r = (nearN r : Int) ∧ nearN r = (2 * r + 1).toNat * (2 * r + 1).toNat ∧ nearN r ≤ 289 := by
  have e : sideN (-r) r = (((2 * r + 1).toNat : Nat) : Int) := by unfold sideN; rw [if_pos (by omega)]; omega
  have e0 : sideN 0 0 = 1 := by decide
  have n : nearN r = (2 * r + 1).toNat * (2 * r + 1).toNat := by unfold nearN boxN; rw [e, e0, Int.toNat_natCast]; simp
  have b : (2 * r + 1).toNat * (2 * r + 1).toNat ≤ 17 * 17 := Nat.mul_le_mul (by omega) (by omega)
  refine ⟨?_, n, by omega⟩
  rw [n]
  unfold countN
  rw [e, e0, Int.mul_one, ← Int.natCast_mul]
  omega

theorem ownsRow_apart {W : World} {b k : Nat} {v : Value} {xs : List Value} (h : W.ownsRow b 58 2 v k xs) : ∀ g, v.ownBlock = some g → (∀ cs fr, W.heap[g]? ≠ some (.cells cs 76 fr)) ∧ ∀ cs fr, W.heap[g]? ≠ some (.cells cs 62 fr) := by
  intro g hg
  rcases h.2 with ⟨rfl, _⟩ | ⟨g', cap, cur, rfl, _, hb, _⟩
  · simp [Value.ownBlock] at hg
  · obtain rfl : g' = g := by simpa [Value.ownBlock] using hg
    rw [hb]
    exact ⟨fun cs fr e => by simp at e, fun cs fr e => by simp at e⟩
theorem ownsRow_base {W : World} {b b' e size k : Nat} {v : Value} {xs : List Value} (h : W.ownsRow b e size v k xs) (hb : b' ≤ b) : W.ownsRow b' e size v k xs := by
  refine ⟨h.1, ?_⟩
  rcases h.2 with h0 | ⟨g, cap, cur, hv, hg, rest⟩
  · exact .inl h0
  · exact .inr ⟨g, cap, cur, hv, Nat.le_trans hb hg, rest⟩
theorem cell_two_new (W : World) (T : TypeId) (u v : Value) : ∀ (j : Nat) (x : Value), [u, v][j]? = some x → (W.alloc (.cells #[u, v] T)).cell? (Addr.add ⟨W.heap.size, 0, none⟩ j) = some x := by
  intro j x h
  have e := cell_of_row (W.alloc (.cells #[u, v] T)) W.heap.size j _ T (0, 0) (heap_alloc_new W _)
  match j with
  | 0 => simpa [Addr.add] using e.trans h
  | 1 => simpa [Addr.add] using e.trans h
  | j + 2 => simp at h
end
end Go.Proofs.YtjeapaojbkicmabDoor.G
