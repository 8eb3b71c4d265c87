/-
  What the document's Count and Inside answer, for every box; whatever lay is as it lay.
-/
import Derived.Test.YtbodopfghejoiaaBoxes
namespace Go.Proofs.Ytbodopfghejoiaa
open Go.RowKit

def aboveP (a1 a2 a3 b1 b2 b3 : Int) : Prop := b1 < a1 ∨ b2 < a2 ∨ b3 < a3
instance (a1 a2 a3 b1 b2 b3 : Int) : Decidable (aboveP a1 a2 a3 b1 b2 b3) := by unfold aboveP; infer_instance
def farP (x y z : Int) : Prop := x < -1099511627776 ∨ 1099511627776 < x ∨ y < -1099511627776 ∨ 1099511627776 < y ∨ z < -1099511627776 ∨ 1099511627776 < z
instance (x y z : Int) : Decidable (farP x y z) := by unfold farP; infer_instance

set_option maxHeartbeats 400000 in
theorem above_c (a1 a2 a3 b1 b2 b3 : Int) (w : World) : Calls Try.prog 33 #[.agg #[.int .i64 a1, .int .i64 a2, .int .i64 a3, .int .i64 b1, .int .i64 b2, .int .i64 b3]] w fun e w' => e = .returned (.bool (decide (aboveP a1 a2 a3 b1 b2 b3))) ∧ Below w.heap.size w w' := by
  have HB : Hid (Below w.heap.size w (w.alloc (.cells #[.int .i64 a1, .int .i64 a2, .int .i64 a3, .int .i64 b1, .int .i64 b2, .int .i64 b3] 33))) := (Below.refl _ _).alloc (Nat.le_refl _) _
  by_cases c0 : a1 ≤ b1
  case neg =>
    go_enter Try.func33, Try.ntmps33
    go_wp2
    go_ret
    exact ⟨ret_bool (by (have t : aboveP a1 a2 a3 b1 b2 b3 := (by unfold aboveP; omega); simp [t])), HB.out⟩
  by_cases c1 : a2 ≤ b2
  case neg =>
    go_enter Try.func33, Try.ntmps33
    go_wp2
    go_ret
    exact ⟨ret_bool (by (have t : aboveP a1 a2 a3 b1 b2 b3 := (by unfold aboveP; omega); simp [t])), HB.out⟩
  by_cases c2 : a3 ≤ b3
  case neg =>
    go_enter Try.func33, Try.ntmps33
    go_wp2
    go_ret
    exact ⟨ret_bool (by (have t : aboveP a1 a2 a3 b1 b2 b3 := (by unfold aboveP; omega); simp [t])), HB.out⟩
  go_enter Try.func33, Try.ntmps33
  go_wp2
  go_ret
  exact ⟨ret_bool (by (have t : ¬ aboveP a1 a2 a3 b1 b2 b3 := (by unfold aboveP; omega); simp [t]; omega)), HB.out⟩
set_option maxHeartbeats 400000 in
theorem far_c (x y z : Int) (w : World) : Calls Try.prog 34 #[.agg #[.int .i64 x, .int .i64 y, .int .i64 z]] w fun e w' => e = .returned (.bool (decide (farP x y z))) ∧ Below w.heap.size w w' := by
  have HB : Hid (Below w.heap.size w (w.alloc (.cells #[.int .i64 x, .int .i64 y, .int .i64 z] 23))) := (Below.refl _ _).alloc (Nat.le_refl _) _
  by_cases c0 : -1099511627776 ≤ x
  case neg =>
    go_enter Try.func34, Try.ntmps34
    go_wp2
    go_ret
    exact ⟨ret_bool (by (have t : farP x y z := (by unfold farP; omega); simp [t])), HB.out⟩
  by_cases c1 : x ≤ 1099511627776
  case neg =>
    go_enter Try.func34, Try.ntmps34
    go_wp2
    go_ret
    exact ⟨ret_bool (by (have t : farP x y z := (by unfold farP; omega); simp [t])), HB.out⟩
  by_cases c2 : -1099511627776 ≤ y
  case neg =>
    go_enter Try.func34, Try.ntmps34
    go_wp2
    go_ret
    exact ⟨ret_bool (by (have t : farP x y z := (by unfold farP; omega); simp [t])), HB.out⟩
  by_cases c3 : y ≤ 1099511627776
  case neg =>
    go_enter Try.func34, Try.ntmps34
    go_wp2
    go_ret
    exact ⟨ret_bool (by (have t : farP x y z := (by unfold farP; omega); simp [t])), HB.out⟩
  by_cases c4 : -1099511627776 ≤ z
  case neg =>
    go_enter Try.func34, Try.ntmps34
    go_wp2
    go_ret
    exact ⟨ret_bool (by (have t : farP x y z := (by unfold farP; omega); simp [t])), HB.out⟩
  by_cases c5 : z ≤ 1099511627776
  case neg =>
    go_enter Try.func34, Try.ntmps34
    go_wp2
    go_ret
    exact ⟨ret_bool (by (have t : farP x y z := (by unfold farP; omega); simp [t])), HB.out⟩
  go_enter Try.func34, Try.ntmps34
  go_wp2
  go_ret
  exact ⟨ret_bool (by (have t : ¬ farP x y z := (by unfold farP; omega); simp [t]; omega)), HB.out⟩
set_option maxHeartbeats 1000000 in
theorem rinside_c (a1 a2 a3 b1 b2 b3 : Int) (w : World) : Calls Try.prog 21 #[.agg #[.int .i64 a1, .int .i64 a2, .int .i64 a3, .int .i64 b1, .int .i64 b2, .int .i64 b3]] w fun e w' => e = .returned (.bool (decide (insP a1 a2 a3 b1 b2 b3))) ∧ Below w.heap.size w w' := by
  have HB : Hid (Below w.heap.size w (w.alloc (.cells #[.int .i64 a1, .int .i64 a2, .int .i64 a3, .int .i64 b1, .int .i64 b2, .int .i64 b3] 33))) := (Below.refl _ _).alloc (Nat.le_refl _) _
  by_cases c0 : inW a1 a2 a3
  case neg =>
    go_enter Try.func21, Try.ntmps21
    go_wp2_with fail
    refine (rin_c _ _ _ _).mono ?_
    rintro e w1 ⟨rfl, hw1⟩
    have HB1 : Hid (Below w.heap.size w w1) := HB.out.trans (hw1.mono HB.out.size)
    have S1 : Hid (Six w1 w.heap.size a1 a2 a3 b1 b2 b3) := (Six.new w a1 a2 a3 b1 b2 b3).on hw1 (by simp)
    obtain ⟨k0, k1, k2, k3, k4, k5⟩ := S1.out.cells
    go_wp2_with fail
    refine (rin_c _ _ _ _).mono ?_
    rintro e w2 ⟨rfl, hw2⟩
    have HB2 : Hid (Below w.heap.size w w2) := HB1.out.trans (hw2.mono HB1.out.size)
    have S2 : Hid (Six w2 w.heap.size a1 a2 a3 b1 b2 b3) := S1.out.on hw2 (Array.getElem?_eq_some_iff.1 S1.out).1
    obtain ⟨l0, l1, l2, l3, l4, l5⟩ := S2.out.cells
    go_wp2_with fail
    refine (above_c _ _ _ _ _ _ _).mono ?_
    rintro e w3 ⟨rfl, hw3⟩
    have HB3 : Hid (Below w.heap.size w w3) := HB2.out.trans (hw3.mono HB2.out.size)
    have S3 : Hid (Six w3 w.heap.size a1 a2 a3 b1 b2 b3) := S2.out.on hw3 (Array.getElem?_eq_some_iff.1 S2.out).1
    go_wp2
    go_ret
    exact ⟨ret_bool (by have t : ¬ insP a1 a2 a3 b1 b2 b3 := fun h => c0 h.1; simp [t]), HB3.out⟩
  by_cases c1 : inW b1 b2 b3
  case neg =>
    go_enter Try.func21, Try.ntmps21
    go_wp2_with fail
    refine (rin_c _ _ _ _).mono ?_
    rintro e w1 ⟨rfl, hw1⟩
    have HB1 : Hid (Below w.heap.size w w1) := HB.out.trans (hw1.mono HB.out.size)
    have S1 : Hid (Six w1 w.heap.size a1 a2 a3 b1 b2 b3) := (Six.new w a1 a2 a3 b1 b2 b3).on hw1 (by simp)
    obtain ⟨k0, k1, k2, k3, k4, k5⟩ := S1.out.cells
    go_wp2_with fail
    refine (rin_c _ _ _ _).mono ?_
    rintro e w2 ⟨rfl, hw2⟩
    have HB2 : Hid (Below w.heap.size w w2) := HB1.out.trans (hw2.mono HB1.out.size)
    have S2 : Hid (Six w2 w.heap.size a1 a2 a3 b1 b2 b3) := S1.out.on hw2 (Array.getElem?_eq_some_iff.1 S1.out).1
    obtain ⟨l0, l1, l2, l3, l4, l5⟩ := S2.out.cells
    go_wp2_with fail
    refine (above_c _ _ _ _ _ _ _).mono ?_
    rintro e w3 ⟨rfl, hw3⟩
    have HB3 : Hid (Below w.heap.size w w3) := HB2.out.trans (hw3.mono HB2.out.size)
    have S3 : Hid (Six w3 w.heap.size a1 a2 a3 b1 b2 b3) := S2.out.on hw3 (Array.getElem?_eq_some_iff.1 S2.out).1
    go_wp2
    go_ret
    exact ⟨ret_bool (by have t : ¬ insP a1 a2 a3 b1 b2 b3 := fun h => c1 h.2.1; simp [t]), HB3.out⟩
  by_cases c2 : ¬ aboveP a1 a2 a3 b1 b2 b3
  case neg =>
    replace c2 := Decidable.not_not.1 c2
    go_enter Try.func21, Try.ntmps21
    go_wp2_with fail
    refine (rin_c _ _ _ _).mono ?_
    rintro e w1 ⟨rfl, hw1⟩
    have HB1 : Hid (Below w.heap.size w w1) := HB.out.trans (hw1.mono HB.out.size)
    have S1 : Hid (Six w1 w.heap.size a1 a2 a3 b1 b2 b3) := (Six.new w a1 a2 a3 b1 b2 b3).on hw1 (by simp)
    obtain ⟨k0, k1, k2, k3, k4, k5⟩ := S1.out.cells
    go_wp2_with fail
    refine (rin_c _ _ _ _).mono ?_
    rintro e w2 ⟨rfl, hw2⟩
    have HB2 : Hid (Below w.heap.size w w2) := HB1.out.trans (hw2.mono HB1.out.size)
    have S2 : Hid (Six w2 w.heap.size a1 a2 a3 b1 b2 b3) := S1.out.on hw2 (Array.getElem?_eq_some_iff.1 S1.out).1
    obtain ⟨l0, l1, l2, l3, l4, l5⟩ := S2.out.cells
    go_wp2_with fail
    refine (above_c _ _ _ _ _ _ _).mono ?_
    rintro e w3 ⟨rfl, hw3⟩
    have HB3 : Hid (Below w.heap.size w w3) := HB2.out.trans (hw3.mono HB2.out.size)
    have S3 : Hid (Six w3 w.heap.size a1 a2 a3 b1 b2 b3) := S2.out.on hw3 (Array.getElem?_eq_some_iff.1 S2.out).1
    go_wp2
    go_ret
    exact ⟨ret_bool (by have t : ¬ insP a1 a2 a3 b1 b2 b3 := (by unfold aboveP at c2; unfold insP; omega); simp [t]), HB3.out⟩
  go_enter Try.func21, Try.ntmps21
  go_wp2_with fail
  refine (rin_c _ _ _ _).mono ?_
  rintro e w1 ⟨rfl, hw1⟩
  have HB1 : Hid (Below w.heap.size w w1) := HB.out.trans (hw1.mono HB.out.size)
  have S1 : Hid (Six w1 w.heap.size a1 a2 a3 b1 b2 b3) := (Six.new w a1 a2 a3 b1 b2 b3).on hw1 (by simp)
  obtain ⟨k0, k1, k2, k3, k4, k5⟩ := S1.out.cells
  go_wp2_with fail
  refine (rin_c _ _ _ _).mono ?_
  rintro e w2 ⟨rfl, hw2⟩
  have HB2 : Hid (Below w.heap.size w w2) := HB1.out.trans (hw2.mono HB1.out.size)
  have S2 : Hid (Six w2 w.heap.size a1 a2 a3 b1 b2 b3) := S1.out.on hw2 (Array.getElem?_eq_some_iff.1 S1.out).1
  obtain ⟨l0, l1, l2, l3, l4, l5⟩ := S2.out.cells
  go_wp2_with fail
  refine (above_c _ _ _ _ _ _ _).mono ?_
  rintro e w3 ⟨rfl, hw3⟩
  have HB3 : Hid (Below w.heap.size w w3) := HB2.out.trans (hw3.mono HB2.out.size)
  have S3 : Hid (Six w3 w.heap.size a1 a2 a3 b1 b2 b3) := S2.out.on hw3 (Array.getElem?_eq_some_iff.1 S2.out).1
  go_wp2
  go_ret
  exact ⟨ret_bool (by have t : insP a1 a2 a3 b1 b2 b3 := (by unfold aboveP at c2; exact ⟨c0, c1, by omega, by omega, by omega⟩); simp [t]), HB3.out⟩

theorem rcount_no (a1 a2 a3 b1 b2 b3 : Int) (h : aboveP a1 a2 a3 b1 b2 b3 ∨ farP a1 a2 a3 ∨ farP b1 b2 b3) : countN a1 a2 a3 b1 b2 b3 = 0 := by
  have z : sideN a1 b1 = 0 ∨ sideN a2 b2 = 0 ∨ sideN a3 b3 = 0 := by
    unfold sideN
    unfold aboveP farP at h
    omega
  unfold countN
  rcases z with z | z | z <;> rw [z] <;> simp [Int.min_def]
theorem mul_big {a s : Int} (ha : 2147483648 ≤ a) (hs : 1 ≤ s) : 2147483648 ≤ a * s := by
  have : 2147483648 * 1 ≤ a * s := Int.mul_le_mul ha hs (by omega) (by omega)
  omega
theorem rcount_yes (a1 a2 a3 b1 b2 b3 s1 s2 s3 : Int) (c0 : ¬ aboveP a1 a2 a3 b1 b2 b3) (c1 : ¬ farP a1 a2 a3) (c2 : ¬ farP b1 b2 b3) (h1 : b1 - a1 + 1 = s1) (h2 : b2 - a2 + 1 = s2) (h3 : b3 - a3 + 1 = s3) :
    (1 ≤ s1 ∧ 1 ≤ s2 ∧ 1 ≤ s3) ∧ countN a1 a2 a3 b1 b2 b3 = min (s1 * s2 * s3) 2147483648 := by
  unfold aboveP at c0
  unfold farP at c1 c2
  refine ⟨by omega, ?_⟩
  unfold countN sideN
  rw [if_pos (by omega), if_pos (by omega), if_pos (by omega), h1, h2, h3]
theorem rcount_big {s1 s2 s3 : Int} (p : 1 ≤ s1 ∧ 1 ≤ s2 ∧ 1 ≤ s3) (h : 2147483648 ≤ s1 ∨ 2147483648 ≤ s2 ∨ 2147483648 ≤ s1 * s2 ∨ 2147483648 ≤ s3 ∨ 2147483648 ≤ s1 * s2 * s3) : min (s1 * s2 * s3) 2147483648 = 2147483648 := by
  have e : 2147483648 ≤ s1 * s2 * s3 := by
    have q : 1 * 1 ≤ s1 * s2 := Int.mul_le_mul p.1 p.2.1 (by omega) (by omega)
    rcases h with h | h | h | h | h
    · exact mul_big (mul_big h p.2.1) p.2.2
    · refine mul_big ?_ p.2.2
      rw [Int.mul_comm]
      exact mul_big h p.1
    · exact mul_big h p.2.2
    · rw [Int.mul_comm]
      exact mul_big h (by omega)
    · exact h
  omega

set_option maxHeartbeats 2000000 in
theorem rcount_c (a1 a2 a3 b1 b2 b3 : Int) (w : World) : Calls Try.prog 19 #[.agg #[.int .i64 a1, .int .i64 a2, .int .i64 a3, .int .i64 b1, .int .i64 b2, .int .i64 b3]] w fun e w' => e = .returned (.int .i64 (countN a1 a2 a3 b1 b2 b3)) ∧ Below w.heap.size w w' := by
  have HB : Hid (Below w.heap.size w (w.alloc (.cells #[.int .i64 a1, .int .i64 a2, .int .i64 a3, .int .i64 b1, .int .i64 b2, .int .i64 b3] 33))) := (Below.refl _ _).alloc (Nat.le_refl _) _
  by_cases c0 : ¬ aboveP a1 a2 a3 b1 b2 b3
  case neg =>
    replace c0 := Decidable.not_not.1 c0
    have HC : Hid (countN a1 a2 a3 b1 b2 b3 = 0) := rcount_no a1 a2 a3 b1 b2 b3 (.inl c0)
    go_enter Try.func19, Try.ntmps19
    go_wp2_with fail
    refine (above_c _ _ _ _ _ _ _).mono ?_
    rintro e w1 ⟨rfl, hw1⟩
    have HB1 : Hid (Below w.heap.size w w1) := HB.out.trans (hw1.mono HB.out.size)
    have S1 : Hid (Six w1 w.heap.size a1 a2 a3 b1 b2 b3) := (Six.new w a1 a2 a3 b1 b2 b3).on hw1 (by simp)
    obtain ⟨k0, k1, k2, k3, k4, k5⟩ := S1.out.cells
    go_wp2_with fail
    refine (far_c _ _ _ _).mono ?_
    rintro e w2 ⟨rfl, hw2⟩
    have HB2 : Hid (Below w.heap.size w w2) := HB1.out.trans (hw2.mono HB1.out.size)
    have S2 : Hid (Six w2 w.heap.size a1 a2 a3 b1 b2 b3) := S1.out.on hw2 (Array.getElem?_eq_some_iff.1 S1.out).1
    obtain ⟨l0, l1, l2, l3, l4, l5⟩ := S2.out.cells
    go_wp2_with fail
    refine (far_c _ _ _ _).mono ?_
    rintro e w3 ⟨rfl, hw3⟩
    have HB3 : Hid (Below w.heap.size w w3) := HB2.out.trans (hw3.mono HB2.out.size)
    have S3 : Hid (Six w3 w.heap.size a1 a2 a3 b1 b2 b3) := S2.out.on hw3 (Array.getElem?_eq_some_iff.1 S2.out).1
    go_wp2
    go_ret
    exact ⟨ret_int HC.out.symm, HB3.out⟩
  by_cases c1 : ¬ farP a1 a2 a3
  case neg =>
    replace c1 := Decidable.not_not.1 c1
    have HC : Hid (countN a1 a2 a3 b1 b2 b3 = 0) := rcount_no a1 a2 a3 b1 b2 b3 (.inr <| .inl c1)
    go_enter Try.func19, Try.ntmps19
    go_wp2_with fail
    refine (above_c _ _ _ _ _ _ _).mono ?_
    rintro e w1 ⟨rfl, hw1⟩
    have HB1 : Hid (Below w.heap.size w w1) := HB.out.trans (hw1.mono HB.out.size)
    have S1 : Hid (Six w1 w.heap.size a1 a2 a3 b1 b2 b3) := (Six.new w a1 a2 a3 b1 b2 b3).on hw1 (by simp)
    obtain ⟨k0, k1, k2, k3, k4, k5⟩ := S1.out.cells
    go_wp2_with fail
    refine (far_c _ _ _ _).mono ?_
    rintro e w2 ⟨rfl, hw2⟩
    have HB2 : Hid (Below w.heap.size w w2) := HB1.out.trans (hw2.mono HB1.out.size)
    have S2 : Hid (Six w2 w.heap.size a1 a2 a3 b1 b2 b3) := S1.out.on hw2 (Array.getElem?_eq_some_iff.1 S1.out).1
    obtain ⟨l0, l1, l2, l3, l4, l5⟩ := S2.out.cells
    go_wp2_with fail
    refine (far_c _ _ _ _).mono ?_
    rintro e w3 ⟨rfl, hw3⟩
    have HB3 : Hid (Below w.heap.size w w3) := HB2.out.trans (hw3.mono HB2.out.size)
    have S3 : Hid (Six w3 w.heap.size a1 a2 a3 b1 b2 b3) := S2.out.on hw3 (Array.getElem?_eq_some_iff.1 S2.out).1
    go_wp2
    go_ret
    exact ⟨ret_int HC.out.symm, HB3.out⟩
  by_cases c2 : ¬ farP b1 b2 b3
  case neg =>
    replace c2 := Decidable.not_not.1 c2
    have HC : Hid (countN a1 a2 a3 b1 b2 b3 = 0) := rcount_no a1 a2 a3 b1 b2 b3 (.inr <| .inr c2)
    go_enter Try.func19, Try.ntmps19
    go_wp2_with fail
    refine (above_c _ _ _ _ _ _ _).mono ?_
    rintro e w1 ⟨rfl, hw1⟩
    have HB1 : Hid (Below w.heap.size w w1) := HB.out.trans (hw1.mono HB.out.size)
    have S1 : Hid (Six w1 w.heap.size a1 a2 a3 b1 b2 b3) := (Six.new w a1 a2 a3 b1 b2 b3).on hw1 (by simp)
    obtain ⟨k0, k1, k2, k3, k4, k5⟩ := S1.out.cells
    go_wp2_with fail
    refine (far_c _ _ _ _).mono ?_
    rintro e w2 ⟨rfl, hw2⟩
    have HB2 : Hid (Below w.heap.size w w2) := HB1.out.trans (hw2.mono HB1.out.size)
    have S2 : Hid (Six w2 w.heap.size a1 a2 a3 b1 b2 b3) := S1.out.on hw2 (Array.getElem?_eq_some_iff.1 S1.out).1
    obtain ⟨l0, l1, l2, l3, l4, l5⟩ := S2.out.cells
    go_wp2_with fail
    refine (far_c _ _ _ _).mono ?_
    rintro e w3 ⟨rfl, hw3⟩
    have HB3 : Hid (Below w.heap.size w w3) := HB2.out.trans (hw3.mono HB2.out.size)
    have S3 : Hid (Six w3 w.heap.size a1 a2 a3 b1 b2 b3) := S2.out.on hw3 (Array.getElem?_eq_some_iff.1 S2.out).1
    go_wp2
    go_ret
    exact ⟨ret_int HC.out.symm, HB3.out⟩
  have y0 := c0
  have y1 := c1
  have y2 := c2
  unfold aboveP at y0
  unfold farP at y1 y2
  obtain ⟨s1, h1⟩ : ∃ s, b1 - a1 + 1 = s := ⟨_, rfl⟩
  obtain ⟨s2, h2⟩ : ∃ s, b2 - a2 + 1 = s := ⟨_, rfl⟩
  obtain ⟨s3, h3⟩ : ∃ s, b3 - a3 + 1 = s := ⟨_, rfl⟩
  obtain ⟨p, HE0⟩ := rcount_yes a1 a2 a3 b1 b2 b3 s1 s2 s3 c0 c1 c2 h1 h2 h3
  have HE : Hid (countN a1 a2 a3 b1 b2 b3 = min (s1 * s2 * s3) 2147483648) := HE0
  clear HE0
  have p1 := p.1
  have p2 := p.2.1
  have p3 := p.2.2
  by_cases d0 : s1 < 2147483648
  case neg =>
    have HC : Hid (2147483648 = countN a1 a2 a3 b1 b2 b3) := (HE.out.trans (rcount_big p (.inl (by omega)))).symm
    go_enter Try.func19, Try.ntmps19
    go_wp2_with fail
    refine (above_c _ _ _ _ _ _ _).mono ?_
    rintro e w1 ⟨rfl, hw1⟩
    have HB1 : Hid (Below w.heap.size w w1) := HB.out.trans (hw1.mono HB.out.size)
    have S1 : Hid (Six w1 w.heap.size a1 a2 a3 b1 b2 b3) := (Six.new w a1 a2 a3 b1 b2 b3).on hw1 (by simp)
    obtain ⟨k0, k1, k2, k3, k4, k5⟩ := S1.out.cells
    go_wp2_with fail
    refine (far_c _ _ _ _).mono ?_
    rintro e w2 ⟨rfl, hw2⟩
    have HB2 : Hid (Below w.heap.size w w2) := HB1.out.trans (hw2.mono HB1.out.size)
    have S2 : Hid (Six w2 w.heap.size a1 a2 a3 b1 b2 b3) := S1.out.on hw2 (Array.getElem?_eq_some_iff.1 S1.out).1
    obtain ⟨l0, l1, l2, l3, l4, l5⟩ := S2.out.cells
    go_wp2_with fail
    refine (far_c _ _ _ _).mono ?_
    rintro e w3 ⟨rfl, hw3⟩
    have HB3 : Hid (Below w.heap.size w w3) := HB2.out.trans (hw3.mono HB2.out.size)
    have S3 : Hid (Six w3 w.heap.size a1 a2 a3 b1 b2 b3) := S2.out.on hw3 (Array.getElem?_eq_some_iff.1 S2.out).1
    obtain ⟨m0, m1, m2, m3, m4, m5⟩ := S3.out.cells
    clear k0 k1 k2 k3 k4 k5 l0 l1 l2 l3 l4 l5
    go_wp2
    refine wp_loop_rounds 4 ?_
    rw [rounds_succ]
    go_wp2
    go_ret
    exact ⟨ret_int HC.out, HB3.out.alloc HB3.out.size _⟩
  by_cases d1 : s2 < 2147483648
  case neg =>
    have HC : Hid (2147483648 = countN a1 a2 a3 b1 b2 b3) := (HE.out.trans (rcount_big p (.inr <| .inl (by omega)))).symm
    go_enter Try.func19, Try.ntmps19
    go_wp2_with fail
    refine (above_c _ _ _ _ _ _ _).mono ?_
    rintro e w1 ⟨rfl, hw1⟩
    have HB1 : Hid (Below w.heap.size w w1) := HB.out.trans (hw1.mono HB.out.size)
    have S1 : Hid (Six w1 w.heap.size a1 a2 a3 b1 b2 b3) := (Six.new w a1 a2 a3 b1 b2 b3).on hw1 (by simp)
    obtain ⟨k0, k1, k2, k3, k4, k5⟩ := S1.out.cells
    go_wp2_with fail
    refine (far_c _ _ _ _).mono ?_
    rintro e w2 ⟨rfl, hw2⟩
    have HB2 : Hid (Below w.heap.size w w2) := HB1.out.trans (hw2.mono HB1.out.size)
    have S2 : Hid (Six w2 w.heap.size a1 a2 a3 b1 b2 b3) := S1.out.on hw2 (Array.getElem?_eq_some_iff.1 S1.out).1
    obtain ⟨l0, l1, l2, l3, l4, l5⟩ := S2.out.cells
    go_wp2_with fail
    refine (far_c _ _ _ _).mono ?_
    rintro e w3 ⟨rfl, hw3⟩
    have HB3 : Hid (Below w.heap.size w w3) := HB2.out.trans (hw3.mono HB2.out.size)
    have S3 : Hid (Six w3 w.heap.size a1 a2 a3 b1 b2 b3) := S2.out.on hw3 (Array.getElem?_eq_some_iff.1 S2.out).1
    obtain ⟨m0, m1, m2, m3, m4, m5⟩ := S3.out.cells
    clear k0 k1 k2 k3 k4 k5 l0 l1 l2 l3 l4 l5
    go_wp2
    refine wp_loop_rounds 4 ?_
    rw [rounds_succ]
    go_wp2
    rw [rounds_succ]
    go_wp2
    go_ret
    exact ⟨ret_int HC.out, HB3.out.alloc HB3.out.size _⟩
  by_cases d2 : s1 * s2 < 2147483648
  case neg =>
    have q12 : 0 ≤ s1 * s2 := Int.mul_nonneg (by omega) (by omega)
    have r12 : s1 * s2 ≤ 4611686018427387904 := Int.le_trans (Int.mul_le_mul (show s1 ≤ 2147483648 by omega) (show s2 ≤ 2147483648 by omega) (by omega) (by omega)) (by omega)
    have HC : Hid (2147483648 = countN a1 a2 a3 b1 b2 b3) := (HE.out.trans (rcount_big p (.inr <| .inr <| .inl (by omega)))).symm
    go_enter Try.func19, Try.ntmps19
    go_wp2_with fail
    refine (above_c _ _ _ _ _ _ _).mono ?_
    rintro e w1 ⟨rfl, hw1⟩
    have HB1 : Hid (Below w.heap.size w w1) := HB.out.trans (hw1.mono HB.out.size)
    have S1 : Hid (Six w1 w.heap.size a1 a2 a3 b1 b2 b3) := (Six.new w a1 a2 a3 b1 b2 b3).on hw1 (by simp)
    obtain ⟨k0, k1, k2, k3, k4, k5⟩ := S1.out.cells
    go_wp2_with fail
    refine (far_c _ _ _ _).mono ?_
    rintro e w2 ⟨rfl, hw2⟩
    have HB2 : Hid (Below w.heap.size w w2) := HB1.out.trans (hw2.mono HB1.out.size)
    have S2 : Hid (Six w2 w.heap.size a1 a2 a3 b1 b2 b3) := S1.out.on hw2 (Array.getElem?_eq_some_iff.1 S1.out).1
    obtain ⟨l0, l1, l2, l3, l4, l5⟩ := S2.out.cells
    go_wp2_with fail
    refine (far_c _ _ _ _).mono ?_
    rintro e w3 ⟨rfl, hw3⟩
    have HB3 : Hid (Below w.heap.size w w3) := HB2.out.trans (hw3.mono HB2.out.size)
    have S3 : Hid (Six w3 w.heap.size a1 a2 a3 b1 b2 b3) := S2.out.on hw3 (Array.getElem?_eq_some_iff.1 S2.out).1
    obtain ⟨m0, m1, m2, m3, m4, m5⟩ := S3.out.cells
    clear k0 k1 k2 k3 k4 k5 l0 l1 l2 l3 l4 l5
    go_wp2
    refine wp_loop_rounds 4 ?_
    rw [rounds_succ]
    go_wp2
    rw [rounds_succ]
    go_wp2
    go_ret
    exact ⟨ret_int HC.out, HB3.out.alloc HB3.out.size _⟩
  by_cases d3 : s3 < 2147483648
  case neg =>
    have q12 : 0 ≤ s1 * s2 := Int.mul_nonneg (by omega) (by omega)
    have r12 : s1 * s2 ≤ 4611686018427387904 := Int.le_trans (Int.mul_le_mul (show s1 ≤ 2147483648 by omega) (show s2 ≤ 2147483648 by omega) (by omega) (by omega)) (by omega)
    have HC : Hid (2147483648 = countN a1 a2 a3 b1 b2 b3) := (HE.out.trans (rcount_big p (.inr <| .inr <| .inr <| .inl (by omega)))).symm
    go_enter Try.func19, Try.ntmps19
    go_wp2_with fail
    refine (above_c _ _ _ _ _ _ _).mono ?_
    rintro e w1 ⟨rfl, hw1⟩
    have HB1 : Hid (Below w.heap.size w w1) := HB.out.trans (hw1.mono HB.out.size)
    have S1 : Hid (Six w1 w.heap.size a1 a2 a3 b1 b2 b3) := (Six.new w a1 a2 a3 b1 b2 b3).on hw1 (by simp)
    obtain ⟨k0, k1, k2, k3, k4, k5⟩ := S1.out.cells
    go_wp2_with fail
    refine (far_c _ _ _ _).mono ?_
    rintro e w2 ⟨rfl, hw2⟩
    have HB2 : Hid (Below w.heap.size w w2) := HB1.out.trans (hw2.mono HB1.out.size)
    have S2 : Hid (Six w2 w.heap.size a1 a2 a3 b1 b2 b3) := S1.out.on hw2 (Array.getElem?_eq_some_iff.1 S1.out).1
    obtain ⟨l0, l1, l2, l3, l4, l5⟩ := S2.out.cells
    go_wp2_with fail
    refine (far_c _ _ _ _).mono ?_
    rintro e w3 ⟨rfl, hw3⟩
    have HB3 : Hid (Below w.heap.size w w3) := HB2.out.trans (hw3.mono HB2.out.size)
    have S3 : Hid (Six w3 w.heap.size a1 a2 a3 b1 b2 b3) := S2.out.on hw3 (Array.getElem?_eq_some_iff.1 S2.out).1
    obtain ⟨m0, m1, m2, m3, m4, m5⟩ := S3.out.cells
    clear k0 k1 k2 k3 k4 k5 l0 l1 l2 l3 l4 l5
    go_wp2
    refine wp_loop_rounds 4 ?_
    rw [rounds_succ]
    go_wp2
    rw [rounds_succ]
    go_wp2
    rw [rounds_succ]
    go_wp2
    go_ret
    exact ⟨ret_int HC.out, HB3.out.alloc HB3.out.size _⟩
  by_cases d4 : s1 * s2 * s3 < 2147483648
  case neg =>
    have q12 : 0 ≤ s1 * s2 := Int.mul_nonneg (by omega) (by omega)
    have r12 : s1 * s2 ≤ 4611686018427387904 := Int.le_trans (Int.mul_le_mul (show s1 ≤ 2147483648 by omega) (show s2 ≤ 2147483648 by omega) (by omega) (by omega)) (by omega)
    have q123 : 0 ≤ s1 * s2 * s3 := Int.mul_nonneg (by omega) (by omega)
    have r123 : s1 * s2 * s3 ≤ 4611686018427387904 := Int.le_trans (Int.mul_le_mul (show s1 * s2 ≤ 2147483648 by omega) (show s3 ≤ 2147483648 by omega) (by omega) (by omega)) (by omega)
    have HC : Hid (2147483648 = countN a1 a2 a3 b1 b2 b3) := (HE.out.trans (rcount_big p (.inr <| .inr <| .inr <| .inr (by omega)))).symm
    go_enter Try.func19, Try.ntmps19
    go_wp2_with fail
    refine (above_c _ _ _ _ _ _ _).mono ?_
    rintro e w1 ⟨rfl, hw1⟩
    have HB1 : Hid (Below w.heap.size w w1) := HB.out.trans (hw1.mono HB.out.size)
    have S1 : Hid (Six w1 w.heap.size a1 a2 a3 b1 b2 b3) := (Six.new w a1 a2 a3 b1 b2 b3).on hw1 (by simp)
    obtain ⟨k0, k1, k2, k3, k4, k5⟩ := S1.out.cells
    go_wp2_with fail
    refine (far_c _ _ _ _).mono ?_
    rintro e w2 ⟨rfl, hw2⟩
    have HB2 : Hid (Below w.heap.size w w2) := HB1.out.trans (hw2.mono HB1.out.size)
    have S2 : Hid (Six w2 w.heap.size a1 a2 a3 b1 b2 b3) := S1.out.on hw2 (Array.getElem?_eq_some_iff.1 S1.out).1
    obtain ⟨l0, l1, l2, l3, l4, l5⟩ := S2.out.cells
    go_wp2_with fail
    refine (far_c _ _ _ _).mono ?_
    rintro e w3 ⟨rfl, hw3⟩
    have HB3 : Hid (Below w.heap.size w w3) := HB2.out.trans (hw3.mono HB2.out.size)
    have S3 : Hid (Six w3 w.heap.size a1 a2 a3 b1 b2 b3) := S2.out.on hw3 (Array.getElem?_eq_some_iff.1 S2.out).1
    obtain ⟨m0, m1, m2, m3, m4, m5⟩ := S3.out.cells
    clear k0 k1 k2 k3 k4 k5 l0 l1 l2 l3 l4 l5
    go_wp2
    refine wp_loop_rounds 4 ?_
    rw [rounds_succ]
    go_wp2
    rw [rounds_succ]
    go_wp2
    rw [rounds_succ]
    go_wp2
    go_ret
    exact ⟨ret_int HC.out, HB3.out.alloc HB3.out.size _⟩
  have q12 : 0 ≤ s1 * s2 := Int.mul_nonneg (by omega) (by omega)
  have r12 : s1 * s2 ≤ 4611686018427387904 := Int.le_trans (Int.mul_le_mul (show s1 ≤ 2147483648 by omega) (show s2 ≤ 2147483648 by omega) (by omega) (by omega)) (by omega)
  have q123 : 0 ≤ s1 * s2 * s3 := Int.mul_nonneg (by omega) (by omega)
  have r123 : s1 * s2 * s3 ≤ 4611686018427387904 := Int.le_trans (Int.mul_le_mul (show s1 * s2 ≤ 2147483648 by omega) (show s3 ≤ 2147483648 by omega) (by omega) (by omega)) (by omega)
  have HC : Hid (s1 * s2 * s3 = countN a1 a2 a3 b1 b2 b3) := (HE.out.trans (by omega)).symm
  go_enter Try.func19, Try.ntmps19
  go_wp2_with fail
  refine (above_c _ _ _ _ _ _ _).mono ?_
  rintro e w1 ⟨rfl, hw1⟩
  have HB1 : Hid (Below w.heap.size w w1) := HB.out.trans (hw1.mono HB.out.size)
  have S1 : Hid (Six w1 w.heap.size a1 a2 a3 b1 b2 b3) := (Six.new w a1 a2 a3 b1 b2 b3).on hw1 (by simp)
  obtain ⟨k0, k1, k2, k3, k4, k5⟩ := S1.out.cells
  go_wp2_with fail
  refine (far_c _ _ _ _).mono ?_
  rintro e w2 ⟨rfl, hw2⟩
  have HB2 : Hid (Below w.heap.size w w2) := HB1.out.trans (hw2.mono HB1.out.size)
  have S2 : Hid (Six w2 w.heap.size a1 a2 a3 b1 b2 b3) := S1.out.on hw2 (Array.getElem?_eq_some_iff.1 S1.out).1
  obtain ⟨l0, l1, l2, l3, l4, l5⟩ := S2.out.cells
  go_wp2_with fail
  refine (far_c _ _ _ _).mono ?_
  rintro e w3 ⟨rfl, hw3⟩
  have HB3 : Hid (Below w.heap.size w w3) := HB2.out.trans (hw3.mono HB2.out.size)
  have S3 : Hid (Six w3 w.heap.size a1 a2 a3 b1 b2 b3) := S2.out.on hw3 (Array.getElem?_eq_some_iff.1 S2.out).1
  obtain ⟨m0, m1, m2, m3, m4, m5⟩ := S3.out.cells
  clear k0 k1 k2 k3 k4 k5 l0 l1 l2 l3 l4 l5
  go_wp2
  refine wp_loop_rounds 4 ?_
  rw [rounds_succ]
  go_wp2
  rw [rounds_succ]
  go_wp2
  rw [rounds_succ]
  go_wp2
  rw [rounds_succ]
  go_wp2
  go_ret
  exact ⟨ret_int HC.out, HB3.out.alloc HB3.out.size _⟩
end Go.Proofs.Ytbodopfghejoiaa
