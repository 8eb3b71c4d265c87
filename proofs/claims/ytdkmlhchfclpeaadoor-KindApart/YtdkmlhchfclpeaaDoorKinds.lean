/-
  What each question about a kind answers, of the program, for every number; whatever lay is as it lay.
-/
import Derived.Test.YtdkmlhchfclpeaaDoorBase
namespace Go.Proofs.YtdkmlhchfclpeaaDoor
open Go.RowKit

theorem rowOf_neg {k : Int} (h : k < 0) : rowOf k = 16 := by unfold rowOf; rw [if_pos (Or.inl h)]
theorem rowOf_big {k : Int} (h : 16 ≤ k) : rowOf k = 16 := by unfold rowOf; rw [if_pos (Or.inr (by omega))]
theorem rowOf_nat {K : Nat} (h : K < 16) : rowOf (K : Int) = K := by unfold rowOf; rw [if_neg (by omega)]; simp
theorem row_cases (k : Int) : (k < 0 ∧ rowOf k = 16) ∨ (¬ k < 0 ∧ 16 ≤ k ∧ rowOf k = 16) ∨ ∃ K : Nat, k = K ∧ K < 16 ∧ rowOf k = K := by
  by_cases h0 : k < 0
  · exact Or.inl ⟨h0, rowOf_neg h0⟩
  · by_cases h1 : 16 ≤ k
    · exact Or.inr (Or.inl ⟨h0, h1, rowOf_big h1⟩)
    · obtain ⟨K, rfl⟩ := Int.eq_ofNat_of_zero_le (show 0 ≤ k by omega)
      exact Or.inr (Or.inr ⟨K, rfl, by omega, rowOf_nat (by omega)⟩)

theorem named_c (s : ByteArray) (a b : Bool) (l e : Int) (w : World) : Calls Tryd.prog 21 #[.agg #[.string s, .bool a, .bool b, .int .i64 l, .int .i64 e]] w fun x w' => x = .returned (.string s) ∧ Below w.heap.size w w' := by
  go_enter Tryd.func21, Tryd.ntmps21
  go_wp2
  go_ret
  exact ⟨rfl, (Below.refl _ _).alloc (Nat.le_refl _) _⟩
theorem ask_named (k : Int) (w : World) (T : Tab w) (N : Nat) (hN : rowOf k = N) : Calls Tryd.prog 20 #[.int .i64 k, .func (.func 21) #[] #[]] w fun x w' => x = .returned (.string (nm N)) ∧ Below w.heap.size w w' := by
  rcases row_cases k with ⟨h0, e⟩ | ⟨h0, h1, e⟩ | ⟨K, rfl, h1, e⟩
  · obtain rfl : N = 16 := hN.symm.trans e
    clear hN e
    go_enter Tryd.func20, Tryd.ntmps20
    go_wp2_with fail
    refine (named_c _ _ _ _ _ _).mono ?_
    rintro _ w1 ⟨rfl, b⟩
    go_wp2
    go_ret
    exact ⟨rfl, b⟩
  · obtain rfl : N = 16 := hN.symm.trans e
    clear hN e
    go_enter Tryd.func20, Tryd.ntmps20
    go_wp2_with fail
    refine (named_c _ _ _ _ _ _).mono ?_
    rintro _ w1 ⟨rfl, b⟩
    go_wp2
    go_ret
    exact ⟨rfl, b⟩
  · obtain rfl : N = K := hN.symm.trans e
    clear hN e
    have c0 := T.range h1 0 _ rfl
    have c1 := T.range h1 1 _ rfl
    have c2 := T.range h1 2 _ rfl
    have c3 := T.range h1 3 _ rfl
    have c4 := T.range h1 4 _ rfl
    rw [Nat.add_zero] at c0
    have h0 : ¬ (N : Int) < 0 := by omega
    have h2 : ¬ (16 : Int) ≤ N := by omega
    clear h1
    go_enter Tryd.func20, Tryd.ntmps20
    go_wp2_with fail
    refine (named_c _ _ _ _ _ _).mono ?_
    rintro _ w1 ⟨rfl, b⟩
    go_wp2
    go_ret
    exact ⟨rfl, b⟩
theorem kind_nm (k : Int) (w : World) (T : Tab w) (N : Nat) (hN : rowOf k = N) : Calls Tryd.prog 8 #[.int .i64 k] w fun x w' => x = .returned (.string (nm N)) ∧ Below w.heap.size w w' := by
  go_enter Tryd.func8, Tryd.ntmps8
  go_wp2_with fail
  refine (ask_named _ _ T N hN).mono ?_
  rintro _ w1 ⟨rfl, b⟩
  go_wp2
  go_ret
  exact ⟨rfl, b⟩

theorem isOpaque_c (s : ByteArray) (a b : Bool) (l e : Int) (w : World) : Calls Tryd.prog 24 #[.agg #[.string s, .bool a, .bool b, .int .i64 l, .int .i64 e]] w fun x w' => x = .returned (.bool a) ∧ Below w.heap.size w w' := by
  go_enter Tryd.func24, Tryd.ntmps24
  go_wp2
  go_ret
  exact ⟨rfl, (Below.refl _ _).alloc (Nat.le_refl _) _⟩
theorem ask_isOpaque (k : Int) (w : World) (T : Tab w) (N : Nat) (hN : rowOf k = N) : Calls Tryd.prog 23 #[.int .i64 k, .func (.func 24) #[] #[]] w fun x w' => x = .returned (.bool (op N)) ∧ Below w.heap.size w w' := by
  rcases row_cases k with ⟨h0, e⟩ | ⟨h0, h1, e⟩ | ⟨K, rfl, h1, e⟩
  · obtain rfl : N = 16 := hN.symm.trans e
    clear hN e
    go_enter Tryd.func23, Tryd.ntmps23
    go_wp2_with fail
    refine (isOpaque_c _ _ _ _ _ _).mono ?_
    rintro _ w1 ⟨rfl, b⟩
    go_wp2
    go_ret
    exact ⟨rfl, b⟩
  · obtain rfl : N = 16 := hN.symm.trans e
    clear hN e
    go_enter Tryd.func23, Tryd.ntmps23
    go_wp2_with fail
    refine (isOpaque_c _ _ _ _ _ _).mono ?_
    rintro _ w1 ⟨rfl, b⟩
    go_wp2
    go_ret
    exact ⟨rfl, b⟩
  · obtain rfl : N = K := hN.symm.trans e
    clear hN e
    have c0 := T.range h1 0 _ rfl
    have c1 := T.range h1 1 _ rfl
    have c2 := T.range h1 2 _ rfl
    have c3 := T.range h1 3 _ rfl
    have c4 := T.range h1 4 _ rfl
    rw [Nat.add_zero] at c0
    have h0 : ¬ (N : Int) < 0 := by omega
    have h2 : ¬ (16 : Int) ≤ N := by omega
    clear h1
    go_enter Tryd.func23, Tryd.ntmps23
    go_wp2_with fail
    refine (isOpaque_c _ _ _ _ _ _).mono ?_
    rintro _ w1 ⟨rfl, b⟩
    go_wp2
    go_ret
    exact ⟨rfl, b⟩
theorem kind_op (k : Int) (w : World) (T : Tab w) (N : Nat) (hN : rowOf k = N) : Calls Tryd.prog 12 #[.int .i64 k] w fun x w' => x = .returned (.bool (op N)) ∧ Below w.heap.size w w' := by
  go_enter Tryd.func12, Tryd.ntmps12
  go_wp2_with fail
  refine (ask_isOpaque _ _ T N hN).mono ?_
  rintro _ w1 ⟨rfl, b⟩
  go_wp2
  go_ret
  exact ⟨rfl, b⟩

theorem isClear_c (s : ByteArray) (a b : Bool) (l e : Int) (w : World) : Calls Tryd.prog 25 #[.agg #[.string s, .bool a, .bool b, .int .i64 l, .int .i64 e]] w fun x w' => x = .returned (.bool b) ∧ Below w.heap.size w w' := by
  go_enter Tryd.func25, Tryd.ntmps25
  go_wp2
  go_ret
  exact ⟨rfl, (Below.refl _ _).alloc (Nat.le_refl _) _⟩
theorem ask_isClear (k : Int) (w : World) (T : Tab w) (N : Nat) (hN : rowOf k = N) : Calls Tryd.prog 23 #[.int .i64 k, .func (.func 25) #[] #[]] w fun x w' => x = .returned (.bool (cl N)) ∧ Below w.heap.size w w' := by
  rcases row_cases k with ⟨h0, e⟩ | ⟨h0, h1, e⟩ | ⟨K, rfl, h1, e⟩
  · obtain rfl : N = 16 := hN.symm.trans e
    clear hN e
    go_enter Tryd.func23, Tryd.ntmps23
    go_wp2_with fail
    refine (isClear_c _ _ _ _ _ _).mono ?_
    rintro _ w1 ⟨rfl, b⟩
    go_wp2
    go_ret
    exact ⟨rfl, b⟩
  · obtain rfl : N = 16 := hN.symm.trans e
    clear hN e
    go_enter Tryd.func23, Tryd.ntmps23
    go_wp2_with fail
    refine (isClear_c _ _ _ _ _ _).mono ?_
    rintro _ w1 ⟨rfl, b⟩
    go_wp2
    go_ret
    exact ⟨rfl, b⟩
  · obtain rfl : N = K := hN.symm.trans e
    clear hN e
    have c0 := T.range h1 0 _ rfl
    have c1 := T.range h1 1 _ rfl
    have c2 := T.range h1 2 _ rfl
    have c3 := T.range h1 3 _ rfl
    have c4 := T.range h1 4 _ rfl
    rw [Nat.add_zero] at c0
    have h0 : ¬ (N : Int) < 0 := by omega
    have h2 : ¬ (16 : Int) ≤ N := by omega
    clear h1
    go_enter Tryd.func23, Tryd.ntmps23
    go_wp2_with fail
    refine (isClear_c _ _ _ _ _ _).mono ?_
    rintro _ w1 ⟨rfl, b⟩
    go_wp2
    go_ret
    exact ⟨rfl, b⟩
theorem kind_cl (k : Int) (w : World) (T : Tab w) (N : Nat) (hN : rowOf k = N) : Calls Tryd.prog 13 #[.int .i64 k] w fun x w' => x = .returned (.bool (cl N)) ∧ Below w.heap.size w w' := by
  go_enter Tryd.func13, Tryd.ntmps13
  go_wp2_with fail
  refine (ask_isClear _ _ T N hN).mono ?_
  rintro _ w1 ⟨rfl, b⟩
  go_wp2
  go_ret
  exact ⟨rfl, b⟩

theorem loses_c (s : ByteArray) (a b : Bool) (l e : Int) (w : World) : Calls Tryd.prog 27 #[.agg #[.string s, .bool a, .bool b, .int .i64 l, .int .i64 e]] w fun x w' => x = .returned (.int .i64 l) ∧ Below w.heap.size w w' := by
  go_enter Tryd.func27, Tryd.ntmps27
  go_wp2
  go_ret
  exact ⟨rfl, (Below.refl _ _).alloc (Nat.le_refl _) _⟩
theorem ask_loses (k : Int) (w : World) (T : Tab w) (N : Nat) (hN : rowOf k = N) : Calls Tryd.prog 26 #[.int .i64 k, .func (.func 27) #[] #[]] w fun x w' => x = .returned (.int .i64 (ls N)) ∧ Below w.heap.size w w' := by
  rcases row_cases k with ⟨h0, e⟩ | ⟨h0, h1, e⟩ | ⟨K, rfl, h1, e⟩
  · obtain rfl : N = 16 := hN.symm.trans e
    clear hN e
    go_enter Tryd.func26, Tryd.ntmps26
    go_wp2_with fail
    refine (loses_c _ _ _ _ _ _).mono ?_
    rintro _ w1 ⟨rfl, b⟩
    go_wp2
    go_ret
    exact ⟨rfl, b⟩
  · obtain rfl : N = 16 := hN.symm.trans e
    clear hN e
    go_enter Tryd.func26, Tryd.ntmps26
    go_wp2_with fail
    refine (loses_c _ _ _ _ _ _).mono ?_
    rintro _ w1 ⟨rfl, b⟩
    go_wp2
    go_ret
    exact ⟨rfl, b⟩
  · obtain rfl : N = K := hN.symm.trans e
    clear hN e
    have c0 := T.range h1 0 _ rfl
    have c1 := T.range h1 1 _ rfl
    have c2 := T.range h1 2 _ rfl
    have c3 := T.range h1 3 _ rfl
    have c4 := T.range h1 4 _ rfl
    rw [Nat.add_zero] at c0
    have h0 : ¬ (N : Int) < 0 := by omega
    have h2 : ¬ (16 : Int) ≤ N := by omega
    clear h1
    go_enter Tryd.func26, Tryd.ntmps26
    go_wp2_with fail
    refine (loses_c _ _ _ _ _ _).mono ?_
    rintro _ w1 ⟨rfl, b⟩
    go_wp2
    go_ret
    exact ⟨rfl, b⟩
theorem kind_ls (k : Int) (w : World) (T : Tab w) (N : Nat) (hN : rowOf k = N) : Calls Tryd.prog 14 #[.int .i64 k] w fun x w' => x = .returned (.int .i64 (ls N)) ∧ Below w.heap.size w w' := by
  go_enter Tryd.func14, Tryd.ntmps14
  go_wp2_with fail
  refine (ask_loses _ _ T N hN).mono ?_
  rintro _ w1 ⟨rfl, b⟩
  go_wp2
  go_ret
  exact ⟨rfl, b⟩

theorem shines_c (s : ByteArray) (a b : Bool) (l e : Int) (w : World) : Calls Tryd.prog 28 #[.agg #[.string s, .bool a, .bool b, .int .i64 l, .int .i64 e]] w fun x w' => x = .returned (.int .i64 e) ∧ Below w.heap.size w w' := by
  go_enter Tryd.func28, Tryd.ntmps28
  go_wp2
  go_ret
  exact ⟨rfl, (Below.refl _ _).alloc (Nat.le_refl _) _⟩
theorem ask_shines (k : Int) (w : World) (T : Tab w) (N : Nat) (hN : rowOf k = N) : Calls Tryd.prog 26 #[.int .i64 k, .func (.func 28) #[] #[]] w fun x w' => x = .returned (.int .i64 (em N)) ∧ Below w.heap.size w w' := by
  rcases row_cases k with ⟨h0, e⟩ | ⟨h0, h1, e⟩ | ⟨K, rfl, h1, e⟩
  · obtain rfl : N = 16 := hN.symm.trans e
    clear hN e
    go_enter Tryd.func26, Tryd.ntmps26
    go_wp2_with fail
    refine (shines_c _ _ _ _ _ _).mono ?_
    rintro _ w1 ⟨rfl, b⟩
    go_wp2
    go_ret
    exact ⟨rfl, b⟩
  · obtain rfl : N = 16 := hN.symm.trans e
    clear hN e
    go_enter Tryd.func26, Tryd.ntmps26
    go_wp2_with fail
    refine (shines_c _ _ _ _ _ _).mono ?_
    rintro _ w1 ⟨rfl, b⟩
    go_wp2
    go_ret
    exact ⟨rfl, b⟩
  · obtain rfl : N = K := hN.symm.trans e
    clear hN e
    have c0 := T.range h1 0 _ rfl
    have c1 := T.range h1 1 _ rfl
    have c2 := T.range h1 2 _ rfl
    have c3 := T.range h1 3 _ rfl
    have c4 := T.range h1 4 _ rfl
    rw [Nat.add_zero] at c0
    have h0 : ¬ (N : Int) < 0 := by omega
    have h2 : ¬ (16 : Int) ≤ N := by omega
    clear h1
    go_enter Tryd.func26, Tryd.ntmps26
    go_wp2_with fail
    refine (shines_c _ _ _ _ _ _).mono ?_
    rintro _ w1 ⟨rfl, b⟩
    go_wp2
    go_ret
    exact ⟨rfl, b⟩
theorem kind_em (k : Int) (w : World) (T : Tab w) (N : Nat) (hN : rowOf k = N) : Calls Tryd.prog 18 #[.int .i64 k] w fun x w' => x = .returned (.int .i64 (em N)) ∧ Below w.heap.size w w' := by
  go_enter Tryd.func18, Tryd.ntmps18
  go_wp2_with fail
  refine (ask_shines _ _ T N hN).mono ?_
  rintro _ w1 ⟨rfl, b⟩
  go_wp2
  go_ret
  exact ⟨rfl, b⟩
end Go.Proofs.YtdkmlhchfclpeaaDoor
