/-
  What any kind does with light, of the program and of the document: the same, and within its bounds.
-/
import Derived.Test.YtdkmlhchfclpeaaDoorFrame
import Derived.Test.YtdkmlhchfclpeaaDoorAwake
namespace Go.Proofs.YtdkmlhchfclpeaaDoor
open Go.ChangeShapes Go.WideShapes Go.ChangeAt Go.RowKit

set_option maxRecDepth 100000 in
theorem kindLights_neg (k : Int) (o c : Bool) (n m : Int) (h0 : k < 0) (eo : o = false) (ec : c = false)
    (c12 : ∀ w, Tab w → Calls Tryd.prog 12 #[.int .i64 k] w fun x w' => x = .returned (.bool o) ∧ Below w.heap.size w w')
    (c13 : ∀ w, Tab w → Calls Tryd.prog 13 #[.int .i64 k] w fun x w' => x = .returned (.bool c) ∧ Below w.heap.size w w')
    (c14 : ∀ w, Tab w → Calls Tryd.prog 14 #[.int .i64 k] w fun x w' => x = .returned (.int .i64 n) ∧ Below w.heap.size w w')
    (c15 : ∀ w, Calls Tryd.prog 15 #[.int .i64 k] w fun x w' => x = .returned (.bool o) ∧ Below w.heap.size w w')
    (c16 : ∀ w, Calls Tryd.prog 16 #[.int .i64 k] w fun x w' => x = .returned (.bool c) ∧ Below w.heap.size w w')
    (c17 : ∀ w, Calls Tryd.prog 17 #[.int .i64 k] w fun x w' => x = .returned (.int .i64 n) ∧ Below w.heap.size w w')
    (c18 : ∀ w, Tab w → Calls Tryd.prog 18 #[.int .i64 k] w fun x w' => x = .returned (.int .i64 m) ∧ Below w.heap.size w w')
    (c19 : ∀ w, Calls Tryd.prog 19 #[.int .i64 k] w fun x w' => x = .returned (.int .i64 m) ∧ Below w.heap.size w w')
    (w : World) (T : Tab w) : Calls Tryd.prog 5 #[.int .i64 k] w fun e w' => e = .returned (.bool true) ∧ Below w.heap.size w w' := by
  subst eo ec
  go_enter Tryd.func5, Tryd.ntmps5
  go_wp2_with fail
  refine (awake_c w T).mono ?_
  rintro _ w1 ⟨rfl, b1⟩
  have T1 := T.on b1
  clear T
  go_wp2_with fail
  refine (c12 w1 T1).mono ?_
  rintro _ w2 ⟨rfl, b2⟩
  have T2 := T1.on b2
  have B2 := b1.trans (b2.mono b1.size)
  clear T1 b2
  go_wp2_with fail
  refine (c13 w2 T2).mono ?_
  rintro _ w3 ⟨rfl, b3⟩
  have T3 := T2.on b3
  have B3 := B2.trans (b3.mono B2.size)
  clear T2 b3
  go_wp2_with fail
  refine (c14 w3 T3).mono ?_
  rintro _ w4 ⟨rfl, b4⟩
  have T4 := T3.on b4
  have B4 := B3.trans (b4.mono B3.size)
  clear T3 b4
  go_wp2_with fail
  refine (c15 w4).mono ?_
  rintro _ w5 ⟨rfl, b5⟩
  have T5 := T4.on b5
  have B5 := B4.trans (b5.mono B4.size)
  clear T4 b5
  go_wp2_with fail
  refine (c16 w5).mono ?_
  rintro _ w6 ⟨rfl, b6⟩
  have T6 := T5.on b6
  have B6 := B5.trans (b6.mono B5.size)
  clear T5 b6
  go_wp2_with fail
  refine (c17 w6).mono ?_
  rintro _ w7 ⟨rfl, b7⟩
  have T7 := T6.on b7
  have B7 := B6.trans (b7.mono B6.size)
  clear T6 b7
  go_wp2_with fail
  refine (c18 w7 T7).mono ?_
  rintro _ w8 ⟨rfl, b8⟩
  have T8 := T7.on b8
  have B8 := B7.trans (b8.mono B7.size)
  clear T7 b8
  go_wp2_with fail
  refine (c19 w8).mono ?_
  rintro _ w9 ⟨rfl, b9⟩
  have T9 := T8.on b9
  have B9 := B8.trans (b9.mono B8.size)
  clear T8 b9
  go_wp2
  go_ret
  exact ⟨rfl, B9⟩
set_option maxRecDepth 100000 in
theorem kindLights_big (k : Int) (o c : Bool) (n m : Int) (h0 : ¬ k < 0) (h1 : 15 < k) (eo : o = false) (ec : c = false)
    (c12 : ∀ w, Tab w → Calls Tryd.prog 12 #[.int .i64 k] w fun x w' => x = .returned (.bool o) ∧ Below w.heap.size w w')
    (c13 : ∀ w, Tab w → Calls Tryd.prog 13 #[.int .i64 k] w fun x w' => x = .returned (.bool c) ∧ Below w.heap.size w w')
    (c14 : ∀ w, Tab w → Calls Tryd.prog 14 #[.int .i64 k] w fun x w' => x = .returned (.int .i64 n) ∧ Below w.heap.size w w')
    (c15 : ∀ w, Calls Tryd.prog 15 #[.int .i64 k] w fun x w' => x = .returned (.bool o) ∧ Below w.heap.size w w')
    (c16 : ∀ w, Calls Tryd.prog 16 #[.int .i64 k] w fun x w' => x = .returned (.bool c) ∧ Below w.heap.size w w')
    (c17 : ∀ w, Calls Tryd.prog 17 #[.int .i64 k] w fun x w' => x = .returned (.int .i64 n) ∧ Below w.heap.size w w')
    (c18 : ∀ w, Tab w → Calls Tryd.prog 18 #[.int .i64 k] w fun x w' => x = .returned (.int .i64 m) ∧ Below w.heap.size w w')
    (c19 : ∀ w, Calls Tryd.prog 19 #[.int .i64 k] w fun x w' => x = .returned (.int .i64 m) ∧ Below w.heap.size w w')
    (w : World) (T : Tab w) : Calls Tryd.prog 5 #[.int .i64 k] w fun e w' => e = .returned (.bool true) ∧ Below w.heap.size w w' := by
  subst eo ec
  go_enter Tryd.func5, Tryd.ntmps5
  go_wp2_with fail
  refine (awake_c w T).mono ?_
  rintro _ w1 ⟨rfl, b1⟩
  have T1 := T.on b1
  clear T
  go_wp2_with fail
  refine (c12 w1 T1).mono ?_
  rintro _ w2 ⟨rfl, b2⟩
  have T2 := T1.on b2
  have B2 := b1.trans (b2.mono b1.size)
  clear T1 b2
  go_wp2_with fail
  refine (c13 w2 T2).mono ?_
  rintro _ w3 ⟨rfl, b3⟩
  have T3 := T2.on b3
  have B3 := B2.trans (b3.mono B2.size)
  clear T2 b3
  go_wp2_with fail
  refine (c14 w3 T3).mono ?_
  rintro _ w4 ⟨rfl, b4⟩
  have T4 := T3.on b4
  have B4 := B3.trans (b4.mono B3.size)
  clear T3 b4
  go_wp2_with fail
  refine (c15 w4).mono ?_
  rintro _ w5 ⟨rfl, b5⟩
  have T5 := T4.on b5
  have B5 := B4.trans (b5.mono B4.size)
  clear T4 b5
  go_wp2_with fail
  refine (c16 w5).mono ?_
  rintro _ w6 ⟨rfl, b6⟩
  have T6 := T5.on b6
  have B6 := B5.trans (b6.mono B5.size)
  clear T5 b6
  go_wp2_with fail
  refine (c17 w6).mono ?_
  rintro _ w7 ⟨rfl, b7⟩
  have T7 := T6.on b7
  have B7 := B6.trans (b7.mono B6.size)
  clear T6 b7
  go_wp2_with fail
  refine (c18 w7 T7).mono ?_
  rintro _ w8 ⟨rfl, b8⟩
  have T8 := T7.on b8
  have B8 := B7.trans (b8.mono B7.size)
  clear T7 b8
  go_wp2_with fail
  refine (c19 w8).mono ?_
  rintro _ w9 ⟨rfl, b9⟩
  have T9 := T8.on b9
  have B9 := B8.trans (b9.mono B8.size)
  clear T8 b9
  go_wp2
  go_ret
  exact ⟨rfl, B9⟩
set_option maxRecDepth 100000 in
theorem kindLights_op (k : Int) (o c : Bool) (n m : Int) (h0 : ¬ k < 0) (h1 : ¬ 15 < k) (eo : o = true) (ec : c = false) (en : n = 16)
    (c12 : ∀ w, Tab w → Calls Tryd.prog 12 #[.int .i64 k] w fun x w' => x = .returned (.bool o) ∧ Below w.heap.size w w')
    (c13 : ∀ w, Tab w → Calls Tryd.prog 13 #[.int .i64 k] w fun x w' => x = .returned (.bool c) ∧ Below w.heap.size w w')
    (c14 : ∀ w, Tab w → Calls Tryd.prog 14 #[.int .i64 k] w fun x w' => x = .returned (.int .i64 n) ∧ Below w.heap.size w w')
    (c15 : ∀ w, Calls Tryd.prog 15 #[.int .i64 k] w fun x w' => x = .returned (.bool o) ∧ Below w.heap.size w w')
    (c16 : ∀ w, Calls Tryd.prog 16 #[.int .i64 k] w fun x w' => x = .returned (.bool c) ∧ Below w.heap.size w w')
    (c17 : ∀ w, Calls Tryd.prog 17 #[.int .i64 k] w fun x w' => x = .returned (.int .i64 n) ∧ Below w.heap.size w w')
    (c18 : ∀ w, Tab w → Calls Tryd.prog 18 #[.int .i64 k] w fun x w' => x = .returned (.int .i64 m) ∧ Below w.heap.size w w')
    (c19 : ∀ w, Calls Tryd.prog 19 #[.int .i64 k] w fun x w' => x = .returned (.int .i64 m) ∧ Below w.heap.size w w')
    (w : World) (T : Tab w) : Calls Tryd.prog 5 #[.int .i64 k] w fun e w' => e = .returned (.bool true) ∧ Below w.heap.size w w' := by
  subst eo ec en
  go_enter Tryd.func5, Tryd.ntmps5
  go_wp2_with fail
  refine (awake_c w T).mono ?_
  rintro _ w1 ⟨rfl, b1⟩
  have T1 := T.on b1
  clear T
  go_wp2_with fail
  refine (c12 w1 T1).mono ?_
  rintro _ w2 ⟨rfl, b2⟩
  have T2 := T1.on b2
  have B2 := b1.trans (b2.mono b1.size)
  clear T1 b2
  go_wp2_with fail
  refine (c13 w2 T2).mono ?_
  rintro _ w3 ⟨rfl, b3⟩
  have T3 := T2.on b3
  have B3 := B2.trans (b3.mono B2.size)
  clear T2 b3
  go_wp2_with fail
  refine (c14 w3 T3).mono ?_
  rintro _ w4 ⟨rfl, b4⟩
  have T4 := T3.on b4
  have B4 := B3.trans (b4.mono B3.size)
  clear T3 b4
  go_wp2_with fail
  refine (c15 w4).mono ?_
  rintro _ w5 ⟨rfl, b5⟩
  have T5 := T4.on b5
  have B5 := B4.trans (b5.mono B4.size)
  clear T4 b5
  go_wp2_with fail
  refine (c16 w5).mono ?_
  rintro _ w6 ⟨rfl, b6⟩
  have T6 := T5.on b6
  have B6 := B5.trans (b6.mono B5.size)
  clear T5 b6
  go_wp2_with fail
  refine (c17 w6).mono ?_
  rintro _ w7 ⟨rfl, b7⟩
  have T7 := T6.on b7
  have B7 := B6.trans (b7.mono B6.size)
  clear T6 b7
  go_wp2_with fail
  refine (c18 w7 T7).mono ?_
  rintro _ w8 ⟨rfl, b8⟩
  have T8 := T7.on b8
  have B8 := B7.trans (b8.mono B7.size)
  clear T7 b8
  go_wp2_with fail
  refine (c19 w8).mono ?_
  rintro _ w9 ⟨rfl, b9⟩
  have T9 := T8.on b9
  have B9 := B8.trans (b9.mono B8.size)
  clear T8 b9
  go_wp2
  go_ret
  exact ⟨rfl, B9⟩
set_option maxRecDepth 100000 in
theorem kindLights_dim (k : Int) (o c : Bool) (n m : Int) (h0 : ¬ k < 0) (h1 : ¬ 15 < k) (eo : o = false) (ec : c = false) (n1 : 1 ≤ n) (n3 : n ≤ 3)
    (c12 : ∀ w, Tab w → Calls Tryd.prog 12 #[.int .i64 k] w fun x w' => x = .returned (.bool o) ∧ Below w.heap.size w w')
    (c13 : ∀ w, Tab w → Calls Tryd.prog 13 #[.int .i64 k] w fun x w' => x = .returned (.bool c) ∧ Below w.heap.size w w')
    (c14 : ∀ w, Tab w → Calls Tryd.prog 14 #[.int .i64 k] w fun x w' => x = .returned (.int .i64 n) ∧ Below w.heap.size w w')
    (c15 : ∀ w, Calls Tryd.prog 15 #[.int .i64 k] w fun x w' => x = .returned (.bool o) ∧ Below w.heap.size w w')
    (c16 : ∀ w, Calls Tryd.prog 16 #[.int .i64 k] w fun x w' => x = .returned (.bool c) ∧ Below w.heap.size w w')
    (c17 : ∀ w, Calls Tryd.prog 17 #[.int .i64 k] w fun x w' => x = .returned (.int .i64 n) ∧ Below w.heap.size w w')
    (c18 : ∀ w, Tab w → Calls Tryd.prog 18 #[.int .i64 k] w fun x w' => x = .returned (.int .i64 m) ∧ Below w.heap.size w w')
    (c19 : ∀ w, Calls Tryd.prog 19 #[.int .i64 k] w fun x w' => x = .returned (.int .i64 m) ∧ Below w.heap.size w w')
    (w : World) (T : Tab w) : Calls Tryd.prog 5 #[.int .i64 k] w fun e w' => e = .returned (.bool true) ∧ Below w.heap.size w w' := by
  subst eo ec
  go_enter Tryd.func5, Tryd.ntmps5
  go_wp2_with fail
  refine (awake_c w T).mono ?_
  rintro _ w1 ⟨rfl, b1⟩
  have T1 := T.on b1
  clear T
  go_wp2_with fail
  refine (c12 w1 T1).mono ?_
  rintro _ w2 ⟨rfl, b2⟩
  have T2 := T1.on b2
  have B2 := b1.trans (b2.mono b1.size)
  clear T1 b2
  go_wp2_with fail
  refine (c13 w2 T2).mono ?_
  rintro _ w3 ⟨rfl, b3⟩
  have T3 := T2.on b3
  have B3 := B2.trans (b3.mono B2.size)
  clear T2 b3
  go_wp2_with fail
  refine (c14 w3 T3).mono ?_
  rintro _ w4 ⟨rfl, b4⟩
  have T4 := T3.on b4
  have B4 := B3.trans (b4.mono B3.size)
  clear T3 b4
  go_wp2_with fail
  refine (c15 w4).mono ?_
  rintro _ w5 ⟨rfl, b5⟩
  have T5 := T4.on b5
  have B5 := B4.trans (b5.mono B4.size)
  clear T4 b5
  go_wp2_with fail
  refine (c16 w5).mono ?_
  rintro _ w6 ⟨rfl, b6⟩
  have T6 := T5.on b6
  have B6 := B5.trans (b6.mono B5.size)
  clear T5 b6
  go_wp2_with fail
  refine (c17 w6).mono ?_
  rintro _ w7 ⟨rfl, b7⟩
  have T7 := T6.on b7
  have B7 := B6.trans (b7.mono B6.size)
  clear T6 b7
  go_wp2_with fail
  refine (c18 w7 T7).mono ?_
  rintro _ w8 ⟨rfl, b8⟩
  have T8 := T7.on b8
  have B8 := B7.trans (b8.mono B7.size)
  clear T7 b8
  go_wp2_with fail
  refine (c19 w8).mono ?_
  rintro _ w9 ⟨rfl, b9⟩
  have T9 := T8.on b9
  have B9 := B8.trans (b9.mono B8.size)
  clear T8 b9
  go_wp2
  go_ret
  exact ⟨rfl, B9⟩
set_option maxRecDepth 100000 in
theorem kindLights_clear (k : Int) (o c : Bool) (n m : Int) (h0 : ¬ k < 0) (h1 : ¬ 15 < k) (eo : o = false) (ec : c = true) (n1 : 1 ≤ n) (n3 : n ≤ 3)
    (c12 : ∀ w, Tab w → Calls Tryd.prog 12 #[.int .i64 k] w fun x w' => x = .returned (.bool o) ∧ Below w.heap.size w w')
    (c13 : ∀ w, Tab w → Calls Tryd.prog 13 #[.int .i64 k] w fun x w' => x = .returned (.bool c) ∧ Below w.heap.size w w')
    (c14 : ∀ w, Tab w → Calls Tryd.prog 14 #[.int .i64 k] w fun x w' => x = .returned (.int .i64 n) ∧ Below w.heap.size w w')
    (c15 : ∀ w, Calls Tryd.prog 15 #[.int .i64 k] w fun x w' => x = .returned (.bool o) ∧ Below w.heap.size w w')
    (c16 : ∀ w, Calls Tryd.prog 16 #[.int .i64 k] w fun x w' => x = .returned (.bool c) ∧ Below w.heap.size w w')
    (c17 : ∀ w, Calls Tryd.prog 17 #[.int .i64 k] w fun x w' => x = .returned (.int .i64 n) ∧ Below w.heap.size w w')
    (c18 : ∀ w, Tab w → Calls Tryd.prog 18 #[.int .i64 k] w fun x w' => x = .returned (.int .i64 m) ∧ Below w.heap.size w w')
    (c19 : ∀ w, Calls Tryd.prog 19 #[.int .i64 k] w fun x w' => x = .returned (.int .i64 m) ∧ Below w.heap.size w w')
    (w : World) (T : Tab w) : Calls Tryd.prog 5 #[.int .i64 k] w fun e w' => e = .returned (.bool true) ∧ Below w.heap.size w w' := by
  subst eo ec
  go_enter Tryd.func5, Tryd.ntmps5
  go_wp2_with fail
  refine (awake_c w T).mono ?_
  rintro _ w1 ⟨rfl, b1⟩
  have T1 := T.on b1
  clear T
  go_wp2_with fail
  refine (c12 w1 T1).mono ?_
  rintro _ w2 ⟨rfl, b2⟩
  have T2 := T1.on b2
  have B2 := b1.trans (b2.mono b1.size)
  clear T1 b2
  go_wp2_with fail
  refine (c13 w2 T2).mono ?_
  rintro _ w3 ⟨rfl, b3⟩
  have T3 := T2.on b3
  have B3 := B2.trans (b3.mono B2.size)
  clear T2 b3
  go_wp2_with fail
  refine (c14 w3 T3).mono ?_
  rintro _ w4 ⟨rfl, b4⟩
  have T4 := T3.on b4
  have B4 := B3.trans (b4.mono B3.size)
  clear T3 b4
  go_wp2_with fail
  refine (c15 w4).mono ?_
  rintro _ w5 ⟨rfl, b5⟩
  have T5 := T4.on b5
  have B5 := B4.trans (b5.mono B4.size)
  clear T4 b5
  go_wp2_with fail
  refine (c16 w5).mono ?_
  rintro _ w6 ⟨rfl, b6⟩
  have T6 := T5.on b6
  have B6 := B5.trans (b6.mono B5.size)
  clear T5 b6
  go_wp2_with fail
  refine (c17 w6).mono ?_
  rintro _ w7 ⟨rfl, b7⟩
  have T7 := T6.on b7
  have B7 := B6.trans (b7.mono B6.size)
  clear T6 b7
  go_wp2_with fail
  refine (c18 w7 T7).mono ?_
  rintro _ w8 ⟨rfl, b8⟩
  have T8 := T7.on b8
  have B8 := B7.trans (b8.mono B7.size)
  clear T7 b8
  go_wp2_with fail
  refine (c19 w8).mono ?_
  rintro _ w9 ⟨rfl, b9⟩
  have T9 := T8.on b9
  have B9 := B8.trans (b9.mono B8.size)
  clear T8 b9
  go_wp2
  go_ret
  exact ⟨rfl, B9⟩
/-- What the table says of each row. -/
theorem row_light {K : Nat} (hK : K < 16) : (op K = true ∧ cl K = false ∧ ls K = 16) ∨ (op K = false ∧ 1 ≤ ls K ∧ ls K ≤ 3) := by
  match K, hK with
  | 0, _ => first | exact Or.inl ⟨rfl, rfl, rfl⟩ | exact Or.inr ⟨rfl, of_decide_eq_true rfl, of_decide_eq_true rfl⟩
  | 1, _ => first | exact Or.inl ⟨rfl, rfl, rfl⟩ | exact Or.inr ⟨rfl, of_decide_eq_true rfl, of_decide_eq_true rfl⟩
  | 2, _ => first | exact Or.inl ⟨rfl, rfl, rfl⟩ | exact Or.inr ⟨rfl, of_decide_eq_true rfl, of_decide_eq_true rfl⟩
  | 3, _ => first | exact Or.inl ⟨rfl, rfl, rfl⟩ | exact Or.inr ⟨rfl, of_decide_eq_true rfl, of_decide_eq_true rfl⟩
  | 4, _ => first | exact Or.inl ⟨rfl, rfl, rfl⟩ | exact Or.inr ⟨rfl, of_decide_eq_true rfl, of_decide_eq_true rfl⟩
  | 5, _ => first | exact Or.inl ⟨rfl, rfl, rfl⟩ | exact Or.inr ⟨rfl, of_decide_eq_true rfl, of_decide_eq_true rfl⟩
  | 6, _ => first | exact Or.inl ⟨rfl, rfl, rfl⟩ | exact Or.inr ⟨rfl, of_decide_eq_true rfl, of_decide_eq_true rfl⟩
  | 7, _ => first | exact Or.inl ⟨rfl, rfl, rfl⟩ | exact Or.inr ⟨rfl, of_decide_eq_true rfl, of_decide_eq_true rfl⟩
  | 8, _ => first | exact Or.inl ⟨rfl, rfl, rfl⟩ | exact Or.inr ⟨rfl, of_decide_eq_true rfl, of_decide_eq_true rfl⟩
  | 9, _ => first | exact Or.inl ⟨rfl, rfl, rfl⟩ | exact Or.inr ⟨rfl, of_decide_eq_true rfl, of_decide_eq_true rfl⟩
  | 10, _ => first | exact Or.inl ⟨rfl, rfl, rfl⟩ | exact Or.inr ⟨rfl, of_decide_eq_true rfl, of_decide_eq_true rfl⟩
  | 11, _ => first | exact Or.inl ⟨rfl, rfl, rfl⟩ | exact Or.inr ⟨rfl, of_decide_eq_true rfl, of_decide_eq_true rfl⟩
  | 12, _ => first | exact Or.inl ⟨rfl, rfl, rfl⟩ | exact Or.inr ⟨rfl, of_decide_eq_true rfl, of_decide_eq_true rfl⟩
  | 13, _ => first | exact Or.inl ⟨rfl, rfl, rfl⟩ | exact Or.inr ⟨rfl, of_decide_eq_true rfl, of_decide_eq_true rfl⟩
  | 14, _ => first | exact Or.inl ⟨rfl, rfl, rfl⟩ | exact Or.inr ⟨rfl, of_decide_eq_true rfl, of_decide_eq_true rfl⟩
  | 15, _ => first | exact Or.inl ⟨rfl, rfl, rfl⟩ | exact Or.inr ⟨rfl, of_decide_eq_true rfl, of_decide_eq_true rfl⟩
  | n + 16, h => exact absurd h (by omega)
theorem kindLights_walk (k : Int) (w : World) (T : Tab w) : Calls Tryd.prog 5 #[.int .i64 k] w fun e w' => e = .returned (.bool true) ∧ Below w.heap.size w w' := by
  rcases row_cases k with ⟨h0, e⟩ | ⟨h0, h1, e⟩ | ⟨K, rfl, h1, e⟩
  · exact kindLights_neg k _ _ _ _ h0 rfl rfl (kind_op k · · 16 e) (kind_cl k · · 16 e) (kind_ls k · · 16 e) (ref_op k · 16 e) (ref_cl k · 16 e) (ref_ls k · 16 e) (kind_em k · · 16 e) (ref_em k · 16 e) w T
  · exact kindLights_big k _ _ _ _ h0 (by omega) rfl rfl (kind_op k · · 16 e) (kind_cl k · · 16 e) (kind_ls k · · 16 e) (ref_op k · 16 e) (ref_cl k · 16 e) (ref_ls k · 16 e) (kind_em k · · 16 e) (ref_em k · 16 e) w T
  · have i0 : ¬ (K : Int) < 0 := by omega
    have i1 : ¬ (15 : Int) < K := by omega
    rcases row_light h1 with ⟨eo, ec, en⟩ | ⟨eo, n1, n3⟩
    · exact kindLights_op K _ _ _ _ i0 i1 eo ec en (kind_op K · · K e) (kind_cl K · · K e) (kind_ls K · · K e) (ref_op K · K e) (ref_cl K · K e) (ref_ls K · K e) (kind_em K · · K e) (ref_em K · K e) w T
    · by_cases ec : cl K = true
      · exact kindLights_clear K _ _ _ _ i0 i1 eo ec n1 n3 (kind_op K · · K e) (kind_cl K · · K e) (kind_ls K · · K e) (ref_op K · K e) (ref_cl K · K e) (ref_ls K · K e) (kind_em K · · K e) (ref_em K · K e) w T
      · exact kindLights_dim K _ _ _ _ i0 i1 eo (by simpa using ec) n1 n3 (kind_op K · · K e) (kind_cl K · · K e) (kind_ls K · · K e) (ref_op K · K e) (ref_cl K · K e) (ref_ls K · K e) (kind_em K · · K e) (ref_em K · K e) w T

set_option maxRecDepth 100000 in
theorem kindLights_lifted (os : Os) (started : os.Started) (H : Type) (enc : TypeId × Value → H) :
    ReturnsInHanded {} Tryd.checked os 5 .any (fun w args => (Rows.kindLightsSpec.pre enc Tryd.prog Tryd.f5 [] false w args ∧ laidMetH Tryd.prog [("outcrop/kind.rows", Rows.laid_outcrop_kind_rows)] w) ∧ sizedMet enc Tryd.prog Tryd.f5 (OpenSpec.ofChange Rows.kindLightsSpec) false w args)
      (Rows.kindLightsSpec.post enc Tryd.prog Tryd.f5 false true false false) := by
  refine returnsInHanded_of_change_and (C := Tryd.checked) (X := fun w _ => laidMetH Tryd.prog [("outcrop/kind.rows", Rows.laid_outcrop_kind_rows)] w) (fun _ _ _ hh h => h.of_heap hh) own started (by kernel_rfl) Tryd.func5
    (ChangeSpec.witness_shaped (enc := enc) (C := Tryd.checked) (os := os) (X := fun w _ => laidMetH Tryd.prog [("outcrop/kind.rows", Rows.laid_outcrop_kind_rows)] w) false (World.doorLaid Tryd.prog 30 os) #[.int .i64 0] 8 rfl (World.shaped_of_RefB (by kernel_rfl) (by kernel_rfl)) (by kernel_rfl) (by kernel_rfl) (by kernel_rfl) (door_met os _)) ?_
  intro W base args ds gs before hval0 hW _ _ hL _
  have hval : ∀ (j : Nat) t v, Tryd.f5.params[j]? = some t → args[j]? = some v → Value.okWide Tryd.prog W .any base t v := hval0
  have hW' := hW
  obtain ⟨p, q, hA0, hV, rfl, hfz, hnd⟩ := hW
  have hA : DataW.TrodAll enc Tryd.prog W 0 (fun _ => true) true Tryd.f5.params.toList args.toList ds p := hA0
  rw [Tryd.params5] at hA hval
  obtain ⟨v0, vs0, d0, ds0, p0, q0, hargs, rfl, rfl, h0, r0⟩ := trodAll_cons hA
  obtain ⟨rfl, rfl, rfl⟩ := trodAll_nil r0
  obtain rfl : args = #[v0] := by cases args; simp_all
  obtain ⟨rfl, rfl⟩ := trodVars_none hV
  obtain ⟨k, rfl, rfl, rfl, w0⟩ := open_int Tryd.underlying3 (hval 0 3 v0 rfl rfl) h0
  have T := tab_of_laid hL
  clear hA0 hval0
  refine (kindLights_walk k W T).mono fun e W' ⟨he, bel⟩ => ?_
  subst he
  exact ⟨_, rfl, _, _, _, [], _, [], hW', trodAll_mk1 (shut_bool Tryd.underlying4 _), (trodAll_cons_mk (shut_int Tryd.underlying3 w0) trodAll_mk0), rfl, bel.frame _, fun h => by cases h⟩

theorem kindLights_holds : Rows.KindLightsSaid :=
  OpenClaim.holds_of_wide 5 Tryd.f5 rfl rfl rfl rfl rfl rfl rfl ⟨rfl, rfl, rfl, rfl, rfl⟩ rfl rfl rfl rfl rfl (by kernel_rfl) Tryd.func5 (by kernel_rfl)
    (of_decide_eq_true (by kernel_rfl)) (by unfold Func.isWrapper; rw [if_neg (of_decide_eq_false (by kernel_rfl))]; exact ⟨rfl, rfl⟩)
    (fun os started H enc _ => kindLights_lifted os started H enc)
theorem kindLights_plain (f : FuncId) (fn : Func) (hf : Tryd.pinned.checked.prog.funcNamed "outcrop/outcroplaw05.KindLights" = some f) (hfn : Tryd.pinned.checked.prog.funcs[f]? = some fn) :
    false = Tryd.pinned.checked.prog.looks [] ∧ ∀ (j : Nat) t, fn.params[j]? = some t → Tryd.pinned.checked.prog.wantsStandIn t = false := by
  obtain rfl : f = 5 := Option.some.inj ((show Tryd.prog.funcNamed "outcrop/outcroplaw05.KindLights" = some 5 by kernel_rfl).symm.trans hf) |>.symm
  obtain rfl : fn = Tryd.f5 := (Option.some.inj (Tryd.func5.symm.trans hfn)).symm
  refine ⟨by kernel_rfl, fun j t ht => ?_⟩
  rw [Tryd.params5] at ht
  obtain rfl : t = 3 := by simpa using Array.mem_of_getElem? ht
  exact (show Tryd.prog.wantsStandIn 3 = false by kernel_rfl)
/-- The card: the row's statement, its listed variable tied to the program's text. -/
theorem kindLights_card : Rows.KindLightsCardSaid :=
  Claim7.holds_tied_plain_at .later [] _ _ _ _ kindLights_holds (fun _ h => by cases h) (by kernel_rfl) (fun _ h => by cases h) kindLights_row_tie rfl ⟨rfl, rfl⟩ (by kernel_rfl) rfl kindLights_plain (by kernel_rfl)
#print axioms kindLights_card
end Go.Proofs.YtdkmlhchfclpeaaDoor
