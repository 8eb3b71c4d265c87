/-
  The chapter's example, from what is asked of a space.
-/
import Derived.Test.YtffhnecdmdmmkaaSspec
set_option maxRecDepth 20000
namespace Go.Proofs.Ytffhnecdmdmmkaa
open Go.RowKit

abbrev T0 : List Bool := [false, false, false, false, false, false, false, false, false, false]
abbrev T1 : List Bool := [false, false, true, true, true, false, false, false, false, false]
abbrev T2 : List Bool := [false, false, true, true, true, true, true, true, true, false]
abbrev T3 : List Bool := [false, false, false, false, false, true, true, true, true, false]
abbrev T4 : List Bool := [false, false, true, true, false, true, true, true, true, false]
abbrev T5 : List Bool := [false, false, true, true, false, true, true, true, true, true]
theorem a1 : tkS 2 T0 3 = (2, 0, T1) := by decide
theorem a2 : tkS 2 T1 4 = (5, 0, T2) := by decide
theorem a3 : erS 2 T2 2 3 true = 0 ∧ doS 2 T2 2 3 true false = T3 := by decide
theorem a4 : tkS 2 T3 2 = (2, 0, T4) := by decide
theorem a5 : spansS 2 T4 = [(4, 1), (9, 1)] := by decide
theorem a6 : tkS 2 T4 2 = (0, 7, T4) := by decide
theorem a7 : erS 2 T4 9 1 false = 0 ∧ doS 2 T4 9 1 false true = T5 := by decide
theorem a8 : erS 2 T5 9 1 false = 1 ∧ doS 2 T5 9 1 false true = T5 := by decide
theorem a9 : roomS (spansS 2 T5) = 1 ∧ largeS (spansS 2 T5) = 1 := by decide
theorem i64s {x : Int} (h : 0 ≤ x ∧ x ≤ 1000000) : I64 x := ⟨by omega, by omega⟩
set_option maxHeartbeats 2000000 in
theorem awake_s (J : SSpec) (w : World) : Calls Try.prog 8 #[] w fun e w' => e = .returned (.bool true) ∧ Below w.heap.size w w' := by
  obtain ⟨Post, hPost⟩ : ∃ Post : Ending → World → Prop, Post = fun e w' => e = .returned (.bool true) ∧ Below w.heap.size w w' := ⟨_, rfl⟩
  rw [← hPost]
  have HP : Hid (∀ w', Below w.heap.size w w' → Post (.returned (.bool true)) w') := fun w' h => by rw [hPost]; exact ⟨rfl, h⟩
  clear hPost
  go_enter Try.func8, Try.ntmps8
  go_wp2_with fail
  refine (snew J 10 2 w (i64s (by decide)) (i64s (by decide)) (by unfold badNew; decide)).mono ?_
  rintro _ w1 ⟨g, F1, rfl, hS⟩
  have H1 : Hid (Sk J F1 w w1 g 2 T0) := hS
  clear hS
  go_wp2_with fail
  refine (stake H1.out 3 (i64s (by decide))).mono ?_
  rw [a1]
  rintro _ w2 ⟨rfl, F2, hS, _⟩
  have H2 : Hid (Sk J F2 w w2 g 2 T1) := hS
  clear hS H1
  go_wp2_with fail
  refine (stake H2.out 4 (i64s (by decide))).mono ?_
  rw [a2]
  rintro _ w3 ⟨rfl, F3, hS, _⟩
  have H3 : Hid (Sk J F3 w w3 g 2 T2) := hS
  clear hS H2
  go_wp2_with fail
  refine (sfree H3.out 2 3 (i64s (by decide)) (i64s (by decide))).mono ?_
  rw [a3.1, a3.2]
  rintro _ w4 ⟨rfl, F4, hS, _⟩
  have H4 : Hid (Sk J F4 w w4 g 2 T3) := hS
  clear hS H3
  go_wp2_with fail
  refine (stake H4.out 2 (i64s (by decide))).mono ?_
  rw [a4]
  rintro _ w5 ⟨rfl, F5, hS, _⟩
  have H5 : Hid (Sk J F5 w w5 g 2 T4) := hS
  clear hS H4
  go_wp2_with fail
  refine (sspans H5.out).mono ?_
  rw [a5]
  rintro _ w6 ⟨F6, a, c, rfl, hS, _, hO, hgb⟩
  have H6 : Hid (Sk J F6 w w6 g 2 T4) := hS
  obtain ⟨lo, HO6⟩ : ∃ lo, Hid (OwnSp w6 lo a c [(4, 1), (9, 1)] ∧ ∀ gb, a = some ⟨gb, 0, none⟩ → ¬ F6 gb) := ⟨_, hO, hgb⟩
  clear hS H5 hO hgb
  go_wp2_with fail
  refine (stake H6.out 2 (i64s (by decide))).mono ?_
  rw [a6]
  rintro _ w7 ⟨rfl, F7, hS, hT⟩
  have H7 : Hid (Sk J F7 w w7 g 2 T4) := hS
  have HO7 : Hid (OwnSp w7 lo a c [(4, 1), (9, 1)] ∧ ∀ gb, a = some ⟨gb, 0, none⟩ → ¬ F7 gb) := HO6.out.1.stp hT HO6.out.2
  clear hS H6 HO6 hT
  go_wp2_with fail
  refine (smark H7.out 9 1 (i64s (by decide)) (i64s (by decide))).mono ?_
  rw [a7.1, a7.2]
  rintro _ w8 ⟨rfl, F8, hS, hT⟩
  have H8 : Hid (Sk J F8 w w8 g 2 T5) := hS
  have HO8 : Hid (OwnSp w8 lo a c [(4, 1), (9, 1)] ∧ ∀ gb, a = some ⟨gb, 0, none⟩ → ¬ F8 gb) := HO7.out.1.stp hT HO7.out.2
  clear hS H7 HO7 hT
  go_wp2_with fail
  refine (smark H8.out 9 1 (i64s (by decide)) (i64s (by decide))).mono ?_
  rw [a8.1, a8.2]
  rintro _ w9 ⟨rfl, F9, hS, hT⟩
  have H9 : Hid (Sk J F9 w w9 g 2 T5) := hS
  have hO9 := (HO8.out.1.stp hT HO8.out.2).1
  obtain ⟨gb, rfl, _, _, x0, x1⟩ := hO9.at (k := 0) (by decide)
  obtain ⟨gb', e, _, _, x2, x3⟩ := hO9.at (k := 1) (by decide)
  cases e
  simp only [Nat.zero_mul, Nat.one_mul, Nat.zero_add, List.getElem_cons_zero, List.getElem_cons_succ] at x0 x1 x2 x3
  clear hS H8 HO8 hT hO9
  go_wp2_with fail
  refine (sroom H9.out).mono ?_
  rw [a9.1]
  rintro _ w10 ⟨rfl, F10, hS, _⟩
  have H10 : Hid (Sk J F10 w w10 g 2 T5) := hS
  clear hS H9 x0 x1 x2 x3
  go_wp2_with fail
  refine (slarge H10.out).mono ?_
  rw [a9.2]
  rintro _ w11 ⟨rfl, F11, hS, _⟩
  have R := HP.out w11 hS.below
  clear hS H10 HP
  go_wp2
  exact R
end Go.Proofs.Ytffhnecdmdmmkaa
