/-
  GridWorld: a box is in the world just if it has cells and both its ends are; each cell of it is, then.
-/
import Derived.Test.YtbodopfghejoiabFrame
namespace Go.Proofs.Ytbodopfghejoiab
open Go.ChangeShapes Go.WideShapes Go.ChangeAt Go.RowKit Go.BigFrame

theorem ins_iff (a1 a2 a3 b1 b2 b3 : Int) : insP a1 a2 a3 b1 b2 b3 ↔ inW a1 a2 a3 ∧ inW b1 b2 b3 ∧ 0 < countN a1 a2 a3 b1 b2 b3 := by
  constructor
  · rintro ⟨hA, hB, h1, h2, h3⟩
    refine ⟨hA, hB, ?_⟩
    have hA' := hA
    have hB' := hB
    unfold inW at hA' hB'
    have r1 : 1 ≤ sideN a1 b1 := by unfold sideN; rw [if_pos (by omega)]; omega
    have r2 : 1 ≤ sideN a2 b2 := by unfold sideN; rw [if_pos (by omega)]; omega
    have r3 : 1 ≤ sideN a3 b3 := by unfold sideN; rw [if_pos (by omega)]; omega
    have r4 : 1 * 1 ≤ sideN a1 b1 * sideN a2 b2 := Int.mul_le_mul r1 r2 (by omega) (by omega)
    have r5 : 1 * 1 ≤ sideN a1 b1 * sideN a2 b2 * sideN a3 b3 := Int.mul_le_mul (by omega) r3 (by omega) (by omega)
    unfold countN
    omega
  · rintro ⟨hA, hB, hc⟩
    have n0 : ∀ h : sideN a1 b1 = 0 ∨ sideN a2 b2 = 0 ∨ sideN a3 b3 = 0, False := fun h => by rw [(boxN_zero a1 a2 a3 b1 b2 b3 h).2] at hc; omega
    refine ⟨hA, hB, ?_, ?_, ?_⟩ <;> refine Decidable.byContradiction fun h => n0 ?_
    · exact .inl (by unfold sideN; rw [if_neg (by omega)])
    · exact .inr (.inl (by unfold sideN; rw [if_neg (by omega)]))
    · exact .inr (.inr (by unfold sideN; rw [if_neg (by omega)]))

set_option maxRecDepth 100000 in
set_option maxHeartbeats 8000000 in
theorem gridWorld_any (a1 a2 a3 b1 b2 b3 x y z : Int) (w : World) : Calls Try.prog 3 #[.agg #[.int .i64 a1, .int .i64 a2, .int .i64 a3, .int .i64 b1, .int .i64 b2, .int .i64 b3], .int .i64 x, .int .i64 y, .int .i64 z] w fun e w' => e = .returned (.bool true) ∧ Below w.heap.size w w' := by
  by_cases cA : inW a1 a2 a3
  case neg =>
    have hI : ¬ insP a1 a2 a3 b1 b2 b3 := fun h => cA ((ins_iff a1 a2 a3 b1 b2 b3).1 h).1
    go_enter Try.func3, Try.ntmps3
    have Hw0 : Hid (Below w.heap.size w (w.alloc (.cells #[.int .i64 a1, .int .i64 a2, .int .i64 a3, .int .i64 b1, .int .i64 b2, .int .i64 b3] 25))) := (Below.refl _ _).alloc (Nat.le_refl _) _
    have Sw0 : Hid (Six (w.alloc (.cells #[.int .i64 a1, .int .i64 a2, .int .i64 a3, .int .i64 b1, .int .i64 b2, .int .i64 b3] 25)) w.heap.size a1 a2 a3 b1 b2 b3) := Six.new w a1 a2 a3 b1 b2 b3
    go_wp2_with fail
    refine (awake_c _).mono ?_
    rintro e w1 ⟨rfl, hw⟩
    have Hw1 : Hid (Below w.heap.size w w1) := Hw0.out.trans (hw.mono Hw0.out.size)
    have Sw1 : Hid (Six w1 w.heap.size a1 a2 a3 b1 b2 b3) := Sw0.out.on hw (Array.getElem?_eq_some_iff.1 Sw0.out).1
    obtain ⟨w10, w11, w12, w13, w14, w15⟩ := Sw1.out.cells
    clear hw
    go_wp2_with fail
    refine (inside_c _ _ _ _ _ _ _).mono ?_
    rintro e w2 ⟨rfl, hw⟩
    have Hw2 : Hid (Below w.heap.size w w2) := Hw1.out.trans (hw.mono Hw1.out.size)
    have Sw2 : Hid (Six w2 w.heap.size a1 a2 a3 b1 b2 b3) := Sw1.out.on hw (Array.getElem?_eq_some_iff.1 Sw1.out).1
    obtain ⟨w20, w21, w22, w23, w24, w25⟩ := Sw2.out.cells
    clear hw w10 w11 w12 w13 w14 w15
    go_wp2_with fail
    refine (in_c _ _ _ _).mono ?_
    rintro e w3 ⟨rfl, hw⟩
    have Hw3 : Hid (Below w.heap.size w w3) := Hw2.out.trans (hw.mono Hw2.out.size)
    have Sw3 : Hid (Six w3 w.heap.size a1 a2 a3 b1 b2 b3) := Sw2.out.on hw (Array.getElem?_eq_some_iff.1 Sw2.out).1
    obtain ⟨w30, w31, w32, w33, w34, w35⟩ := Sw3.out.cells
    clear hw w20 w21 w22 w23 w24 w25
    obtain ⟨q0, q1, q2, q3, q4, q5⟩ := (Six.alloc Sw3.out (.cells #[.int .i64 x, .int .i64 y, .int .i64 z] 23)).cells
    have HQ : Hid (Below w.heap.size w (w3.alloc (.cells #[.int .i64 x, .int .i64 y, .int .i64 z] 23))) := Hw3.out.alloc Hw3.out.size _
    clear w30 w31 w32 w33 w34 w35
    by_cases d0 : a1 ≤ x
    case neg =>
      go_wp2
      go_ret
      exact ⟨rfl, HQ.out⟩
    by_cases d1 : x ≤ b1
    case neg =>
      go_wp2
      go_ret
      exact ⟨rfl, HQ.out⟩
    by_cases d2 : a2 ≤ y
    case neg =>
      go_wp2
      go_ret
      exact ⟨rfl, HQ.out⟩
    by_cases d3 : y ≤ b2
    case neg =>
      go_wp2
      go_ret
      exact ⟨rfl, HQ.out⟩
    by_cases d4 : a3 ≤ z
    case neg =>
      go_wp2
      go_ret
      exact ⟨rfl, HQ.out⟩
    by_cases d5 : z ≤ b3
    case neg =>
      go_wp2
      go_ret
      exact ⟨rfl, HQ.out⟩
    go_wp2
    go_ret
    exact ⟨rfl, HQ.out⟩
  by_cases cB : inW b1 b2 b3
  case neg =>
    have hI : ¬ insP a1 a2 a3 b1 b2 b3 := fun h => cB ((ins_iff a1 a2 a3 b1 b2 b3).1 h).2.1
    go_enter Try.func3, Try.ntmps3
    have Hw0 : Hid (Below w.heap.size w (w.alloc (.cells #[.int .i64 a1, .int .i64 a2, .int .i64 a3, .int .i64 b1, .int .i64 b2, .int .i64 b3] 25))) := (Below.refl _ _).alloc (Nat.le_refl _) _
    have Sw0 : Hid (Six (w.alloc (.cells #[.int .i64 a1, .int .i64 a2, .int .i64 a3, .int .i64 b1, .int .i64 b2, .int .i64 b3] 25)) w.heap.size a1 a2 a3 b1 b2 b3) := Six.new w a1 a2 a3 b1 b2 b3
    go_wp2_with fail
    refine (awake_c _).mono ?_
    rintro e w1 ⟨rfl, hw⟩
    have Hw1 : Hid (Below w.heap.size w w1) := Hw0.out.trans (hw.mono Hw0.out.size)
    have Sw1 : Hid (Six w1 w.heap.size a1 a2 a3 b1 b2 b3) := Sw0.out.on hw (Array.getElem?_eq_some_iff.1 Sw0.out).1
    obtain ⟨w10, w11, w12, w13, w14, w15⟩ := Sw1.out.cells
    clear hw
    go_wp2_with fail
    refine (inside_c _ _ _ _ _ _ _).mono ?_
    rintro e w2 ⟨rfl, hw⟩
    have Hw2 : Hid (Below w.heap.size w w2) := Hw1.out.trans (hw.mono Hw1.out.size)
    have Sw2 : Hid (Six w2 w.heap.size a1 a2 a3 b1 b2 b3) := Sw1.out.on hw (Array.getElem?_eq_some_iff.1 Sw1.out).1
    obtain ⟨w20, w21, w22, w23, w24, w25⟩ := Sw2.out.cells
    clear hw w10 w11 w12 w13 w14 w15
    go_wp2_with fail
    refine (in_c _ _ _ _).mono ?_
    rintro e w3 ⟨rfl, hw⟩
    have Hw3 : Hid (Below w.heap.size w w3) := Hw2.out.trans (hw.mono Hw2.out.size)
    have Sw3 : Hid (Six w3 w.heap.size a1 a2 a3 b1 b2 b3) := Sw2.out.on hw (Array.getElem?_eq_some_iff.1 Sw2.out).1
    obtain ⟨w30, w31, w32, w33, w34, w35⟩ := Sw3.out.cells
    clear hw w20 w21 w22 w23 w24 w25
    go_wp2_with fail
    refine (in_c _ _ _ _).mono ?_
    rintro e w4 ⟨rfl, hw⟩
    have Hw4 : Hid (Below w.heap.size w w4) := Hw3.out.trans (hw.mono Hw3.out.size)
    have Sw4 : Hid (Six w4 w.heap.size a1 a2 a3 b1 b2 b3) := Sw3.out.on hw (Array.getElem?_eq_some_iff.1 Sw3.out).1
    obtain ⟨w40, w41, w42, w43, w44, w45⟩ := Sw4.out.cells
    clear hw w30 w31 w32 w33 w34 w35
    obtain ⟨q0, q1, q2, q3, q4, q5⟩ := (Six.alloc Sw4.out (.cells #[.int .i64 x, .int .i64 y, .int .i64 z] 23)).cells
    have HQ : Hid (Below w.heap.size w (w4.alloc (.cells #[.int .i64 x, .int .i64 y, .int .i64 z] 23))) := Hw4.out.alloc Hw4.out.size _
    clear w40 w41 w42 w43 w44 w45
    by_cases d0 : a1 ≤ x
    case neg =>
      go_wp2
      go_ret
      exact ⟨rfl, HQ.out⟩
    by_cases d1 : x ≤ b1
    case neg =>
      go_wp2
      go_ret
      exact ⟨rfl, HQ.out⟩
    by_cases d2 : a2 ≤ y
    case neg =>
      go_wp2
      go_ret
      exact ⟨rfl, HQ.out⟩
    by_cases d3 : y ≤ b2
    case neg =>
      go_wp2
      go_ret
      exact ⟨rfl, HQ.out⟩
    by_cases d4 : a3 ≤ z
    case neg =>
      go_wp2
      go_ret
      exact ⟨rfl, HQ.out⟩
    by_cases d5 : z ≤ b3
    case neg =>
      go_wp2
      go_ret
      exact ⟨rfl, HQ.out⟩
    go_wp2
    go_ret
    exact ⟨rfl, HQ.out⟩
  by_cases cN : 0 < countN a1 a2 a3 b1 b2 b3
  case neg =>
    have hI : ¬ insP a1 a2 a3 b1 b2 b3 := fun h => cN ((ins_iff a1 a2 a3 b1 b2 b3).1 h).2.2
    have cN' : countN a1 a2 a3 b1 b2 b3 ≤ 0 := by omega
    go_enter Try.func3, Try.ntmps3
    have Hw0 : Hid (Below w.heap.size w (w.alloc (.cells #[.int .i64 a1, .int .i64 a2, .int .i64 a3, .int .i64 b1, .int .i64 b2, .int .i64 b3] 25))) := (Below.refl _ _).alloc (Nat.le_refl _) _
    have Sw0 : Hid (Six (w.alloc (.cells #[.int .i64 a1, .int .i64 a2, .int .i64 a3, .int .i64 b1, .int .i64 b2, .int .i64 b3] 25)) w.heap.size a1 a2 a3 b1 b2 b3) := Six.new w a1 a2 a3 b1 b2 b3
    go_wp2_with fail
    refine (awake_c _).mono ?_
    rintro e w1 ⟨rfl, hw⟩
    have Hw1 : Hid (Below w.heap.size w w1) := Hw0.out.trans (hw.mono Hw0.out.size)
    have Sw1 : Hid (Six w1 w.heap.size a1 a2 a3 b1 b2 b3) := Sw0.out.on hw (Array.getElem?_eq_some_iff.1 Sw0.out).1
    obtain ⟨w10, w11, w12, w13, w14, w15⟩ := Sw1.out.cells
    clear hw
    go_wp2_with fail
    refine (inside_c _ _ _ _ _ _ _).mono ?_
    rintro e w2 ⟨rfl, hw⟩
    have Hw2 : Hid (Below w.heap.size w w2) := Hw1.out.trans (hw.mono Hw1.out.size)
    have Sw2 : Hid (Six w2 w.heap.size a1 a2 a3 b1 b2 b3) := Sw1.out.on hw (Array.getElem?_eq_some_iff.1 Sw1.out).1
    obtain ⟨w20, w21, w22, w23, w24, w25⟩ := Sw2.out.cells
    clear hw w10 w11 w12 w13 w14 w15
    go_wp2_with fail
    refine (in_c _ _ _ _).mono ?_
    rintro e w3 ⟨rfl, hw⟩
    have Hw3 : Hid (Below w.heap.size w w3) := Hw2.out.trans (hw.mono Hw2.out.size)
    have Sw3 : Hid (Six w3 w.heap.size a1 a2 a3 b1 b2 b3) := Sw2.out.on hw (Array.getElem?_eq_some_iff.1 Sw2.out).1
    obtain ⟨w30, w31, w32, w33, w34, w35⟩ := Sw3.out.cells
    clear hw w20 w21 w22 w23 w24 w25
    go_wp2_with fail
    refine (in_c _ _ _ _).mono ?_
    rintro e w4 ⟨rfl, hw⟩
    have Hw4 : Hid (Below w.heap.size w w4) := Hw3.out.trans (hw.mono Hw3.out.size)
    have Sw4 : Hid (Six w4 w.heap.size a1 a2 a3 b1 b2 b3) := Sw3.out.on hw (Array.getElem?_eq_some_iff.1 Sw3.out).1
    obtain ⟨w40, w41, w42, w43, w44, w45⟩ := Sw4.out.cells
    clear hw w30 w31 w32 w33 w34 w35
    go_wp2_with fail
    refine (count_c _ _ _ _ _ _ _).mono ?_
    rintro e w5 ⟨rfl, hw⟩
    have Hw5 : Hid (Below w.heap.size w w5) := Hw4.out.trans (hw.mono Hw4.out.size)
    have Sw5 : Hid (Six w5 w.heap.size a1 a2 a3 b1 b2 b3) := Sw4.out.on hw (Array.getElem?_eq_some_iff.1 Sw4.out).1
    obtain ⟨w50, w51, w52, w53, w54, w55⟩ := Sw5.out.cells
    clear hw w40 w41 w42 w43 w44 w45
    obtain ⟨q0, q1, q2, q3, q4, q5⟩ := (Six.alloc Sw5.out (.cells #[.int .i64 x, .int .i64 y, .int .i64 z] 23)).cells
    have HQ : Hid (Below w.heap.size w (w5.alloc (.cells #[.int .i64 x, .int .i64 y, .int .i64 z] 23))) := Hw5.out.alloc Hw5.out.size _
    clear w50 w51 w52 w53 w54 w55
    by_cases d0 : a1 ≤ x
    case neg =>
      go_wp2
      go_ret
      exact ⟨rfl, HQ.out⟩
    by_cases d1 : x ≤ b1
    case neg =>
      go_wp2
      go_ret
      exact ⟨rfl, HQ.out⟩
    by_cases d2 : a2 ≤ y
    case neg =>
      go_wp2
      go_ret
      exact ⟨rfl, HQ.out⟩
    by_cases d3 : y ≤ b2
    case neg =>
      go_wp2
      go_ret
      exact ⟨rfl, HQ.out⟩
    by_cases d4 : a3 ≤ z
    case neg =>
      go_wp2
      go_ret
      exact ⟨rfl, HQ.out⟩
    by_cases d5 : z ≤ b3
    case neg =>
      go_wp2
      go_ret
      exact ⟨rfl, HQ.out⟩
    go_wp2
    go_ret
    exact ⟨rfl, HQ.out⟩
  have hI : insP a1 a2 a3 b1 b2 b3 := (ins_iff a1 a2 a3 b1 b2 b3).2 ⟨cA, cB, cN⟩
  go_enter Try.func3, Try.ntmps3
  have Hw0 : Hid (Below w.heap.size w (w.alloc (.cells #[.int .i64 a1, .int .i64 a2, .int .i64 a3, .int .i64 b1, .int .i64 b2, .int .i64 b3] 25))) := (Below.refl _ _).alloc (Nat.le_refl _) _
  have Sw0 : Hid (Six (w.alloc (.cells #[.int .i64 a1, .int .i64 a2, .int .i64 a3, .int .i64 b1, .int .i64 b2, .int .i64 b3] 25)) w.heap.size a1 a2 a3 b1 b2 b3) := Six.new w a1 a2 a3 b1 b2 b3
  go_wp2_with fail
  refine (awake_c _).mono ?_
  rintro e w1 ⟨rfl, hw⟩
  have Hw1 : Hid (Below w.heap.size w w1) := Hw0.out.trans (hw.mono Hw0.out.size)
  have Sw1 : Hid (Six w1 w.heap.size a1 a2 a3 b1 b2 b3) := Sw0.out.on hw (Array.getElem?_eq_some_iff.1 Sw0.out).1
  obtain ⟨w10, w11, w12, w13, w14, w15⟩ := Sw1.out.cells
  clear hw
  go_wp2_with fail
  refine (inside_c _ _ _ _ _ _ _).mono ?_
  rintro e w2 ⟨rfl, hw⟩
  have Hw2 : Hid (Below w.heap.size w w2) := Hw1.out.trans (hw.mono Hw1.out.size)
  have Sw2 : Hid (Six w2 w.heap.size a1 a2 a3 b1 b2 b3) := Sw1.out.on hw (Array.getElem?_eq_some_iff.1 Sw1.out).1
  obtain ⟨w20, w21, w22, w23, w24, w25⟩ := Sw2.out.cells
  clear hw w10 w11 w12 w13 w14 w15
  go_wp2_with fail
  refine (in_c _ _ _ _).mono ?_
  rintro e w3 ⟨rfl, hw⟩
  have Hw3 : Hid (Below w.heap.size w w3) := Hw2.out.trans (hw.mono Hw2.out.size)
  have Sw3 : Hid (Six w3 w.heap.size a1 a2 a3 b1 b2 b3) := Sw2.out.on hw (Array.getElem?_eq_some_iff.1 Sw2.out).1
  obtain ⟨w30, w31, w32, w33, w34, w35⟩ := Sw3.out.cells
  clear hw w20 w21 w22 w23 w24 w25
  go_wp2_with fail
  refine (in_c _ _ _ _).mono ?_
  rintro e w4 ⟨rfl, hw⟩
  have Hw4 : Hid (Below w.heap.size w w4) := Hw3.out.trans (hw.mono Hw3.out.size)
  have Sw4 : Hid (Six w4 w.heap.size a1 a2 a3 b1 b2 b3) := Sw3.out.on hw (Array.getElem?_eq_some_iff.1 Sw3.out).1
  obtain ⟨w40, w41, w42, w43, w44, w45⟩ := Sw4.out.cells
  clear hw w30 w31 w32 w33 w34 w35
  go_wp2_with fail
  refine (count_c _ _ _ _ _ _ _).mono ?_
  rintro e w5 ⟨rfl, hw⟩
  have Hw5 : Hid (Below w.heap.size w w5) := Hw4.out.trans (hw.mono Hw4.out.size)
  have Sw5 : Hid (Six w5 w.heap.size a1 a2 a3 b1 b2 b3) := Sw4.out.on hw (Array.getElem?_eq_some_iff.1 Sw4.out).1
  obtain ⟨w50, w51, w52, w53, w54, w55⟩ := Sw5.out.cells
  clear hw w40 w41 w42 w43 w44 w45
  obtain ⟨q0, q1, q2, q3, q4, q5⟩ := (Six.alloc Sw5.out (.cells #[.int .i64 x, .int .i64 y, .int .i64 z] 23)).cells
  have HQ : Hid (Below w.heap.size w (w5.alloc (.cells #[.int .i64 x, .int .i64 y, .int .i64 z] 23))) := Hw5.out.alloc Hw5.out.size _
  clear w50 w51 w52 w53 w54 w55
  by_cases d0 : a1 ≤ x
  case neg =>
    go_wp2
    go_ret
    exact ⟨rfl, HQ.out⟩
  by_cases d1 : x ≤ b1
  case neg =>
    go_wp2
    go_ret
    exact ⟨rfl, HQ.out⟩
  by_cases d2 : a2 ≤ y
  case neg =>
    go_wp2
    go_ret
    exact ⟨rfl, HQ.out⟩
  by_cases d3 : y ≤ b2
  case neg =>
    go_wp2
    go_ret
    exact ⟨rfl, HQ.out⟩
  by_cases d4 : a3 ≤ z
  case neg =>
    go_wp2
    go_ret
    exact ⟨rfl, HQ.out⟩
  by_cases d5 : z ≤ b3
  case neg =>
    go_wp2
    go_ret
    exact ⟨rfl, HQ.out⟩
  have hi : inW x y z := by unfold inW at cA cB ⊢; omega
  go_wp2_with fail
  refine (in_c _ _ _ _).mono ?_
  rintro e w6 ⟨rfl, hw⟩
  go_wp2
  go_ret
  exact ⟨rfl, HQ.out.trans (hw.mono HQ.out.size)⟩

set_option maxRecDepth 100000 in
theorem gridWorld_lifted (os : Os) (started : os.Started) (H : Type) (enc : TypeId × Value → H) :
    ReturnsInHanded {} Try.checked os 3 .any (Rows.gridWorldSpec.pre6 enc Try.prog Try.f3 Rows.gridWorldRow.domain false) (Rows.gridWorldSpec.post enc Try.prog Try.f3 false true false false) := by
  refine returnsInHanded_of_change (C := Try.checked) own started (by kernel_rfl) Try.func3
    (ChangeSpec.witness6 (enc := enc) (C := Try.checked) false ⟨#[], #[.agg #[.int .i64 0, .int .i64 0, .int .i64 0, .int .i64 0, .int .i64 0, .int .i64 0], .int .i64 0, .int .i64 0, .int .i64 0], []⟩ 8 (by kernel_rfl) (by kernel_rfl) (by kernel_rfl) (by kernel_rfl)) ?_
  intro W base args ds gs before hval0 hW _ _
  have hval : ∀ (j : Nat) t v, Try.f3.params[j]? = some t → args[j]? = some v → Value.okWide Try.prog W .any base t v := hval0
  have hW' := hW
  obtain ⟨p, q, hA0, hV, rfl, hfz, hnd⟩ := hW
  have hA : DataW.TrodAll enc Try.prog W 0 (fun _ => true) true Try.f3.params.toList args.toList ds p := hA0
  rw [Try.params3] at hA hval
  obtain ⟨v0, vs0, d0, ds0, p0, q0, hargs, rfl, rfl, h0, r0⟩ := trodAll_cons hA
  obtain ⟨v1, vs1, d1, ds1, p1, q1, rfl, rfl, rfl, h1, r1⟩ := trodAll_cons r0
  obtain ⟨v2, vs2, d2, ds2, p2, q2, rfl, rfl, rfl, h2, r2⟩ := trodAll_cons r1
  obtain ⟨v3, vs3, d3, ds3, p3, q3, rfl, rfl, rfl, h3, r3⟩ := trodAll_cons r2
  obtain ⟨rfl, rfl, rfl⟩ := trodAll_nil r3
  obtain rfl : args = #[v0, v1, v2, v3] := by cases args; simp_all
  obtain ⟨rfl, rfl⟩ := trodVars_none hV
  have lt0 : ∀ x ∈ p0, x.block < W.heap.size := by obtain ⟨m, hm⟩ := h0; exact DataW.trod_lt m _ _ _ hm
  obtain ⟨a1, a2, a3, b1, b2, b3, rfl, B_a1, B_a2, B_a3, B_b1, B_b2, B_b3⟩ := open_box (hval 0 25 v0 rfl rfl) h0
  obtain ⟨x, rfl, rfl, rfl, w1⟩ := open_int Try.underlying3 (hval 1 3 v1 rfl rfl) h1
  have B_x := bd64 w1
  obtain ⟨y, rfl, rfl, rfl, w2⟩ := open_int Try.underlying3 (hval 2 3 v2 rfl rfl) h2
  have B_y := bd64 w2
  obtain ⟨z, rfl, rfl, rfl, w3⟩ := open_int Try.underlying3 (hval 3 3 v3 rfl rfl) h3
  have B_z := bd64 w3
  clear hA0 hval0
  refine (gridWorld_any a1 a2 a3 b1 b2 b3 x y z W).mono fun e W' ⟨he, bel⟩ => ?_
  subst he
  exact ⟨_, rfl, _, _, _, [], _, [], hW', trodAll_mk1 (shut_bool Try.underlying4 _), (trodAll_cons_mk (Below.trod laidOut (by kernel_rfl) (of_decide_eq_true (by kernel_rfl)) h0 bel lt0) (trodAll_cons_mk (shut_int Try.underlying3 w1) (trodAll_cons_mk (shut_int Try.underlying3 w2) (trodAll_cons_mk (shut_int Try.underlying3 w3) trodAll_mk0)))), rfl, bel.frame _, fun h => by cases h⟩

theorem gridWorld_holds : Rows.GridWorldSaid :=
  OpenClaim.holds_of_wide 3 Try.f3 rfl rfl rfl rfl rfl rfl rfl ⟨rfl, rfl, rfl, rfl, rfl⟩ rfl rfl rfl rfl rfl (by kernel_rfl) Try.func3 (by kernel_rfl)
    (of_decide_eq_true (by kernel_rfl)) (by unfold Func.isWrapper; rw [if_neg (of_decide_eq_false (by kernel_rfl))]; exact ⟨rfl, rfl⟩)
    (fun os started H enc _ => gridWorld_lifted os started H enc)
#print axioms gridWorld_holds
end Go.Proofs.Ytbodopfghejoiab
