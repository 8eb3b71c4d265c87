/-
  The landed veins: an origin's vein.
-/
import Derived.Test.YtbcadklodjdokaaPhas
set_option maxRecDepth 20000
namespace Go.Proofs.Ytbcadklodjdokaa
open C Go.RowKit

set_option maxHeartbeats 1000000 in
theorem origin_c (S : Nat) (x y z : Int) (w : World) (hS : S < 18446744073709551616) (hx : Far 1125899906842624 x) (hy : Far 1125899906842624 y) (hz : Far 1125899906842624 z) :
    Calls Try.prog 40 #[.int .u64 S, .int .i64 x, .int .i64 y, .int .i64 z] w (RatSay (R.hashN S 30 x y z) x y z w) := by
  obtain ⟨Post, hPost⟩ : ∃ Post : Ending → World → Prop, Post = RatSay (R.hashN S 30 x y z) x y z w := ⟨_, rfl⟩
  rw [← hPost]
  have HP : Hid (∀ e w', RatSay (R.hashN S 30 x y z) x y z w e w' → Post e w') := fun e w' h => by rw [hPost]; exact h
  clear hPost
  have hlt := R.hashN_lt S 30 x y z
  have hh := fun w => R.hash_any S 30 x y z w hS
  generalize R.hashN S 30 x y z = h at *
  have hb := fun w => R.below_any h 100 w hlt (by omega)
  have hv : vHas h = decide (R.belowN h 100 < 40) := rfl
  generalize R.belowN h 100 = v at *
  have Hh : Hid (vHas h = decide (v < 40)) := hv
  clear hv
  have HV : Hid (vein h x y z = #[.int .i64 (vOre h), .int .i64 (x * 8 + ((h / 65536 % 8 : Nat) : Int)), .int .i64 (y * 8 + ((h / 524288 % 8 : Nat) : Int)), .int .i64 (z * 8 + ((h / 4194304 % 8 : Nat) : Int)), .int .i64 (1 + ((h / 33554432 % 2 : Nat) : Int))]) := by
    show vein h x y z = _
    unfold vein vX vY vZ vReach
    rw [Int.mul_comm 8 x, Int.mul_comm 8 y, Int.mul_comm 8 z]
  have q8 := fun w => bits8_c h w
  have q16 := fun w => bits16_c h w
  have q19 := fun w => bits19_c h w
  have q22 := fun w => bits22_c h w
  have q25 := fun w => bits25_c h w
  have qo := fun w => ore_c h w
  have b1 : h / 65536 % 8 < 8 := Nat.mod_lt _ (by omega)
  have b2 : h / 524288 % 8 < 8 := Nat.mod_lt _ (by omega)
  have b3 : h / 4194304 % 8 < 8 := Nat.mod_lt _ (by omega)
  have b4 : h / 33554432 % 2 < 2 := Nat.mod_lt _ (by omega)
  generalize h / 65536 % 8 = M1 at *
  generalize h / 524288 % 8 = M2 at *
  generalize h / 4194304 % 8 = M3 at *
  generalize h / 33554432 % 2 = M4 at *
  generalize h / 256 % 16 = M0 at *
  obtain ⟨x0, x1⟩ := hx
  obtain ⟨y0, y1⟩ := hy
  obtain ⟨z0, z1⟩ := hz
  go_enter Try.func40, Try.ntmps40
  go_wp2_with fail
  refine (hh _).mono ?_
  clear hh
  rintro _ w1 ⟨rfl, hw⟩
  have hX1 : w1.heap[w.heap.size]? = some (.cells noVein 55 (0, 0)) := by rw [hw]; exact heap_alloc_new w _
  have Hb1 : Hid (Below w.heap.size w w1) := by rw [hw]; exact (Below.refl _ w).alloc (Nat.le_refl _) _
  clear hw
  go_wp2_with fail
  refine (hb _).mono ?_
  clear hb
  rintro _ w2 ⟨rfl, hw⟩
  replace hw := hw.symm
  subst hw
  by_cases hv : v < 40
  case neg =>
    have hv' : 40 ≤ v := by omega
    have Hf : Hid (vHas h = false) := Hh.out.trans (decide_eq_false hv)
    have c0 : w1.cell? ⟨w.heap.size, 0, none⟩ = some (.int .i64 0) := (cell_of_row w1 w.heap.size 0 _ 55 (0, 0) hX1).trans rfl
    have f0 : w1.frozen? ⟨w.heap.size, 0, none⟩ = false := frozen_of_row w1 w.heap.size 0 _ 55 hX1
    have c1 : w1.cell? ⟨w.heap.size, 1, none⟩ = some (.int .i64 0) := (cell_of_row w1 w.heap.size 1 _ 55 (0, 0) hX1).trans rfl
    have f1 : w1.frozen? ⟨w.heap.size, 1, none⟩ = false := frozen_of_row w1 w.heap.size 1 _ 55 hX1
    have c2 : w1.cell? ⟨w.heap.size, 2, none⟩ = some (.int .i64 0) := (cell_of_row w1 w.heap.size 2 _ 55 (0, 0) hX1).trans rfl
    have f2 : w1.frozen? ⟨w.heap.size, 2, none⟩ = false := frozen_of_row w1 w.heap.size 2 _ 55 hX1
    have c3 : w1.cell? ⟨w.heap.size, 3, none⟩ = some (.int .i64 0) := (cell_of_row w1 w.heap.size 3 _ 55 (0, 0) hX1).trans rfl
    have f3 : w1.frozen? ⟨w.heap.size, 3, none⟩ = false := frozen_of_row w1 w.heap.size 3 _ 55 hX1
    have c4 : w1.cell? ⟨w.heap.size, 4, none⟩ = some (.int .i64 0) := (cell_of_row w1 w.heap.size 4 _ 55 (0, 0) hX1).trans rfl
    have f4 : w1.frozen? ⟨w.heap.size, 4, none⟩ = false := frozen_of_row w1 w.heap.size 4 _ 55 hX1
    have R := HP.out _ _ (show RatSay h x y z w (.returned (.tuple #[.agg noVein, .bool false])) (set5 w1 w.heap.size (.int .i64 0) (.int .i64 0) (.int .i64 0) (.int .i64 0) (.int .i64 0)) from ⟨set5_below Hb1.out _ _ _ _ _, by rw [Hf.out]; rfl⟩)
    have HS5 : Hid ((set5 w1 w.heap.size (.int .i64 0) (.int .i64 0) (.int .i64 0) (.int .i64 0) (.int .i64 0)).heap[w.heap.size]? = some (.cells noVein 55 (0, 0))) := set5_row hX1 _ _ _ _ _
    clear HP Hh Hf hX1 HV q8 q16 q19 q22 q25 qo
    go_wp2
    exact bodyPost_ret (results_row_tmp (p := 8) (u := 9) (ty := 55) rfl _ _ w.heap.size 55 _ (0, 0) _ rfl HS5.out Try.underlying55 rfl (by kernel_rfl)) rfl R
  have Ht : Hid (vHas h = true) := Hh.out.trans (decide_eq_true hv)
  have HX1 : Hid (w1.heap[w.heap.size]? = some (.cells noVein 55 (0, 0))) := hX1
  have hgt : ¬ 40 ≤ v := by omega
  have hgt' : decide (40 ≤ v) = false := decide_eq_false hgt
  clear hX1 Hh hv hgt
  go_wp2_with fail
  refine (q8 _).mono ?_
  rintro _ w3 ⟨rfl, hb⟩
  have Hb3 : Hid (Below w.heap.size w w3) := Hb1.out.trans (hb.mono Hb1.out.size)
  have HX3 : Hid (w3.heap[w.heap.size]? = some (.cells noVein 55 (0, 0))) := (hb.block _ (Array.getElem?_eq_some_iff.1 HX1.out).1).trans HX1.out
  clear hb Hb1 HX1
  go_wp2_with fail
  refine (qo _).mono ?_
  rintro _ w4 ⟨rfl, hw⟩
  replace hw := hw.symm
  subst hw
  go_wp2_with fail
  refine (q16 _).mono ?_
  rintro _ w5 ⟨rfl, hb⟩
  have Hb5 : Hid (Below w.heap.size w w5) := Hb3.out.trans (hb.mono Hb3.out.size)
  have HX5 : Hid (w5.heap[w.heap.size]? = some (.cells noVein 55 (0, 0))) := (hb.block _ (Array.getElem?_eq_some_iff.1 HX3.out).1).trans HX3.out
  clear hb Hb3 HX3
  go_wp2_with fail
  refine (q19 _).mono ?_
  rintro _ w6 ⟨rfl, hb⟩
  have Hb6 : Hid (Below w.heap.size w w6) := Hb5.out.trans (hb.mono Hb5.out.size)
  have HX6 : Hid (w6.heap[w.heap.size]? = some (.cells noVein 55 (0, 0))) := (hb.block _ (Array.getElem?_eq_some_iff.1 HX5.out).1).trans HX5.out
  clear hb Hb5 HX5
  go_wp2_with fail
  refine (q22 _).mono ?_
  rintro _ w7 ⟨rfl, hb⟩
  have Hb7 : Hid (Below w.heap.size w w7) := Hb6.out.trans (hb.mono Hb6.out.size)
  have HX7 : Hid (w7.heap[w.heap.size]? = some (.cells noVein 55 (0, 0))) := (hb.block _ (Array.getElem?_eq_some_iff.1 HX6.out).1).trans HX6.out
  clear hb Hb6 HX6
  go_wp2_with fail
  refine (q25 _).mono ?_
  rintro _ w8 ⟨rfl, hb⟩
  have Hb8 : Hid (Below w.heap.size w w8) := Hb7.out.trans (hb.mono Hb7.out.size)
  have HX8 : Hid (w8.heap[w.heap.size]? = some (.cells noVein 55 (0, 0))) := (hb.block _ (Array.getElem?_eq_some_iff.1 HX7.out).1).trans HX7.out
  clear hb Hb7 HX7
  have c0 : w8.cell? ⟨w.heap.size, 0, none⟩ = some (.int .i64 0) := (cell_of_row w8 w.heap.size 0 _ 55 (0, 0) HX8.out).trans rfl
  have f0 : w8.frozen? ⟨w.heap.size, 0, none⟩ = false := frozen_of_row w8 w.heap.size 0 _ 55 HX8.out
  have c1 : w8.cell? ⟨w.heap.size, 1, none⟩ = some (.int .i64 0) := (cell_of_row w8 w.heap.size 1 _ 55 (0, 0) HX8.out).trans rfl
  have f1 : w8.frozen? ⟨w.heap.size, 1, none⟩ = false := frozen_of_row w8 w.heap.size 1 _ 55 HX8.out
  have c2 : w8.cell? ⟨w.heap.size, 2, none⟩ = some (.int .i64 0) := (cell_of_row w8 w.heap.size 2 _ 55 (0, 0) HX8.out).trans rfl
  have f2 : w8.frozen? ⟨w.heap.size, 2, none⟩ = false := frozen_of_row w8 w.heap.size 2 _ 55 HX8.out
  have c3 : w8.cell? ⟨w.heap.size, 3, none⟩ = some (.int .i64 0) := (cell_of_row w8 w.heap.size 3 _ 55 (0, 0) HX8.out).trans rfl
  have f3 : w8.frozen? ⟨w.heap.size, 3, none⟩ = false := frozen_of_row w8 w.heap.size 3 _ 55 HX8.out
  have c4 : w8.cell? ⟨w.heap.size, 4, none⟩ = some (.int .i64 0) := (cell_of_row w8 w.heap.size 4 _ 55 (0, 0) HX8.out).trans rfl
  have f4 : w8.frozen? ⟨w.heap.size, 4, none⟩ = false := frozen_of_row w8 w.heap.size 4 _ 55 HX8.out
  have R := HP.out _ _ (show RatSay h x y z w (.returned (.tuple #[.agg #[.int .i64 (vOre h), .int .i64 (x * 8 + (M1 : Int)), .int .i64 (y * 8 + (M2 : Int)), .int .i64 (z * 8 + (M3 : Int)), .int .i64 (1 + (M4 : Int))], .bool true])) (set5 w8 w.heap.size (.int .i64 (vOre h)) (.int .i64 (x * 8 + (M1 : Int))) (.int .i64 (y * 8 + (M2 : Int))) (.int .i64 (z * 8 + (M3 : Int))) (.int .i64 (1 + (M4 : Int)))) from ⟨set5_below Hb8.out _ _ _ _ _, by rw [Ht.out, if_pos rfl, HV.out]⟩)
  have HS5 : Hid ((set5 w8 w.heap.size (.int .i64 (vOre h)) (.int .i64 (x * 8 + (M1 : Int))) (.int .i64 (y * 8 + (M2 : Int))) (.int .i64 (z * 8 + (M3 : Int))) (.int .i64 (1 + (M4 : Int)))).heap[w.heap.size]? = some (.cells #[.int .i64 (vOre h), .int .i64 (x * 8 + (M1 : Int)), .int .i64 (y * 8 + (M2 : Int)), .int .i64 (z * 8 + (M3 : Int)), .int .i64 (1 + (M4 : Int))] 55 (0, 0))) := set5_row HX8.out _ _ _ _ _
  clear HP Ht HV HX8 Hb8 q8 q16 q19 q22 q25 qo
  generalize vOre h = OR at *
  go_wp2
  exact bodyPost_ret (results_row_tmp (p := 8) (u := 9) (ty := 55) rfl _ _ w.heap.size 55 _ (0, 0) _ rfl HS5.out Try.underlying55 rfl (by kernel_rfl)) rfl R
end Go.Proofs.Ytbcadklodjdokaa
