/-
  HeightMeets, walked over any height package that keeps what is asked.
-/
import Derived.Test.YtbbhnhmheakapaaHawake
import Derived.Test.YtbbhnhmheakapaaHsince
set_option maxRecDepth 20000
namespace Go.Proofs.Ytbbhnhmheakapaa
open N Go.RowKit

set_option maxHeartbeats 2000000 in
theorem heightMeets_walk (J : HSpec) (s x z : Int) (w : World) (hs : 0 ≤ s ∧ s ≤ 18446744073709551615) :
    Calls Try.prog 6 #[.int .u64 s, .agg #[.int .i64 x, .int .i64 z]] w fun e w' => e = .returned (.bool true) ∧ Below w.heap.size w w' := by
  obtain ⟨S, rfl⟩ := Int.eq_ofNat_of_zero_le hs.1
  have hS : S < 18446744073709551616 := by omega
  clear hs
  obtain ⟨Post, hPost⟩ : ∃ Post : Ending → World → Prop, Post = fun e w' => e = .returned (.bool true) ∧ Below w.heap.size w w' := ⟨_, rfl⟩
  rw [← hPost]
  have HP : Hid (∀ w', Below w.heap.size w w' → Post (.returned (.bool true)) w') := fun w' h => by rw [hPost]; exact ⟨rfl, h⟩
  clear hPost
  have Hb0 : Hid (Below w.heap.size w (w.alloc (.cells #[.int .i64 x, .int .i64 z] 27))) := (Below.refl _ _).alloc (Nat.le_refl _) _
  have HX0 : Hid ((w.alloc (.cells #[.int .i64 x, .int .i64 z] 27)).heap[w.heap.size]? = some (.cells #[.int .i64 x, .int .i64 z] 27 (0, 0))) := heap_alloc_new w (.cells #[.int .i64 x, .int .i64 z] 27)
  have hsz : (w.alloc (.cells #[.int .i64 x, .int .i64 z] 27)).heap.size = w.heap.size + 1 := by simp
  go_enter Try.func6, Try.ntmps6
  go_wp2_with fail
  generalize w.alloc (.cells #[.int .i64 x, .int .i64 z] 27) = w0 at *
  refine (awake_c J w0).mono ?_
  rintro _ w1 ⟨rfl, hb1⟩
  have Hb1 : Hid (Below w.heap.size w w1) := Hb0.out.trans (hb1.mono Hb0.out.size)
  have hs1 := hb1.size
  have HX1 : Hid (w1.heap[w.heap.size]? = some (.cells #[.int .i64 x, .int .i64 z] 27 (0, 0))) := (hb1.block _ (by omega)).trans HX0.out
  have y0 : w1.cell? ⟨w.heap.size, 0, none⟩ = some (.int .i64 x) := (cell_of_row w1 _ 0 _ 27 (0, 0) HX1.out).trans rfl
  have y1 : w1.cell? ⟨w.heap.size, 1, none⟩ = some (.int .i64 z) := (cell_of_row w1 _ 1 _ 27 (0, 0) HX1.out).trans rfl
  have R := HP.out w1 Hb1.out
  clear hb1 Hb0 HX0
  by_cases c1 : x < -1073741824
  · go_wp2
    exact R
  by_cases c2 : 1073741824 < x
  · go_wp2
    exact R
  by_cases c3 : z < -1073741824
  · go_wp2
    exact R
  by_cases c4 : 1073741824 < z
  · go_wp2
    exact R
  clear R
  go_wp2_with fail
  refine (J.map_ S x z w1 hS ⟨by omega, by omega⟩ ⟨by omega, by omega⟩).mono ?_
  rintro _ w2 ⟨hb, aa, ac, aa', ac', rfl, hH, _⟩
  have Hb2 : Hid (Below w.heap.size w w2) := Hb1.out.trans (hb.mono Hb1.out.size)
  have hs2 := hb.size
  have HX2 : Hid (w2.heap[w.heap.size]? = some (.cells #[.int .i64 x, .int .i64 z] 27 (0, 0))) := (hb.block _ (by omega)).trans HX1.out
  clear Hb1 HX1 y0 y1
  have y0 : w2.cell? ⟨w.heap.size, 0, none⟩ = some (.int .i64 x) := (cell_of_row w2 _ 0 _ 27 (0, 0) HX2.out).trans rfl
  have y1 : w2.cell? ⟨w.heap.size, 1, none⟩ = some (.int .i64 z) := (cell_of_row w2 _ 1 _ 27 (0, 0) HX2.out).trans rfl
  have Ha : Hid (ColsAt w2 aa (mapH S x z)) := hH
  clear hb hH
  go_wp2_with fail
  refine (J.map_ S (x + 1) z w2 hS ⟨by omega, by omega⟩ ⟨by omega, by omega⟩).mono ?_
  rintro _ w3 ⟨hb, ba, bc, ba', bc', rfl, hH, _⟩
  have Hb3 : Hid (Below w.heap.size w w3) := Hb2.out.trans (hb.mono Hb2.out.size)
  have hs3 := hb.size
  have HX3 : Hid (w3.heap[w.heap.size]? = some (.cells #[.int .i64 x, .int .i64 z] 27 (0, 0))) := (hb.block _ (by omega)).trans HX2.out
  clear Hb2 HX2 y0 y1
  have y0 : w3.cell? ⟨w.heap.size, 0, none⟩ = some (.int .i64 x) := (cell_of_row w3 _ 0 _ 27 (0, 0) HX3.out).trans rfl
  have y1 : w3.cell? ⟨w.heap.size, 1, none⟩ = some (.int .i64 z) := (cell_of_row w3 _ 1 _ 27 (0, 0) HX3.out).trans rfl
  have Hb : Hid (ColsAt w3 ba (mapH S (x + 1) z)) := hH
  have Ha3 := Ha.out.on hb
  clear Ha hH hb
  have Ha : Hid (ColsAt w3 aa (mapH S x z)) := Ha3
  clear Ha3
  go_wp2_with fail
  refine (J.map_ S x (z + 1) w3 hS ⟨by omega, by omega⟩ ⟨by omega, by omega⟩).mono ?_
  rintro _ w4 ⟨hb, da, dc, da', dc', rfl, hH, _⟩
  have Hb4 : Hid (Below w.heap.size w w4) := Hb3.out.trans (hb.mono Hb3.out.size)
  have hs4 := hb.size
  have HX4 : Hid (w4.heap[w.heap.size]? = some (.cells #[.int .i64 x, .int .i64 z] 27 (0, 0))) := (hb.block _ (by omega)).trans HX3.out
  clear Hb3 HX3 y0 y1
  have y0 : w4.cell? ⟨w.heap.size, 0, none⟩ = some (.int .i64 x) := (cell_of_row w4 _ 0 _ 27 (0, 0) HX4.out).trans rfl
  have y1 : w4.cell? ⟨w.heap.size, 1, none⟩ = some (.int .i64 z) := (cell_of_row w4 _ 1 _ 27 (0, 0) HX4.out).trans rfl
  have Hd : Hid (ColsAt w4 da (mapH S x (z + 1))) := hH
  have Ha4 := Ha.out.on hb
  have Hb4' := Hb.out.on hb
  clear Ha Hb hH hb
  have Ha : Hid (ColsAt w4 aa (mapH S x z)) := Ha4
  have Hb : Hid (ColsAt w4 ba (mapH S (x + 1) z)) := Hb4'
  clear Ha4 Hb4'
  clear y0 y1
  go_wp2_with fail
  go_loopw [12] (fun v wr => ∃ (i : Nat), i ≤ 16 ∧ v = .int .i64 (i : Int) ∧ Hid (Below w4.heap.size w4 wr)) (fun v _ => 16 - (intOf v).toNat)
  case atStart => exact ⟨0, by omega, by go_num, Below.refl _ _⟩
  case round =>
    obtain ⟨i, hi, rfl, HBe⟩ := hrel
    by_cases hlt : i < 16
    · have hlt' : (i : Int) < 16 := by omega
      obtain ⟨ab, ao, rfl, haa⟩ := Ha.out.on HBe.out
      obtain ⟨bb, bo, rfl, hbb⟩ := Hb.out.on HBe.out
      obtain ⟨db, do_, rfl, hdd⟩ := Hd.out.on HBe.out
      have q0 := haa (i * 16 + 15) (by rw [mapH_len]; omega)
      have q1 := hbb (i * 16) (by rw [mapH_len]; omega)
      have q2 := haa (240 + i) (by rw [mapH_len]; omega)
      have q3 := hdd i (by rw [mapH_len]; omega)
      rw [mapH_at] at q0 q1 q2 q3
      have e0 : x * 16 + ((i * 16 + 15 : Nat) : Int) % 16 = x * 16 + 15 := by omega
      have e1 : z * 16 + ((i * 16 + 15 : Nat) : Int) / 16 = z * 16 + (i : Int) := by omega
      have e2 : (x + 1) * 16 + ((i * 16 : Nat) : Int) % 16 = x * 16 + 15 + 1 := by omega
      have e3 : z * 16 + ((i * 16 : Nat) : Int) / 16 = z * 16 + (i : Int) := by omega
      have e4 : x * 16 + ((240 + i : Nat) : Int) % 16 = x * 16 + (i : Int) := by omega
      have e5 : z * 16 + ((240 + i : Nat) : Int) / 16 = z * 16 + 15 := by omega
      have e6 : x * 16 + (i : Int) % 16 = x * 16 + (i : Int) := by omega
      have e7 : (z + 1) * 16 + (i : Int) / 16 = z * 16 + 15 + 1 := by omega
      rw [e0, e1] at q0
      rw [e2, e3] at q1
      rw [e4, e5] at q2
      rw [e6, e7] at q3
      have n1 := (hOf_near S (x * 16 + 15) (z * 16 + (i : Int))).1
      have n2 := (hOf_near S (x * 16 + (i : Int)) (z * 16 + 15)).2
      have m1 := hOf_bd S (x * 16 + 15) (z * 16 + (i : Int))
      have m2 := hOf_bd S (x * 16 + 15 + 1) (z * 16 + (i : Int))
      have m3 := hOf_bd S (x * 16 + (i : Int)) (z * 16 + 15)
      have m4 := hOf_bd S (x * 16 + (i : Int)) (z * 16 + 15 + 1)
      clear e0 e1 e2 e3 e4 e5 e6 e7
      generalize hOf S (x * 16 + 15) (z * 16 + (i : Int)) = A at *
      generalize hOf S (x * 16 + 15 + 1) (z * 16 + (i : Int)) = B at *
      generalize hOf S (x * 16 + (i : Int)) (z * 16 + 15) = C at *
      generalize hOf S (x * 16 + (i : Int)) (z * 16 + 15 + 1) = D at *
      have g1 : ¬ 5 < A - B := by omega
      have g2 : ¬ A - B < -5 := by omega
      have g3 : ¬ 5 < C - D := by omega
      have g4 : ¬ C - D < -5 := by omega
      clear haa hbb hdd HP n1 n2
      go_wp2_with fail
      go_big_quiet (fail)
      obtain ⟨N1, hN1⟩ : ∃ N1, N1 = nq := ⟨_, rfl⟩
      go_wp2_with fail
      have q2' : (wr.drewN nq).cell? ⟨ab, ao + (240 + i), none⟩ = some (.int .i64 C) := q2
      have q3' : (wr.drewN nq).cell? ⟨db, do_ + i, none⟩ = some (.int .i64 D) := q3
      have HB6 : Hid (Below w4.heap.size w4 (wr.drewN nq)) := below_drewN HBe.out nq
      generalize wr.drewN nq = w5 at *
      clear q0 q1 q2 q3 HBe hN1
      go_big_quiet (fail)
      have HB7 : Hid (Below w4.heap.size w4 (w5.drewN nq)) := below_drewN HB6.out nq
      clear q2' q3' HB6
      generalize A - B = P at *
      generalize C - D = Q at *
      clear m1 m2 m3 m4
      have d1 : decide (5 < P) = false := decide_eq_false (by omega)
      have d2 : decide (P < -5) = false := decide_eq_false (by omega)
      have d3 : decide (5 < Q) = false := decide_eq_false (by omega)
      have d4 : decide (Q < -5) = false := decide_eq_false (by omega)
      clear g1 g2 g3 g4
      go_wp2
      go_roundw
      case rel => exact ⟨i + 1, by omega, by go_num, HB7⟩
      case measure => simp [intOf]; omega
    · obtain rfl : i = 16 := by omega
      have R := HP.out wr (Hb4.out.trans (HBe.out.mono Hb4.out.size))
      clear HP HBe
      go_wp2
      exact R
end Go.Proofs.Ytbbhnhmheakapaa
