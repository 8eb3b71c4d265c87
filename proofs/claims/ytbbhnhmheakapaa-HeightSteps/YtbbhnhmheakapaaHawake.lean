/-
  Awake; HeightOf and HeightSteps, walked over any height package that keeps what is asked.
-/
import Derived.Test.YtbbhnhmheakapaaHmap
set_option maxRecDepth 20000
namespace Go.Proofs.Ytbbhnhmheakapaa
open N Go.RowKit

set_option maxHeartbeats 1000000 in
theorem awake_c (J : HSpec) (w : World) : Calls Try.prog 7 #[] w fun e w' => e = .returned (.bool true) ∧ Below w.heap.size w w' := by
  obtain ⟨Post, hPost⟩ : ∃ Post : Ending → World → Prop, Post = fun e w' => e = .returned (.bool true) ∧ Below w.heap.size w w' := ⟨_, rfl⟩
  rw [← hPost]
  have HP : Hid (∀ w', Below w.heap.size w w' → Post (.returned (.bool true)) w') := fun w' h => by rw [hPost]; exact ⟨rfl, h⟩
  clear hPost
  go_enter Try.func7, Try.ntmps7
  go_wp2_with fail
  refine (J.map_ 1 0 0 w (by omega) ⟨by omega, by omega⟩ ⟨by omega, by omega⟩).mono ?_
  rintro _ w1 ⟨hb1, a, c, a', c', rfl, ⟨b, off, rfl, hH⟩, _⟩
  have q0 := hH 0 (by rw [mapH_len]; omega)
  rw [mapH_at] at q0
  have e0 : hOf 1 (0 * 16 + ((0 : Nat) : Int) % 16) (0 * 16 + ((0 : Nat) : Int) / 16) = 62 := by
    have : hOf 1 (0 * 16 + ((0 : Nat) : Int) % 16) (0 * 16 + ((0 : Nat) : Int) / 16) = hOf 1 0 0 := rfl
    rw [this]
    exact wake0
  rw [e0] at q0
  simp only [Nat.add_zero] at q0
  have Hb1 : Hid (Below w.heap.size w w1) := hb1
  clear hH e0 hb1
  go_wp2_with fail
  clear q0
  go_loopw [3, 4, 5] (fun v3 v4 v5 wr => ∃ (i : Nat) (lo hi : Int), i ≤ 40 ∧ v3 = .int .i64 lo ∧ v4 = .int .i64 hi ∧ v5 = .int .i64 (i : Int) ∧ (lo ≤ 62 ∧ 62 ≤ hi ∧ (2 ≤ i → lo ≤ 58)) ∧ Hid (Below w.heap.size w wr)) (fun _ _ v5 _ => 40 - (intOf v5).toNat)
  case atStart => exact ⟨0, 62, 62, by omega, rfl, rfl, by go_num, by omega, Hb1⟩
  case round =>
    clear Hb1
    obtain ⟨i, lo, hi, hi40, rfl, rfl, rfl, ⟨h1, h2, h3⟩, HBe⟩ := hrel
    by_cases hlt : i < 40
    · have hlt' : (i : Int) < 40 := by omega
      have Hw : Hid (i = 1 → hOf 1 (50 * (i : Int)) 0 = 58) := fun e => by subst e; exact wake1
      have Hc : Hid (Calls Try.prog 8 #[.int .u64 1, .int .i64 (50 * (i : Int)), .int .i64 0] wr fun e w' => e = .returned (.int .i64 (hOf 1 (50 * (i : Int)) 0)) ∧ Below wr.heap.size wr w') := J.of_ 1 (50 * (i : Int)) 0 wr (by omega) ⟨by omega, by omega⟩ ⟨by omega, by omega⟩
      clear HP
      go_wp2_with fail
      refine Hc.out.mono ?_
      rintro _ w2 ⟨rfl, hb2⟩
      have Hb2 : Hid (Below w.heap.size w w2) := HBe.out.trans (hb2.mono HBe.out.size)
      clear hb2 HBe Hc
      generalize hOf 1 (50 * (i : Int)) 0 = V at *
      have hw := Hw.out
      by_cases d1 : V < lo
      · by_cases d2 : hi < V
        · omega
        · go_wp2
          go_roundw
          case rel => exact ⟨i + 1, V, hi, by omega, rfl, rfl, by go_num, ⟨by omega, by omega, by omega⟩, Hb2⟩
          case measure => simp [intOf]; omega
      · by_cases d2 : hi < V
        · go_wp2
          go_roundw
          case rel => exact ⟨i + 1, lo, V, by omega, rfl, rfl, by go_num, ⟨by omega, by omega, by omega⟩, Hb2⟩
          case measure => simp [intOf]; omega
        · go_wp2
          go_roundw
          case rel => exact ⟨i + 1, lo, hi, by omega, rfl, rfl, by go_num, ⟨by omega, by omega, by omega⟩, Hb2⟩
          case measure => simp [intOf]; omega
    · obtain rfl : i = 40 := by omega
      have h4 : lo < hi := by omega
      have R := HP.out wr HBe.out
      clear HP HBe
      go_wp2
      exact R
set_option maxHeartbeats 1000000 in
theorem heightOf_walk (J : HSpec) (s x z : Int) (w : World) (hs : 0 ≤ s ∧ s ≤ 18446744073709551615) (hx : I64 x) (hz : I64 z) :
    Calls Try.prog 3 #[.int .u64 s, .int .i64 x, .int .i64 z] w fun e w' => e = .returned (.bool true) ∧ Below w.heap.size w w' := by
  obtain ⟨S, rfl⟩ := Int.eq_ofNat_of_zero_le hs.1
  have hS : S < 18446744073709551616 := by omega
  clear hs
  obtain ⟨Post, hPost⟩ : ∃ Post : Ending → World → Prop, Post = fun e w' => e = .returned (.bool true) ∧ Below w.heap.size w w' := ⟨_, rfl⟩
  rw [← hPost]
  have HP : Hid (∀ w', Below w.heap.size w w' → Post (.returned (.bool true)) w') := fun w' h => by rw [hPost]; exact ⟨rfl, h⟩
  clear hPost
  go_enter Try.func3, Try.ntmps3
  go_wp2_with fail
  refine (awake_c J w).mono ?_
  rintro _ w1 ⟨rfl, hb1⟩
  have Hb1 : Hid (Below w.heap.size w w1) := hb1
  clear hb1
  go_wp2_with fail
  refine (J.of_ S x z w1 hS hx hz).mono ?_
  rintro _ w2 ⟨rfl, hb2⟩
  have Hb2 : Hid (Below w.heap.size w w2) := Hb1.out.trans (hb2.mono Hb1.out.size)
  clear hb2 Hb1
  go_wp2_with fail
  refine (J.band_ S x z w2 hS hx hz).mono ?_
  rintro _ w3 ⟨rfl, hb3⟩
  have Hb3 : Hid (Below w.heap.size w w3) := Hb2.out.trans (hb3.mono Hb2.out.size)
  clear hb3 Hb2
  go_wp2_with fail
  refine (rof_c S x z w3 hS hx hz).mono ?_
  rintro _ w4 ⟨rfl, hb4⟩
  have Hb4 : Hid (Below w.heap.size w w4) := Hb3.out.trans (hb4.mono Hb3.out.size)
  clear hb4 Hb3
  go_wp2_with fail
  refine (rband_c S x z w4 hS hx hz).mono ?_
  rintro _ w5 ⟨rfl, hb5⟩
  have R := HP.out w5 (Hb4.out.trans (hb5.mono Hb4.out.size))
  clear hb5 Hb4 HP
  obtain ⟨b1, b2⟩ := hOf_bd S x z
  obtain ⟨b3, b4⟩ := bandOf_bd S x z
  have b5 : bandOf S x z < 4 := by omega
  generalize hOf S x z = H at *
  generalize bandOf S x z = B at *
  go_wp2
  exact R
set_option maxHeartbeats 1000000 in
theorem heightSteps_walk (J : HSpec) (s x z : Int) (w : World) (hs : 0 ≤ s ∧ s ≤ 18446744073709551615) :
    Calls Try.prog 5 #[.int .u64 s, .int .i64 x, .int .i64 z] w fun e w' => e = .returned (.bool true) ∧ Below w.heap.size w w' := by
  obtain ⟨S, rfl⟩ := Int.eq_ofNat_of_zero_le hs.1
  have hS : S < 18446744073709551616 := by omega
  clear hs
  obtain ⟨Post, hPost⟩ : ∃ Post : Ending → World → Prop, Post = fun e w' => e = .returned (.bool true) ∧ Below w.heap.size w w' := ⟨_, rfl⟩
  rw [← hPost]
  have HP : Hid (∀ w', Below w.heap.size w w' → Post (.returned (.bool true)) w') := fun w' h => by rw [hPost]; exact ⟨rfl, h⟩
  clear hPost
  go_enter Try.func5, Try.ntmps5
  go_wp2_with fail
  refine (awake_c J w).mono ?_
  rintro _ w1 ⟨rfl, hb1⟩
  have R := HP.out w1 hb1
  have Hb1 : Hid (Below w.heap.size w w1) := hb1
  clear hb1
  by_cases c1 : x < -1099511627776
  · go_wp2
    exact R
  by_cases c2 : 1099511627776 < x
  · go_wp2
    exact R
  by_cases c3 : z < -1099511627776
  · go_wp2
    exact R
  by_cases c4 : 1099511627776 < z
  · go_wp2
    exact R
  clear R
  have HC : Hid (∀ dx dz : Int, 0 ≤ dx → dx ≤ 1 → 0 ≤ dz → dz ≤ 1 → ∀ w, Calls Try.prog 8 #[.int .u64 S, .int .i64 (x + dx), .int .i64 (z + dz)] w fun e w' => e = .returned (.int .i64 (hOf S (x + dx) (z + dz))) ∧ Below w.heap.size w w') := fun dx dz h1 h2 h3 h4 w => J.of_ S _ _ w hS ⟨by omega, by omega⟩ ⟨by omega, by omega⟩
  obtain ⟨⟨n1, n2⟩, n3, n4⟩ := hOf_near S x z
  obtain ⟨m1, m2⟩ := hOf_bd S x z
  obtain ⟨m3, m4⟩ := hOf_bd S (x + 1) z
  obtain ⟨m5, m6⟩ := hOf_bd S x (z + 1)
  have HA : Hid (∀ w, Calls Try.prog 8 #[.int .u64 S, .int .i64 x, .int .i64 z] w fun e w' => e = .returned (.int .i64 (hOf S x z)) ∧ Below w.heap.size w w') := fun w => by have := HC.out 0 0 (by omega) (by omega) (by omega) (by omega) w; rwa [Int.add_zero, Int.add_zero] at this
  have HB : Hid (∀ w, Calls Try.prog 8 #[.int .u64 S, .int .i64 (x + 1), .int .i64 z] w fun e w' => e = .returned (.int .i64 (hOf S (x + 1) z)) ∧ Below w.heap.size w w') := fun w => by have := HC.out 1 0 (by omega) (by omega) (by omega) (by omega) w; rwa [Int.add_zero] at this
  have HD : Hid (∀ w, Calls Try.prog 8 #[.int .u64 S, .int .i64 x, .int .i64 (z + 1)] w fun e w' => e = .returned (.int .i64 (hOf S x (z + 1))) ∧ Below w.heap.size w w') := fun w => by have := HC.out 0 1 (by omega) (by omega) (by omega) (by omega) w; rwa [Int.add_zero] at this
  clear HC
  generalize hOf S x z = A at *
  generalize hOf S (x + 1) z = B at *
  generalize hOf S x (z + 1) = D at *
  go_wp2_with fail
  refine (HA.out w1).mono ?_
  rintro _ w2 ⟨rfl, hb2⟩
  have Hb2 : Hid (Below w.heap.size w w2) := Hb1.out.trans (hb2.mono Hb1.out.size)
  clear hb2 Hb1
  go_wp2_with fail
  refine (HB.out w2).mono ?_
  rintro _ w3 ⟨rfl, hb3⟩
  have Hb3 : Hid (Below w.heap.size w w3) := Hb2.out.trans (hb3.mono Hb2.out.size)
  clear hb3 Hb2
  go_wp2_with fail
  refine (HD.out w3).mono ?_
  rintro _ w4 ⟨rfl, hb4⟩
  have R := HP.out w4 (Hb3.out.trans (hb4.mono Hb3.out.size))
  clear hb4 Hb3 HP
  go_wp2
  exact R
end Go.Proofs.Ytbbhnhmheakapaa
