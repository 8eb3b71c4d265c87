/-
  HeightMap, walked over any height package that keeps what is asked.
-/
import Derived.Test.YtbbhnhmheakapaaHawake
import Derived.Test.YtbbhnhmheakapaaHsince
set_option maxRecDepth 20000
namespace Go.Proofs.Ytbbhnhmheakapaa
open N Go.RowKit

set_option maxHeartbeats 2000000 in
theorem heightMap_walk (J : HSpec) (s x z : Int) (w : World) (hs : 0 ≤ s ∧ s ≤ 18446744073709551615) :
    Calls Try.prog 4 #[.int .u64 s, .agg #[.int .i64 x, .int .i64 z]] w fun e w' => e = .returned (.bool true) ∧ Below w.heap.size w w' := by
  obtain ⟨S, rfl⟩ := Int.eq_ofNat_of_zero_le hs.1
  have hS : S < 18446744073709551616 := by omega
  clear hs
  obtain ⟨Post, hPost⟩ : ∃ Post : Ending → World → Prop, Post = fun e w' => e = .returned (.bool true) ∧ Below w.heap.size w w' := ⟨_, rfl⟩
  rw [← hPost]
  have HP : Hid (∀ w', Below w.heap.size w w' → Post (.returned (.bool true)) w') := fun w' h => by rw [hPost]; exact ⟨rfl, h⟩
  clear hPost
  have Hb0 : Hid (Below w.heap.size w (w.alloc (.cells #[.int .i64 x, .int .i64 z] 27))) := (Below.refl _ _).alloc (Nat.le_refl _) _
  have HX0 : Hid ((w.alloc (.cells #[.int .i64 x, .int .i64 z] 27)).heap[w.heap.size]? = some (.cells #[.int .i64 x, .int .i64 z] 27 (0, 0))) := heap_alloc_new w (.cells #[.int .i64 x, .int .i64 z] 27)
  have hsz : (w.alloc (.cells #[.int .i64 x, .int .i64 z] 27)).heap.size = w.heap.size + 1 := by simp
  go_enter Try.func4, Try.ntmps4
  go_wp2_with fail
  generalize w.alloc (.cells #[.int .i64 x, .int .i64 z] 27) = w0 at *
  refine (awake_c J w0).mono ?_
  rintro _ w1 ⟨rfl, hb1⟩
  have Hb1 : Hid (Below w.heap.size w w1) := Hb0.out.trans (hb1.mono Hb0.out.size)
  have hs1 := hb1.size
  have HX1 : Hid (w1.heap[w.heap.size]? = some (.cells #[.int .i64 x, .int .i64 z] 27 (0, 0))) := (hb1.block _ (by omega)).trans HX0.out
  have y0 : w1.cell? ⟨w.heap.size, 0, none⟩ = some (.int .i64 x) := (cell_of_row w1 _ 0 _ 27 (0, 0) HX1.out).trans rfl
  have y1 : w1.cell? ⟨w.heap.size, 1, none⟩ = some (.int .i64 z) := (cell_of_row w1 _ 1 _ 27 (0, 0) HX1.out).trans rfl
  have R := HP.out w1 Hb1.out
  clear hb1 Hb0 HX0
  by_cases c1 : x < -1073741824
  · go_wp2
    exact R
  by_cases c2 : 1073741824 < x
  · go_wp2
    exact R
  by_cases c3 : z < -1073741824
  · go_wp2
    exact R
  by_cases c4 : 1073741824 < z
  · go_wp2
    exact R
  clear R
  go_wp2_with fail
  refine (J.map_ S x z w1 hS ⟨by omega, by omega⟩ ⟨by omega, by omega⟩).mono ?_
  rintro _ w2 ⟨hb2, ha, hc, ba, bc, rfl, hH, hB⟩
  have Hb2 : Hid (Below w.heap.size w w2) := Hb1.out.trans (hb2.mono Hb1.out.size)
  have hs2 := hb2.size
  have HX2 : Hid (w2.heap[w.heap.size]? = some (.cells #[.int .i64 x, .int .i64 z] 27 (0, 0))) := (hb2.block _ (by omega)).trans HX1.out
  clear hb2 Hb1 HX1 y0 y1
  have y0 : w2.cell? ⟨w.heap.size, 0, none⟩ = some (.int .i64 x) := (cell_of_row w2 _ 0 _ 27 (0, 0) HX2.out).trans rfl
  have y1 : w2.cell? ⟨w.heap.size, 1, none⟩ = some (.int .i64 z) := (cell_of_row w2 _ 1 _ 27 (0, 0) HX2.out).trans rfl
  have HH : Hid (ColsAt w2 ha (mapH S x z)) := hH
  have HB : Hid (ColsAt w2 ba (mapB S x z)) := hB
  clear hH hB
  go_wp2_with fail
  refine (rmap_c S x z w2 hS ⟨by omega, by omega⟩ ⟨by omega, by omega⟩).mono ?_
  rintro _ w3 ⟨hb3, xa, xc, ya, yc, rfl, hX, hY⟩
  have Hb3 : Hid (Below w.heap.size w w3) := Hb2.out.trans (hb3.mono Hb2.out.size)
  have hs3 := hb3.size
  have HX3 : Hid (w3.heap[w.heap.size]? = some (.cells #[.int .i64 x, .int .i64 z] 27 (0, 0))) := (hb3.block _ (by omega)).trans HX2.out
  have HH3 : Hid (ColsAt w3 ha (mapH S x z)) := HH.out.on hb3
  have HB3 : Hid (ColsAt w3 ba (mapB S x z)) := HB.out.on hb3
  have HX : Hid (ColsAt w3 xa (mapH S x z)) := hX
  have HY : Hid (ColsAt w3 ya (mapB S x z)) := hY
  clear hb3 Hb2 HX2 y0 y1 HH HB hX hY
  go_wp2_with fail
  go_loopw [10] (fun v wr => ∃ (i : Nat), i ≤ 256 ∧ v = .int .i64 (i : Int) ∧ Hid (Below w3.heap.size w3 wr)) (fun v _ => 256 - (intOf v).toNat)
  case atStart => exact ⟨0, by omega, by go_num, Below.refl _ _⟩
  case round =>
    obtain ⟨i, hi, rfl, HBe⟩ := hrel
    by_cases hlt : i < 256
    · have hlt' : (i : Int) < 256 := by omega
      obtain ⟨hb, ho, rfl, hh⟩ := HH3.out.on HBe.out
      obtain ⟨bb, bo, rfl, hbb⟩ := HB3.out.on HBe.out
      obtain ⟨xb, xo, rfl, hxx⟩ := HX.out.on HBe.out
      obtain ⟨yb, yo, rfl, hyy⟩ := HY.out.on HBe.out
      have q0 := hh i (by rw [mapH_len]; exact hlt)
      have q1 := hbb i (by rw [mapB_len]; exact hlt)
      have q2 := hxx i (by rw [mapH_len]; exact hlt)
      have q3 := hyy i (by rw [mapB_len]; exact hlt)
      rw [mapH_at] at q0 q2
      rw [mapB_at] at q1 q3
      have hX := (HBe.out.block w.heap.size (by omega)).trans HX3.out
      have y0 : wr.cell? ⟨w.heap.size, 0, none⟩ = some (.int .i64 x) := (cell_of_row wr _ 0 _ 27 (0, 0) hX).trans rfl
      have y1 : wr.cell? ⟨w.heap.size, 1, none⟩ = some (.int .i64 z) := (cell_of_row wr _ 1 _ 27 (0, 0) hX).trans rfl
      have HC : Hid (∀ w, Calls Try.prog 8 #[.int .u64 S, .int .i64 (x * 16 + (i : Int) % 16), .int .i64 (z * 16 + (i : Int) / 16)] w fun e w' => e = .returned (.int .i64 (hOf S (x * 16 + (i : Int) % 16) (z * 16 + (i : Int) / 16))) ∧ Below w.heap.size w w') := fun w => J.of_ S _ _ w hS ⟨by omega, by omega⟩ ⟨by omega, by omega⟩
      generalize hOf S (x * 16 + (i : Int) % 16) (z * 16 + (i : Int) / 16) = V at *
      generalize bandOf S (x * 16 + (i : Int) % 16) (z * 16 + (i : Int) / 16) = U at *
      have hsome := since_some wr
      have t0 := fun s : Since wr => Since.cell q0 s
      have t1 := fun s : Since wr => Since.cell q1 s
      have t2 := fun s : Since wr => Since.cell q2 s
      have t3 := fun s : Since wr => Since.cell q3 s
      have t4 := fun s : Since wr => Since.cell y0 s
      have t5 := fun s : Since wr => Since.cell y1 s
      clear hh hbb hxx hyy hX HP
      go_wp2_with fail
      refine wp_region_since (by kernel_rfl) (by kernel_rfl) ?_
      repeat (go_big_quiet_step (first
        | (go_at_call 8; exact Calls.since (HC.out _))))
      refine wpQuiet_nil ?_
      rintro _ ⟨sa, rfl⟩
      have HB5 : Hid (Below w3.heap.size w3 sa.w) := HBe.out.trans (sa.bel.mono HBe.out.size)
      go_wp2
      go_roundw
      case rel => exact ⟨i + 1, by omega, by go_num, HB5⟩
      case measure => simp [intOf]; omega
    · obtain rfl : i = 256 := by omega
      have R := HP.out wr (Hb3.out.trans (HBe.out.mono Hb3.out.size))
      clear HP HBe
      go_wp2
      exact R
end Go.Proofs.Ytbbhnhmheakapaa
