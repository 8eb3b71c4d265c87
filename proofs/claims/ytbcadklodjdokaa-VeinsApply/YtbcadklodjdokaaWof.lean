/-
  The document's Of.
-/
import Derived.Test.YtbcadklodjdokaaWaway
set_option maxRecDepth 20000
namespace Go.Proofs.Ytbcadklodjdokaa
open C Go.RowKit

set_option maxHeartbeats 1000000 in
theorem rof_c (S : Nat) (x y z : Int) (w : World) (hS : S < 18446744073709551616) (hx : Far 1099511627776 x) (hy : Far 1099511627776 y) (hz : Far 1099511627776 z) :
    Calls Try.prog 10 #[.int .u64 S, .agg #[.int .i64 x, .int .i64 y, .int .i64 z]] w fun e w' => e = .returned (.int .i64 (ofN S x y z)) ∧ Below w.heap.size w w' := by
  obtain ⟨Post, hPost⟩ : ∃ Post : Ending → World → Prop, Post = fun e w' => e = .returned (.int .i64 (ofN S x y z)) ∧ Below w.heap.size w w' := ⟨_, rfl⟩
  rw [← hPost]
  have HP : Hid (∀ v w', ofN S x y z = v → Below w.heap.size w w' → Post (.returned (.int .i64 v)) w') := fun v w' h1 h2 => by rw [hPost, h1]; exact ⟨rfl, h2⟩
  clear hPost
  obtain ⟨x0, x1⟩ := hx
  obtain ⟨y0, y1⟩ := hy
  obtain ⟨z0, z1⟩ := hz
  have dx := fun w => N.rdiv_hi x 8 w (by decide) (by decide) (by omega) (by omega)
  have dy := fun w => N.rdiv_hi y 8 w (by decide) (by decide) (by omega) (by omega)
  have dz := fun w => N.rdiv_hi z 8 w (by decide) (by decide) (by omega) (by omega)
  have HC : Hid (∀ i, c27 S x y z i = covN S (x / 8 + (i : Int) % 3 - 1) (y / 8 + (i : Int) / 9 - 1) (z / 8 + (i : Int) / 3 % 3 - 1) x y z) := fun i => rfl
  have HV : Hid (∀ i, o27 S x y z i = oreN S (x / 8 + (i : Int) % 3 - 1) (y / 8 + (i : Int) / 9 - 1) (z / 8 + (i : Int) / 3 % 3 - 1)) := fun i => rfl
  have X0 : -137438953472 ≤ x / 8 ∧ x / 8 ≤ 137438953472 := by omega
  have Y0 : -137438953472 ≤ y / 8 ∧ y / 8 ≤ 137438953472 := by omega
  have Z0 : -137438953472 ≤ z / 8 ∧ z / 8 ≤ 137438953472 := by omega
  generalize x / 8 = X at *
  generalize y / 8 = Y at *
  generalize z / 8 = Z at *
  obtain ⟨X0, X1⟩ := X0
  obtain ⟨Y0, Y1⟩ := Y0
  obtain ⟨Z0, Z1⟩ := Z0
  have HB : Hid (Below w.heap.size w (w.alloc (.cells #[.int .i64 x, .int .i64 y, .int .i64 z] 24))) := (Below.refl _ _).alloc (Nat.le_refl _) _
  have HX : Hid ((w.alloc (.cells #[.int .i64 x, .int .i64 y, .int .i64 z] 24)).heap[w.heap.size]? = some (.cells #[.int .i64 x, .int .i64 y, .int .i64 z] 24 (0, 0))) := heap_alloc_new w _
  go_enter Try.func10, Try.ntmps10
  go_wp2_with fail
  refine (dx _).mono ?_
  clear dx
  rintro _ w1 ⟨rfl, hw⟩
  subst hw
  go_wp2_with fail
  refine (dy _).mono ?_
  clear dy
  rintro _ w1 ⟨rfl, hw⟩
  subst hw
  go_wp2_with fail
  refine (dz _).mono ?_
  clear dz
  rintro _ w1 ⟨rfl, hw⟩
  subst hw
  go_wp2
  generalize w.alloc (.cells #[.int .i64 x, .int .i64 y, .int .i64 z] 24) = W0 at *
  go_loopw [8] (fun vi wr => ∃ (I : Nat), I ≤ 27 ∧ vi = .int .i64 (I : Int) ∧ Hid (∀ j, j < I → c27 S x y z j = false) ∧ Hid (wr.heap[w.heap.size]? = some (.cells #[.int .i64 x, .int .i64 y, .int .i64 z] 24 (0, 0))) ∧ Hid (Below w.heap.size w wr)) (fun vi _ => 27 - (intOf vi).toNat)
  case atStart => exact ⟨0, by omega, rfl, fun j hj => by omega, HX, HB⟩
  case round =>
    clear HX HB
    obtain ⟨I, hI, rfl, HF, HX, HB⟩ := hrel
    by_cases hlt : I < 27
    case neg =>
      have hge : ¬ (I : Int) < 27 := by omega
      have R := HP.out 0 wr (ofN_none fun j hj => HF.out j (by omega)) HB.out
      clear HP HF HX HC HV
      go_wp2
      exact R
    have hlt' : (I : Int) < 27 := by omega
    obtain ⟨A, hA⟩ : ∃ A : Int, X + (I : Int) % 3 - 1 = A := ⟨_, rfl⟩
    obtain ⟨B, hB⟩ : ∃ B : Int, Y + (I : Int) / 9 - 1 = B := ⟨_, rfl⟩
    obtain ⟨D, hD⟩ : ∃ D : Int, Z + (I : Int) / 3 % 3 - 1 = D := ⟨_, rfl⟩
    have hat := fun w => rat_c S A B D w hS (by unfold Far; omega) (by unfold Far; omega) (by unfold Far; omega)
    have HCI : Hid (c27 S x y z I = covH (R.hashN S 30 A B D) A B D x y z) := by have := HC.out I; rw [hA, hB, hD] at this; exact this
    have HVI : Hid (o27 S x y z I = vOre (R.hashN S 30 A B D)) := by have := HV.out I; rw [hA, hB, hD] at this; exact this
    have bA : Far 1125899906842624 (8 * A + 7) ∧ Far 1125899906842624 (8 * A) := by unfold Far; omega
    have bB : Far 1125899906842624 (8 * B + 7) ∧ Far 1125899906842624 (8 * B) := by unfold Far; omega
    have bD : Far 1125899906842624 (8 * D + 7) ∧ Far 1125899906842624 (8 * D) := by unfold Far; omega
    generalize R.hashN S 30 A B D = h at *
    have hfa : Far 1125899906842624 (vX h A) := by have := vX_bd h A; unfold Far at *; omega
    have hfb : Far 1125899906842624 (vY h B) := by have := vY_bd h B; unfold Far at *; omega
    have hfd : Far 1125899906842624 (vZ h D) := by have := vZ_bd h D; unfold Far at *; omega
    have haw := fun w => raway_c (vX h A) (vY h B) (vZ h D) x y z w hfa hfb hfd (by unfold Far; omega) (by unfold Far; omega) (by unfold Far; omega)
    have Haw : Hid (∀ w, Calls Try.prog 26 #[.agg #[.int .i64 (vX h A), .int .i64 (vY h B), .int .i64 (vZ h D)], .agg #[.int .i64 x, .int .i64 y, .int .i64 z]] w fun e w' => e = .returned (.int .i64 (awayN (vX h A) (vY h B) (vZ h D) x y z)) ∧ Below w.heap.size w w') := haw
    clear bA bB bD hfa hfb hfd haw HC HV
    go_wp2_with fail
    refine (hat _).mono ?_
    clear hat hA hB hD
    rintro _ w2 hsay
    obtain ⟨hb2, rfl⟩ := hsay
    have HB2 : Hid (Below w.heap.size w w2) := HB.out.trans (hb2.mono HB.out.size)
    have HX2 : Hid (w2.heap[w.heap.size]? = some (.cells #[.int .i64 x, .int .i64 y, .int .i64 z] 24 (0, 0))) := (hb2.block _ (Array.getElem?_eq_some_iff.1 HX.out).1).trans HX.out
    clear hb2 HB HX
    by_cases hv : vHas h = true
    case neg =>
      have hv' : vHas h = false := by simpa using hv
      have HF2 : Hid (∀ j, j < I + 1 → c27 S x y z j = false) := fun j hj => by
        by_cases e : j = I
        · rw [e, HCI.out]; unfold covH; rw [hv']; rfl
        · exact HF.out j (by omega)
      have HB3 : Hid (Below w.heap.size w (w2.alloc (.cells noVein 58))) := HB2.out.alloc HB2.out.size _
      have HX3 : Hid ((w2.alloc (.cells noVein 58)).heap[w.heap.size]? = some (.cells #[.int .i64 x, .int .i64 y, .int .i64 z] 24 (0, 0))) := (heap_alloc_old w2 _ (Array.getElem?_eq_some_iff.1 HX2.out).1).trans HX2.out
      rw [hv', if_neg (by decide)]
      unfold noVein at HB3 HX3 ⊢
      clear HF HCI HVI Haw HB2 HX2 hv hv' HP
      go_wp2_with fail
      generalize w2.alloc _ = W at *
      refine wp_region_since (by kernel_rfl) (by kernel_rfl) ?_
      have hsome := since_some W
      repeat (go_big_quiet_step (fail))
      refine wpQuiet_nil ?_
      rintro _ ⟨s, rfl⟩
      have HB4 : Hid (Below w.heap.size w s.w) := HB3.out.trans (s.bel.mono HB3.out.size)
      have HX4 : Hid (s.w.heap[w.heap.size]? = some (.cells #[.int .i64 x, .int .i64 y, .int .i64 z] 24 (0, 0))) := (s.bel.block _ (Array.getElem?_eq_some_iff.1 HX3.out).1).trans HX3.out
      generalize s.w = W4 at *
      clear HB3 HX3 hsome
      go_wp2
      exact ⟨⟨I + 1, by omega, by simp, HF2, HX4, HB4⟩, by simp [intOf]; omega⟩
    rw [hv, if_pos rfl]
    have HB3 : Hid (Below w.heap.size w (w2.alloc (.cells (vein h A B D) 58))) := HB2.out.alloc HB2.out.size _
    have HX3 : Hid ((w2.alloc (.cells (vein h A B D) 58)).heap[w.heap.size]? = some (.cells #[.int .i64 x, .int .i64 y, .int .i64 z] 24 (0, 0))) := (heap_alloc_old w2 _ (Array.getElem?_eq_some_iff.1 HX2.out).1).trans HX2.out
    have HV3 : Hid ((w2.alloc (.cells (vein h A B D) 58)).heap[w2.heap.size]? = some (.cells (vein h A B D) 58 (0, 0))) := heap_alloc_new w2 _
    have HCv : Hid (c27 S x y z I = decide (awayN (vX h A) (vY h B) (vZ h D) x y z ≤ vReach h)) := by have := HCI.out; unfold covH at this; rw [hv] at this; exact this
    unfold vein at HB3 HX3 HV3 ⊢
    generalize vX h A = mx at *
    generalize vY h B = my at *
    generalize vZ h D = mz at *
    generalize vReach h = mr at *
    generalize vOre h = mo at *
    generalize awayN mx my mz x y z = aw at *
    clear HCI HB2 HX2 hv
    go_wp2_with fail
    generalize w2.alloc _ = W at *
    generalize w2.heap.size = vb at *
    have hsome := since_some W
    have k0 := fun s : Since W => Since.cell ((cell_of_row W w.heap.size 0 _ 24 (0, 0) HX3.out).trans rfl) s
    have k1 := fun s : Since W => Since.cell ((cell_of_row W w.heap.size 1 _ 24 (0, 0) HX3.out).trans rfl) s
    have k2 := fun s : Since W => Since.cell ((cell_of_row W w.heap.size 2 _ 24 (0, 0) HX3.out).trans rfl) s
    have v1 := fun s : Since W => Since.cell ((cell_of_row W vb 1 _ 58 (0, 0) HV3.out).trans rfl) s
    have v2 := fun s : Since W => Since.cell ((cell_of_row W vb 2 _ 58 (0, 0) HV3.out).trans rfl) s
    have v3 := fun s : Since W => Since.cell ((cell_of_row W vb 3 _ 58 (0, 0) HV3.out).trans rfl) s
    have v4 := fun s : Since W => Since.cell ((cell_of_row W vb 4 _ 58 (0, 0) HV3.out).trans rfl) s
    refine wp_region_since (by kernel_rfl) (by kernel_rfl) ?_
    repeat (go_big_quiet_step (first | (go_at_call 26; exact Calls.since (Haw.out _))))
    refine wpQuiet_nil ?_
    rintro _ ⟨s, rfl⟩
    have HB4 : Hid (Below w.heap.size w s.w) := HB3.out.trans (s.bel.mono HB3.out.size)
    have HX4 : Hid (s.w.heap[w.heap.size]? = some (.cells #[.int .i64 x, .int .i64 y, .int .i64 z] 24 (0, 0))) := (s.bel.block _ (Array.getElem?_eq_some_iff.1 HX3.out).1).trans HX3.out
    have vo : s.w.cell? ⟨vb, 0, none⟩ = some (.int .i64 mo) := Since.cell ((cell_of_row W vb 0 _ 58 (0, 0) HV3.out).trans rfl) s
    generalize s.w = W4 at *
    clear HB3 HX3 hsome k0 k1 k2 v1 v2 v3 v4 HV3
    by_cases hr : aw ≤ mr
    · have R := HP.out mo W4 (by rw [ofN_first hlt (HCv.out.trans (decide_eq_true hr)) HF.out]; exact HVI.out) HB4.out
      clear HP HF HX4 HB4 HCv HVI
      go_wp2
      exact R
    · have HF2 : Hid (∀ j, j < I + 1 → c27 S x y z j = false) := fun j hj => by
        by_cases e : j = I
        · rw [e, HCv.out]; exact decide_eq_false hr
        · exact HF.out j (by omega)
      clear HP HF HCv HVI vo
      go_wp2
      exact ⟨⟨I + 1, by omega, by simp, HF2, HX4, HB4⟩, by simp [intOf]; omega⟩
end Go.Proofs.Ytbcadklodjdokaa