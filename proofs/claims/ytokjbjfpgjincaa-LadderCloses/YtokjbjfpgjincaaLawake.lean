/-
  The chapter's examples; the document's World.
-/
import Derived.Test.YtokjbjfpgjincaaLsame
set_option maxRecDepth 20000
namespace Go.Proofs.Ytokjbjfpgjincaa
open Go.RowKit

theorem world_r5 : radL worldLad 5 = [2, 2, 1, 1, 1, 0] := by decide
theorem world_r2 : radL worldLad 2 = [1, 1, 0, -1, -1, -1] := by decide
theorem world_c2 : capS (radL worldLad 2) = 19 := by rw [world_r2]; decide
theorem world_c5 : capS (radL worldLad 5) = 78 := by rw [world_r5]; decide
theorem ints_new (w : World) (xs : List Int) : IntsAt (w.alloc (.cells (ivals xs) 3)) (some ⟨w.heap.size, 0, none⟩) xs := IRow.ints (heap_alloc_new w _)
set_option maxHeartbeats 1000000 in
theorem awake_c (J : LSpec) (w : World) : Calls Try.prog 9 #[] w fun e w' => e = .returned (.bool true) ∧ Below w.heap.size w w' := by
  obtain ⟨Post, hPost⟩ : ∃ Post : Ending → World → Prop, Post = fun e w' => e = .returned (.bool true) ∧ Below w.heap.size w w' := ⟨_, rfl⟩
  rw [← hPost]
  have HP : Hid (∀ w', Below w.heap.size w w' → Post (.returned (.bool true)) w') := fun w' h => by rw [hPost]; exact ⟨rfl, h⟩
  clear hPost
  go_enter Try.func9, Try.ntmps9
  go_wp2_with fail
  refine (J.world_ w).mono ?_
  rintro _ w1 ⟨hb1, a1, c1, L1, rfl, hR1, hL1⟩
  have hl1 : L1.length = 6 := by rw [← lad_len, hL1]; rfl
  go_wp2_with fail
  refine (J.radii_ a1 6 c1 L1 5 w1 hR1 hl1 (by unfold maxLen; omega) ⟨by omega, by omega⟩).mono ?_
  rw [hL1, world_r5]
  rintro _ w2 ⟨hb2, a2, c2, rfl, hI2, _⟩
  have hbA : Below w.heap.size w w2 := hb1.trans (hb2.mono hb1.size)
  have hI3 := hI2.on ((Below.refl _ _).alloc (Nat.le_refl _) (.cells (ivals [2, 2, 1, 1, 1, 0]) 3))
  have hN3 := ints_new w2 [2, 2, 1, 1, 1, 0]
  have hbB : Below w.heap.size w (w2.alloc (.cells (ivals [2, 2, 1, 1, 1, 0]) 3)) := hbA.alloc hbA.size _
  clear hb1 hb2 hbA hI2 hR1 hL1 hl1
  have HI3 : Hid _ := hI3
  have HN3 : Hid _ := hN3
  have HbB : Hid _ := hbB
  clear hI3 hN3 hbB
  go_wp2_with fail
  refine (numbers_c a2 (some ⟨w2.heap.size, 0, none⟩) 6 c2 6 [2, 2, 1, 1, 1, 0] _ HI3.out HN3.out rfl (by omega)).mono ?_
  rintro _ w3 ⟨rfl, hb3⟩
  have Hb3 : Hid (Below w.heap.size w w3) := HbB.out.trans (hb3.mono HbB.out.size)
  clear HI3 HN3 HbB hb3
  go_wp2_with fail
  refine (J.world_ w3).mono ?_
  rintro _ w4 ⟨hb4, a4, c4, L4, rfl, hR4, hL4⟩
  have hl4 : L4.length = 6 := by rw [← lad_len, hL4]; rfl
  have Hb4 : Hid (Below w.heap.size w w4) := Hb3.out.trans (hb4.mono Hb3.out.size)
  clear Hb3 hb4
  go_wp2_with fail
  refine (J.radii_ a4 6 c4 L4 2 w4 hR4 hl4 (by unfold maxLen; omega) ⟨by omega, by omega⟩).mono ?_
  rw [hL4, world_r2]
  rintro _ w5 ⟨hb5, a5, c5, rfl, hI5, _⟩
  have hbA : Below w.heap.size w w5 := Hb4.out.trans (hb5.mono Hb4.out.size)
  have HI3 : Hid _ := hI5.on ((Below.refl _ _).alloc (Nat.le_refl _) (.cells (ivals [1, 1, 0, -1, -1, -1]) 3))
  have HN3 : Hid _ := ints_new w5 [1, 1, 0, -1, -1, -1]
  have HbB : Hid (Below w.heap.size w (w5.alloc (.cells (ivals [1, 1, 0, -1, -1, -1]) 3))) := hbA.alloc hbA.size _
  clear hb5 hbA hI5 hR4 hL4 hl4 Hb4
  go_wp2_with fail
  refine (numbers_c a5 (some ⟨w5.heap.size, 0, none⟩) 6 c5 6 [1, 1, 0, -1, -1, -1] _ HI3.out HN3.out rfl (by omega)).mono ?_
  rintro _ w6 ⟨rfl, hb6⟩
  have Hb6 : Hid (Below w.heap.size w w6) := HbB.out.trans (hb6.mono HbB.out.size)
  clear HI3 HN3 HbB hb6
  go_wp2_with fail
  refine (J.world_ w6).mono ?_
  rintro _ w7 ⟨hb7, a7, c7, L7, rfl, hR7, hL7⟩
  have hl7 : L7.length = 6 := by rw [← lad_len, hL7]; rfl
  have Hb7 : Hid (Below w.heap.size w w7) := Hb6.out.trans (hb7.mono Hb6.out.size)
  clear Hb6 hb7
  go_wp2_with fail
  refine (J.cap_ a7 6 c7 L7 2 w7 hR7 hl7 (by unfold maxLen; omega) ⟨by omega, by omega⟩).mono ?_
  rw [hL7, world_c2]
  rintro _ w8 ⟨rfl, hb8⟩
  have Hb8 : Hid (Below w.heap.size w w8) := Hb7.out.trans (hb8.mono Hb7.out.size)
  clear hR7 hL7 hl7 Hb7 hb8
  go_wp2_with fail
  refine (J.world_ w8).mono ?_
  rintro _ w9 ⟨hb9, a9, c9, L9, rfl, hR9, hL9⟩
  have hl9 : L9.length = 6 := by rw [← lad_len, hL9]; rfl
  have Hb9 : Hid (Below w.heap.size w w9) := Hb8.out.trans (hb9.mono Hb8.out.size)
  clear Hb8 hb9
  go_wp2_with fail
  refine (J.cap_ a9 6 c9 L9 5 w9 hR9 hl9 (by unfold maxLen; omega) ⟨by omega, by omega⟩).mono ?_
  rw [hL9, world_c5]
  rintro _ w10 ⟨rfl, hb10⟩
  have Hb10 : Hid (Below w.heap.size w w10) := Hb9.out.trans (hb10.mono Hb9.out.size)
  clear hR9 hL9 hl9 Hb9 hb10
  go_wp2_with fail
  refine (J.world_ w10).mono ?_
  rintro _ w11 ⟨hb11, a11, c11, L11, rfl, _, _⟩
  have R := HP.out w11 (Hb10.out.trans (hb11.mono Hb10.out.size))
  clear HP hb11 Hb10
  go_wp2
  exact R
end Go.Proofs.Ytokjbjfpgjincaa
