/-
  The chapter's examples, as the statements ask them ahead of everything: awake answers true in every world, and turns nothing that was there.
-/
import Derived.Test.YtgjipfjogpcomaaOcts
namespace Go.Proofs.Ytgjipfjogpcomaa
open Go.RowKit

theorem fade_m5 (w : World) : Calls Try.prog 12 #[.int .i64 (-5)] w fun e w' => e = .returned (.int .i64 0) ∧ w' = w := by
  have h := fade_any (-5) w
  rw [show fade (-5) = 0 by decide +kernel] at h
  exact h
theorem fade_00 (w : World) : Calls Try.prog 12 #[.int .i64 0] w fun e w' => e = .returned (.int .i64 0) ∧ w' = w := by
  have h := fade_any 0 w
  rw [show fade 0 = 0 by decide +kernel] at h
  exact h
theorem fade_32 (w : World) : Calls Try.prog 12 #[.int .i64 32768] w fun e w' => e = .returned (.int .i64 32768) ∧ w' = w := by
  have h := fade_any 32768 w
  rw [show fade 32768 = 32768 by decide +kernel] at h
  exact h
theorem fade_65 (w : World) : Calls Try.prog 12 #[.int .i64 65536] w fun e w' => e = .returned (.int .i64 65536) ∧ w' = w := by
  have h := fade_any 65536 w
  rw [show fade 65536 = 65536 by decide +kernel] at h
  exact h
theorem lat_4 (w : World) : Calls Try.prog 10 #[.int .u64 1, .int .i64 2, .int .i64 3, .int .i64 4] w fun e w' => e = .returned (.int .i64 48738) ∧ w' = w := by
  have h := lattice_any 1 2 3 4 w (by decide)
  rw [show latN 1 2 3 4 = 48738 by decide +kernel] at h
  exact h
theorem lat_5 (w : World) : Calls Try.prog 10 #[.int .u64 1, .int .i64 2, .int .i64 3, .int .i64 5] w fun e w' => e = .returned (.int .i64 38311) ∧ w' = w := by
  have h := lattice_any 1 2 3 5 w (by decide)
  rw [show latN 1 2 3 5 = 38311 by decide +kernel] at h
  exact h
set_option maxHeartbeats 1000000 in
theorem awake_any (w : World) : Calls Try.prog 9 #[] w fun e w' => e = .returned (.bool true) ∧ Below w.heap.size w w' := by
  go_enter Try.func9, Try.ntmps9
  go_wp2_with fail
  refine (fade_m5 _).mono ?_
  rintro e w' ⟨rfl, hw⟩
  subst w'
  go_wp2_with fail
  refine (fade_00 _).mono ?_
  rintro e w' ⟨rfl, hw⟩
  subst w'
  go_wp2_with fail
  refine (fade_32 _).mono ?_
  rintro e w' ⟨rfl, hw⟩
  subst w'
  go_wp2_with fail
  refine (fade_65 _).mono ?_
  rintro e w' ⟨rfl, hw⟩
  subst w'
  go_wp2_with fail
  refine (flat_out 1 2 3 4 21 _ (by omega)).mono ?_
  rintro e w1 ⟨rfl, hw⟩
  have H1 : Hid (Below w.heap.size w w1) := hw
  clear hw
  go_wp2_with fail
  refine (octaves_out 1 2 3 4 5 0 _ (by omega) (by omega)).mono ?_
  rintro e w2 ⟨rfl, hw⟩
  have H2 : Hid (Below w.heap.size w w2) := H1.out.trans (hw.mono H1.out.size)
  clear hw H1
  go_wp2_with fail
  refine (lat_4 _).mono ?_
  rintro e w' ⟨rfl, hw⟩
  subst w'
  go_wp2_with fail
  refine (lat_5 _).mono ?_
  rintro e w' ⟨rfl, hw⟩
  subst w'
  go_wp2
  go_ret
  exact ⟨rfl, H2.out⟩
end Go.Proofs.Ytgjipfjogpcomaa
