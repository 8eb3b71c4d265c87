/-
  The chapter's examples, as the statements ask them ahead of everything: awake answers true in every world, and turns nothing that was there.
-/
import Derived.Test.YtcefiejbfnakeabStream
namespace Go.Proofs.Ytcefiejbfnakeab
open Go.RowKit

theorem mix_0 (w : World) : Calls Try.prog 10 #[.int .u64 0] w fun e w' => e = .returned (.int .u64 0) ∧ w' = w := by
  have h := mix_any 0 w (by decide)
  rw [show mixN 0 = 0 by decide +kernel] at h
  exact h
theorem mix_1 (w : World) : Calls Try.prog 10 #[.int .u64 1] w fun e w' => e = .returned (.int .u64 6238072747940578789) ∧ w' = w := by
  have h := mix_any 1 w (by decide)
  rw [show mixN 1 = 6238072747940578789 by decide +kernel] at h
  exact h
theorem unmix_1 (w : World) : Calls Try.prog 11 #[.int .u64 6238072747940578789] w fun e w' => e = .returned (.int .u64 1) ∧ w' = w := by
  have h := unmix_any 6238072747940578789 w (by decide)
  rw [show unmixN 6238072747940578789 = 1 by decide +kernel] at h
  exact h
theorem below_10 (w : World) : Calls Try.prog 6 #[.int .u64 9223372036854775808, .int .i64 10] w fun e w' => e = .returned (.int .i64 5) ∧ w' = w := by
  have h := below_any 9223372036854775808 10 w (by decide) (by decide)
  rw [show belowN 9223372036854775808 10 = 5 by decide +kernel] at h
  exact h
theorem new_1 (w : World) : Calls Try.prog 7 #[.int .u64 1, .int .i64 2, .int .i64 3, .int .i64 4, .int .i64 5] w fun e w' => e = .returned (.pointer (some ⟨w.heap.size, 0, none⟩)) ∧ Strm 36 w' w.heap.size 9766643148073981415 0 ∧ Below w.heap.size w w' := by
  have h := new_any 1 2 3 4 5 w (by decide)
  rw [show hashN 1 2 3 4 5 = 9766643148073981415 by decide +kernel] at h
  exact h
theorem next_1 (g : Nat) (w : World) (h : Strm 36 w g 9766643148073981415 0) : Calls Try.prog 9 #[.pointer (some ⟨g, 0, none⟩)] w fun e w' => e = .returned (.int .u64 10836636614825782393) ∧ Strm 36 w' g 9766643148073981415 1 ∧ Only g w w' := by
  have h := next_any g 9766643148073981415 0 w (by decide) h
  rw [show nextN 9766643148073981415 (0 + 1) = 10836636614825782393 by decide +kernel] at h
  exact h

set_option maxHeartbeats 1000000 in
theorem awake_any (w : World) : Calls Try.prog 5 #[] w fun e w' => e = .returned (.bool true) ∧ Below w.heap.size w w' := by
  go_enter Try.func5, Try.ntmps5
  go_wp2_with fail
  refine (new_1 _).mono ?_
  rintro e w1 ⟨rfl, h1, h2⟩
  have H1 : Hid (Strm 36 w1 w.heap.size 9766643148073981415 0) := h1
  have H2 : Hid (Below w.heap.size w w1) := h2
  clear h1 h2
  go_wp2_with fail
  refine (next_1 _ _ H1.out).mono ?_
  rintro e w2 ⟨rfl, h1, h2⟩
  have H3 : Hid (Below w.heap.size w w2) := H2.out.trans (h2.below (Nat.le_refl _))
  clear h1 h2 H1 H2
  go_wp2_with fail
  refine (mix_0 _).mono ?_
  rintro e w' ⟨rfl, hw⟩
  subst w'
  go_wp2_with fail
  refine (mix_1 _).mono ?_
  rintro e w' ⟨rfl, hw⟩
  subst w'
  go_wp2_with fail
  refine (below_10 _).mono ?_
  rintro e w' ⟨rfl, hw⟩
  subst w'
  go_wp2_with fail
  refine (unmix_1 _).mono ?_
  rintro e w' ⟨rfl, hw⟩
  subst w'
  go_wp2
  go_ret
  exact ⟨rfl, H3.out⟩
end Go.Proofs.Ytcefiejbfnakeab
