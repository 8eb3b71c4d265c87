/-
  The laws' reduced and size.
-/
import Derived.Test.YtjeapaojbkicmabDoorLbase
set_option maxRecDepth 20000
namespace Go.Proofs.YtjeapaojbkicmabDoor
open C Go.RowKit

theorem reduced_is (v n : Int) (hn : 0 < n) : Int.tmod (Int.tmod v n + n) n = v % n ∧ -n < Int.tmod v n ∧ Int.tmod v n < n := by
  have h1 : Int.tmod v n < n := Int.tmod_lt_of_pos v hn
  have h2 : -n < Int.tmod v n := by
    have := Int.tmod_lt_of_pos (-v) hn
    rw [Int.neg_tmod] at this
    omega
  refine ⟨?_, h2, h1⟩
  rw [Int.tmod_eq_emod_of_nonneg (by omega), Int.add_emod_right]
  have h3 := Int.mul_tdiv_add_tmod v n
  have h4 : (Int.tmod v n) % n = v % n := by
    conv => rhs; rw [← h3]
    rw [Int.add_comm, Int.add_mul_emod_self_left]
  exact h4
theorem reduced_c (v n : Int) (hn : 0 < n) (hn2 : n ≤ 100000) (w : World) : Calls Tryd.prog 11 #[.int .i64 v, .int .i64 n] w fun e w' => e = .returned (.int .i64 (v % n)) ∧ w' = w := by
  obtain ⟨h1, h2, h3⟩ := reduced_is v n hn
  obtain ⟨t, ht⟩ : ∃ t, Int.tmod v n = t := ⟨_, rfl⟩
  rw [ht] at h1 h2 h3
  obtain ⟨r, hr⟩ : ∃ r, v % n = r := ⟨_, rfl⟩
  rw [hr] at h1 ⊢
  clear hr
  obtain ⟨u, hu⟩ : ∃ u, t + n = u := ⟨_, rfl⟩
  have wu : IntKind.i64.wrap (t + n) = u := by rw [IntKind.wrap_i64]; omega
  rw [hu] at h1
  have hn0 : ¬ n = 0 := by omega
  have hn1 : ¬ n = -1 := by omega
  clear hu
  go_enter Tryd.func11, Tryd.ntmps11
  go_wp2
  go_ret
  exact ⟨rfl, rfl⟩
end Go.Proofs.YtjeapaojbkicmabDoor
