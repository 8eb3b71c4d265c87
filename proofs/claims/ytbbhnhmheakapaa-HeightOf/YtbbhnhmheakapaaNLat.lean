/-
  What Lattice, Fade, Clamp and split answer, of the program and of the document, for every number; the document's Lattice leaves new blocks behind it, the others turn nothing.
-/
import Derived.Test.YtbbhnhmheakapaaNHash
import Derived.Test.YtbbhnhmheakapaaNDiv
import Derived.Test.YtbbhnhmheakapaaNFlatm
namespace Go.Proofs.Ytbbhnhmheakapaa.N
open Go.RowKit

/-- The height of a corner. -/
def latN (S : Nat) (stage x z : Int) : Int := (hashN S stage x 0 z : Int) / 281474976710656
theorem lat_bd (S : Nat) (stage x z : Int) : 0 ≤ latN S stage x z ∧ latN S stage x z ≤ 65535 := by
  have h := hashN_lt S stage x 0 z
  unfold latN
  omega
theorem lat_out (S : Nat) (stage x z : Int) : wrap64 ((hashN S stage x 0 z : Int) / 281474976710656) = latN S stage x z := by
  have h := lat_bd S stage x z
  unfold latN at *
  unfold wrap64
  omega
set_option maxHeartbeats 400000 in
theorem lattice_any (S : Nat) (stage x z : Int) (w : World) (hS : S < 18446744073709551616) :
    Calls Try.prog 34 #[.int .u64 S, .int .i64 stage, .int .i64 x, .int .i64 z] w fun e w' => e = .returned (.int .i64 (latN S stage x z)) ∧ w' = w := by
  have HL : Hid _ := lat_out S stage x z
  go_enter Try.func34, Try.ntmps34
  go_wp2_with (go_at_call 38; go_must (refine (hash_any S stage x 0 z _ hS).mono ?_); rintro e w' ⟨rfl, rfl⟩)
  go_ret
  exact ⟨ret_int HL.out, rfl⟩
set_option maxHeartbeats 400000 in
theorem rlattice_any (S : Nat) (stage x z : Int) (w : World) (hS : S < 18446744073709551616) :
    Calls Try.prog 29 #[.int .u64 S, .int .i64 stage, .int .i64 x, .int .i64 z] w fun e w' => e = .returned (.int .i64 (latN S stage x z)) ∧ Below w.heap.size w w' := by
  have HL : Hid _ := lat_out S stage x z
  go_enter Try.func29, Try.ntmps29
  go_wp2_with (go_at_call 36; go_must (refine (rhash_any S stage x 0 z _ hS).mono ?_); rintro e w' ⟨rfl, hb⟩)
  go_ret
  exact ⟨ret_int HL.out, hb⟩

theorem clamp_any (t : Int) (w : World) : Calls Try.prog 37 #[.int .i64 t, .int .i64 0, .int .i64 65536] w fun e w' => e = .returned (.int .i64 (cl t)) ∧ w' = w := by
  by_cases h : t < 0
  · have e : cl t = 0 := by unfold cl; rw [if_pos h]
    rw [e]
    go_enter Try.func37, Try.ntmps37
    go_wp2
    go_ret
    exact ⟨rfl, rfl⟩
  · by_cases h2 : 65536 < t
    · have e : cl t = 65536 := by unfold cl; rw [if_neg h, if_pos h2]
      rw [e]
      go_enter Try.func37, Try.ntmps37
      go_wp2
      go_ret
      exact ⟨rfl, rfl⟩
    · have e : cl t = t := by unfold cl; rw [if_neg h, if_neg h2]
      rw [e]
      go_enter Try.func37, Try.ntmps37
      go_wp2
      go_ret
      exact ⟨rfl, rfl⟩
theorem rclamp_any (t : Int) (w : World) : Calls Try.prog 35 #[.int .i64 t, .int .i64 0, .int .i64 65536] w fun e w' => e = .returned (.int .i64 (cl t)) ∧ w' = w := by
  by_cases h : t < 0
  · have e : cl t = 0 := by unfold cl; rw [if_pos h]
    rw [e]
    go_enter Try.func35, Try.ntmps35
    go_wp2
    go_ret
    exact ⟨rfl, rfl⟩
  · by_cases h2 : 65536 < t
    · have e : cl t = 65536 := by unfold cl; rw [if_neg h, if_pos h2]
      rw [e]
      go_enter Try.func35, Try.ntmps35
      go_wp2
      go_ret
      exact ⟨rfl, rfl⟩
    · have e : cl t = t := by unfold cl; rw [if_neg h, if_neg h2]
      rw [e]
      go_enter Try.func35, Try.ntmps35
      go_wp2
      go_ret
      exact ⟨rfl, rfl⟩

theorem sq_bd {c : Int} (h0 : 0 ≤ c) (h1 : c ≤ 65536) : 0 ≤ c * c ∧ c * c ≤ 4294967296 :=
  ⟨Int.mul_nonneg h0 h0, Int.mul_le_mul h1 h1 h0 (by omega)⟩
theorem poly_bd {c : Int} (h0 : 0 ≤ c) (h1 : c ≤ 65536) : 0 ≤ poly c ∧ poly c ≤ 281474976710656 := by
  have a : poly 0 ≤ poly c := poly_mono (by omega) h0 h1
  have b : poly c ≤ poly 65536 := poly_mono h0 h1 (by omega)
  have e0 : poly 0 = 0 := by decide +kernel
  have e1 : poly 65536 = 281474976710656 := by decide +kernel
  omega
set_option maxHeartbeats 400000 in
theorem fade_any (t : Int) (w : World) : Calls Try.prog 32 #[.int .i64 t] w fun e w' => e = .returned (.int .i64 (fade t)) ∧ w' = w := by
  have HF : Hid (fade t = poly (cl t) / 4294967296) := rfl
  have hc := cl_bd t
  have hq := sq_bd hc.1 hc.2
  have hp := poly_bd hc.1 hc.2
  have hpe : cl t * cl t * (196608 - 2 * cl t) = poly (cl t) := rfl
  go_enter Try.func32, Try.ntmps32
  go_wp2_with fail
  refine (clamp_any t _).mono ?_
  rintro e w' ⟨rfl, hw⟩
  subst w'
  generalize cl t = c at *
  go_wp2_with fail
  refine (div_hi (poly c) 4294967296 _ (by omega) (by omega) (by omega) (by omega)).mono ?_
  rintro e w' ⟨rfl, hw⟩
  subst w'
  go_wp2
  go_ret
  exact ⟨ret_int HF.out.symm, rfl⟩
set_option maxHeartbeats 400000 in
theorem rfade_any (t : Int) (w : World) : Calls Try.prog 26 #[.int .i64 t] w fun e w' => e = .returned (.int .i64 (fade t)) ∧ w' = w := by
  have HF : Hid (fade t = poly (cl t) / 4294967296) := rfl
  have hc := cl_bd t
  have hq := sq_bd hc.1 hc.2
  have hp := poly_bd hc.1 hc.2
  have hpe : cl t * cl t * (196608 - 2 * cl t) = poly (cl t) := rfl
  go_enter Try.func26, Try.ntmps26
  go_wp2_with fail
  refine (rclamp_any t _).mono ?_
  rintro e w' ⟨rfl, hw⟩
  subst w'
  generalize cl t = c at *
  go_wp2
  go_ret
  exact ⟨ret_int (by rw [HF.out]), rfl⟩

theorem ret_two {a b c : Int} (h : c = b) : Ending.returned (.tuple #[.int .i64 a, .int .i64 b]) = .returned (.tuple #[.int .i64 a, .int .i64 c]) := by rw [h]
theorem rest_bd {v a : Int} (h1 : 1 ≤ a) (h2 : a ≤ 1048576) : (0 ≤ v % a ∧ v % a < a) ∧ 0 ≤ v % a * 65536 ∧ v % a * 65536 ≤ 68719476736 := by
  have m0 := Int.emod_nonneg v (show a ≠ 0 by omega)
  have m1 := Int.emod_lt_of_pos v (show 0 < a by omega)
  omega
set_option maxHeartbeats 400000 in
theorem split_any (v a : Int) (w : World) (hv : -9223372036854775808 ≤ v ∧ v ≤ 9223372036854775807) (h1 : 1 ≤ a) (h2 : a ≤ 1048576) :
    Calls Try.prog 22 #[.int .i64 v, .int .i64 a] w fun e w' => e = .returned (.tuple #[.int .i64 (v / a), .int .i64 (frac v a)]) ∧ w' = w := by
  have HF : Hid (frac v a = fade (v % a * 65536 / a)) := rfl
  have hr := rest_bd (v := v) h1 h2
  go_enter Try.func22, Try.ntmps22
  go_wp2_with fail
  refine (div_hi v a _ h1 (by omega) hv.1 hv.2).mono ?_
  rintro e w' ⟨rfl, hw⟩
  subst w'
  go_wp2_with fail
  refine (mod_hi v a _ h1 (by omega) hv.1 hv.2).mono ?_
  rintro e w' ⟨rfl, hw⟩
  subst w'
  go_wp2_with fail
  refine (div_hi (v % a * 65536) a _ h1 (by omega) (by omega) (by omega)).mono ?_
  rintro e w' ⟨rfl, hw⟩
  subst w'
  go_wp2_with fail
  refine (fade_any _ _).mono ?_
  rintro e w' ⟨rfl, hw⟩
  subst w'
  go_wp2
  go_ret2
  exact ⟨ret_two HF.out, rfl⟩
end Go.Proofs.Ytbbhnhmheakapaa.N
