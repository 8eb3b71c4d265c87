/-
  What Lattice, Fade, Clamp and split answer, of the program and of the document, for every number; the document's Lattice leaves new blocks behind it, the others turn nothing.
-/
import Derived.Test.YtjlefocdkbjgaaaDoorNHash
import Derived.Test.YtjlefocdkbjgaaaDoorNDiv
import Derived.Test.YtjlefocdkbjgaaaDoorNFlatm
namespace Go.Proofs.YtjlefocdkbjgaaaDoor.N
open Go.RowKit

/-- The height of a corner. -/
def latN (S : Nat) (stage x z : Int) : Int := (hashN S stage x 0 z : Int) / 281474976710656
theorem lat_bd (S : Nat) (stage x z : Int) : 0 ≤ latN S stage x z ∧ latN S stage x z ≤ 65535 := by
  have h := hashN_lt S stage x 0 z
  unfold latN
  omega
theorem lat_out (S : Nat) (stage x z : Int) : wrap64 ((hashN S stage x 0 z : Int) / 281474976710656) = latN S stage x z := by
  have h := lat_bd S stage x z
  unfold latN at *
  unfold wrap64
  omega
set_option maxHeartbeats 400000 in
theorem rlattice_any (S : Nat) (stage x z : Int) (w : World) (hS : S < 18446744073709551616) :
    Calls Tryd.prog 37 #[.int .u64 S, .int .i64 stage, .int .i64 x, .int .i64 z] w fun e w' => e = .returned (.int .i64 (latN S stage x z)) ∧ Below w.heap.size w w' := by
  have HL : Hid _ := lat_out S stage x z
  go_enter Tryd.func37, Tryd.ntmps37
  go_wp2_with (go_at_call 39; go_must (refine (rhash_any S stage x 0 z _ hS).mono ?_); rintro e w' ⟨rfl, hb⟩)
  go_ret
  exact ⟨ret_int HL.out, hb⟩

theorem rclamp_any (t : Int) (w : World) : Calls Tryd.prog 38 #[.int .i64 t, .int .i64 0, .int .i64 65536] w fun e w' => e = .returned (.int .i64 (cl t)) ∧ w' = w := by
  by_cases h : t < 0
  · have e : cl t = 0 := by unfold cl; rw [if_pos h]
    rw [e]
    go_enter Tryd.func38, Tryd.ntmps38
    go_wp2
    go_ret
    exact ⟨rfl, rfl⟩
  · by_cases h2 : 65536 < t
    · have e : cl t = 65536 := by unfold cl; rw [if_neg h, if_pos h2]
      rw [e]
      go_enter Tryd.func38, Tryd.ntmps38
      go_wp2
      go_ret
      exact ⟨rfl, rfl⟩
    · have e : cl t = t := by unfold cl; rw [if_neg h, if_neg h2]
      rw [e]
      go_enter Tryd.func38, Tryd.ntmps38
      go_wp2
      go_ret
      exact ⟨rfl, rfl⟩

theorem sq_bd {c : Int} (h0 : 0 ≤ c) (h1 : c ≤ 65536) : 0 ≤ c * c ∧ c * c ≤ 4294967296 :=
  ⟨Int.mul_nonneg h0 h0, Int.mul_le_mul h1 h1 h0 (by omega)⟩
theorem poly_bd {c : Int} (h0 : 0 ≤ c) (h1 : c ≤ 65536) : 0 ≤ poly c ∧ poly c ≤ 281474976710656 := by
  have a : poly 0 ≤ poly c := poly_mono (by omega) h0 h1
  have b : poly c ≤ poly 65536 := poly_mono h0 h1 (by omega)
  have e0 : poly 0 = 0 := by decide +kernel
  have e1 : poly 65536 = 281474976710656 := by decide +kernel
  omega
set_option maxHeartbeats 400000 in
theorem rfade_any (t : Int) (w : World) : Calls Tryd.prog 34 #[.int .i64 t] w fun e w' => e = .returned (.int .i64 (fade t)) ∧ w' = w := by
  have HF : Hid (fade t = poly (cl t) / 4294967296) := rfl
  have hc := cl_bd t
  have hq := sq_bd hc.1 hc.2
  have hp := poly_bd hc.1 hc.2
  have hpe : cl t * cl t * (196608 - 2 * cl t) = poly (cl t) := rfl
  go_enter Tryd.func34, Tryd.ntmps34
  go_wp2_with fail
  refine (rclamp_any t _).mono ?_
  rintro e w' ⟨rfl, hw⟩
  subst w'
  generalize cl t = c at *
  go_wp2
  go_ret
  exact ⟨ret_int (by rw [HF.out]), rfl⟩

theorem ret_two {a b c : Int} (h : c = b) : Ending.returned (.tuple #[.int .i64 a, .int .i64 b]) = .returned (.tuple #[.int .i64 a, .int .i64 c]) := by rw [h]
theorem rest_bd {v a : Int} (h1 : 1 ≤ a) (h2 : a ≤ 1048576) : (0 ≤ v % a ∧ v % a < a) ∧ 0 ≤ v % a * 65536 ∧ v % a * 65536 ≤ 68719476736 := by
  have m0 := Int.emod_nonneg v (show a ≠ 0 by omega)
  have m1 := Int.emod_lt_of_pos v (show 0 < a by omega)
  omega
end Go.Proofs.YtjlefocdkbjgaaaDoor.N