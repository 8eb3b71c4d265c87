/-
  What Lattice, Fade, Clamp and split answer, of the program and of the document, for every number; the document's Lattice leaves new blocks behind it, the others turn nothing.
  What between and around answer: what lies between two ends, and the heights of the four corners; both make new blocks and turn nothing that was there.
  What Flat answers, for every number: what lies between the four corners of the plane; it makes new blocks and turns nothing that was there.
-/
import Derived.Test.YtajjaeaknonmfaaNHash
import Derived.Test.YtajjaeaknonmfaaNDiv
import Derived.Test.YtajjaeaknonmfaaNFlatm
import Derived.Deep.QuietTactic
import Derived.BigQuiet
import Derived.LoopN
import Derived.Deep.DeepCutAuto
import Derived.Deep.RegionWith
namespace Go.Proofs.Ytajjaeaknonmfaa.N
section
open Go.RowKit

/-- The height of a corner. -/
def latN (S : Nat) (stage x z : Int) : Int := (hashN S stage x 0 z : Int) / 281474976710656
theorem lat_bd (S : Nat) (stage x z : Int) : 0 ≤ latN S stage x z ∧ latN S stage x z ≤ 65535 := by
  have h := hashN_lt S stage x 0 z
  unfold latN
  omega
theorem lat_out (S : Nat) (stage x z : Int) : wrap64 ((hashN S stage x 0 z : Int) / 281474976710656) = latN S stage x z := by
  have h := lat_bd S stage x z
  unfold latN at *
  unfold wrap64
  omega
set_option maxHeartbeats 400000 in
theorem rlattice_any (S : Nat) (stage x z : Int) (w : World) (hS : S < 18446744073709551616) :
    Calls Try.prog 70 #[.int .u64 S, .int .i64 stage, .int .i64 x, .int .i64 z] w fun e w' => e = .returned (.int .i64 (latN S stage x z)) ∧ Below w.heap.size w w' := by
  have HL : Hid _ := lat_out S stage x z
  go_enter Try.func70, Try.ntmps70
  go_wp2_with (go_at_call 24; go_must (refine (rhash_any S stage x 0 z _ hS).mono ?_); rintro e w' ⟨rfl, hb⟩)
  go_ret
  exact ⟨ret_int HL.out, hb⟩

theorem rclamp_any (t : Int) (w : World) : Calls Try.prog 72 #[.int .i64 t, .int .i64 0, .int .i64 65536] w fun e w' => e = .returned (.int .i64 (cl t)) ∧ w' = w := by
  by_cases h : t < 0
  · have e : cl t = 0 := by unfold cl; rw [if_pos h]
    rw [e]
    go_enter Try.func72, Try.ntmps72
    go_wp2
    go_ret
    exact ⟨rfl, rfl⟩
  · by_cases h2 : 65536 < t
    · have e : cl t = 65536 := by unfold cl; rw [if_neg h, if_pos h2]
      rw [e]
      go_enter Try.func72, Try.ntmps72
      go_wp2
      go_ret
      exact ⟨rfl, rfl⟩
    · have e : cl t = t := by unfold cl; rw [if_neg h, if_neg h2]
      rw [e]
      go_enter Try.func72, Try.ntmps72
      go_wp2
      go_ret
      exact ⟨rfl, rfl⟩

theorem sq_bd {c : Int} (h0 : 0 ≤ c) (h1 : c ≤ 65536) : 0 ≤ c * c ∧ c * c ≤ 4294967296 :=
  ⟨Int.mul_nonneg h0 h0, Int.mul_le_mul h1 h1 h0 (by omega)⟩
theorem poly_bd {c : Int} (h0 : 0 ≤ c) (h1 : c ≤ 65536) : 0 ≤ poly c ∧ poly c ≤ 281474976710656 := by
  have a : poly 0 ≤ poly c := poly_mono (by omega) h0 h1
  have b : poly c ≤ poly 65536 := poly_mono h0 h1 (by omega)
  have e0 : poly 0 = 0 := by decide +kernel
  have e1 : poly 65536 = 281474976710656 := by decide +kernel
  omega
set_option maxHeartbeats 400000 in
theorem rfade_any (t : Int) (w : World) : Calls Try.prog 67 #[.int .i64 t] w fun e w' => e = .returned (.int .i64 (fade t)) ∧ w' = w := by
  have HF : Hid (fade t = poly (cl t) / 4294967296) := rfl
  have hc := cl_bd t
  have hq := sq_bd hc.1 hc.2
  have hp := poly_bd hc.1 hc.2
  have hpe : cl t * cl t * (196608 - 2 * cl t) = poly (cl t) := rfl
  go_enter Try.func67, Try.ntmps67
  go_wp2_with fail
  refine (rclamp_any t _).mono ?_
  rintro e w' ⟨rfl, hw⟩
  subst w'
  generalize cl t = c at *
  go_wp2
  go_ret
  exact ⟨ret_int (by rw [HF.out]), rfl⟩

theorem ret_two {a b c : Int} (h : c = b) : Ending.returned (.tuple #[.int .i64 a, .int .i64 b]) = .returned (.tuple #[.int .i64 a, .int .i64 c]) := by rw [h]
theorem rest_bd {v a : Int} (h1 : 1 ≤ a) (h2 : a ≤ 1048576) : (0 ≤ v % a ∧ v % a < a) ∧ 0 ≤ v % a * 65536 ∧ v % a * 65536 ≤ 68719476736 := by
  have m0 := Int.emod_nonneg v (show a ≠ 0 by omega)
  have m1 := Int.emod_lt_of_pos v (show 0 < a by omega)
  omega
end
section
open Go.RowKit

theorem drewN_heap (w : World) (n : Nat) : (w.drewN n).heap = w.heap ∧ (w.drewN n).os = w.os ∧ (w.drewN n).tape = w.tape ∧ (w.drewN n).output = w.output := by
  induction n generalizing w with
  | zero => exact ⟨rfl, rfl, rfl, rfl⟩
  | succ n ih => exact ih w.drew
theorem below_drewN {B : Nat} {w w' : World} (h : Below B w w') (n : Nat) : Below B w (w'.drewN n) := by
  obtain ⟨e, o, t, u⟩ := drewN_heap w' n
  exact ⟨by rw [o]; exact h.os, by rw [t]; exact h.tape, by rw [u]; exact h.output, by rw [e]; exact h.size, fun k hk => by rw [e]; exact h.block k hk⟩

theorem i64_id {n : Int} (h0 : -9223372036854775808 ≤ n) (h1 : n ≤ 9223372036854775807) : IntKind.i64.wrap n = n := by rw [IntKind.wrap_i64]; omega
theorem side_bd {a b t : Int} (ha : 0 ≤ a ∧ a ≤ 65535) (hb : 0 ≤ b ∧ b ≤ 65535) (ht : 0 ≤ t ∧ t ≤ 65536) : -4294967296 ≤ (b - a) * t ∧ (b - a) * t ≤ 4294967296 := by
  have p : (b - a) * t ≤ 65536 * t := Int.mul_le_mul_of_nonneg_right (by omega) ht.1
  have q : -65536 * t ≤ (b - a) * t := Int.mul_le_mul_of_nonneg_right (by omega) ht.1
  omega
/-- The world in which the result is taken over. -/
def fin (wr : World) (n : Nat) (p q r s : Int) : World :=
  (((wr.setCell ⟨n, 0, none⟩ (.int .i64 p)).setCell ⟨n, 1, none⟩ (.int .i64 q)).setCell ⟨n, 2, none⟩ (.int .i64 r)).setCell ⟨n, 3, none⟩ (.int .i64 s)
end
section
open Go.RowKit

/-- The corners of a plane: beyond the greatest number comes the least one. -/
def plane (S : Nat) (stage : Int) (x z : Int) : Int := latN S stage (wrap64 x) (wrap64 z)
theorem plane_bd (S : Nat) (stage x z : Int) : 0 ≤ plane S stage x z ∧ plane S stage x z ≤ 65535 := lat_bd _ _ _ _
def wide (shift : Int) : Int := 2 ^ shift.toNat
theorem wide_bd {shift : Int} (h0 : 0 ≤ shift) (h1 : shift ≤ 20) : 1 ≤ wide shift ∧ wide shift ≤ 1048576 := by
  have h : shift = 0 ∨ shift = 1 ∨ shift = 2 ∨ shift = 3 ∨ shift = 4 ∨ shift = 5 ∨ shift = 6 ∨ shift = 7 ∨ shift = 8 ∨ shift = 9 ∨ shift = 10 ∨ shift = 11 ∨ shift = 12 ∨ shift = 13 ∨ shift = 14 ∨ shift = 15 ∨ shift = 16 ∨ shift = 17 ∨ shift = 18 ∨ shift = 19 ∨ shift = 20 := by omega
  rcases h with rfl | rfl | rfl | rfl | rfl | rfl | rfl | rfl | rfl | rfl | rfl | rfl | rfl | rfl | rfl | rfl | rfl | rfl | rfl | rfl | rfl <;> decide +kernel
theorem div_in {x a : Int} (hx : -9223372036854775808 ≤ x ∧ x ≤ 9223372036854775807) (ha : 1 ≤ a) : -9223372036854775808 ≤ x / a ∧ x / a ≤ 9223372036854775807 := by
  have d := div_bd x a ha
  rcases Int.lt_or_le x 0 with k | k
  · have := d.2 k; omega
  · have := d.1 k; omega
theorem w64_in {n : Int} (h : -9223372036854775808 ≤ n ∧ n ≤ 9223372036854775807) : wrap64 n = n := by unfold wrap64; omega
theorem btw_bd {a b t : Int} (ha : 0 ≤ a ∧ a ≤ 65535) (hb : 0 ≤ b ∧ b ≤ 65535) (ht : 0 ≤ t ∧ t ≤ 65536) : 0 ≤ btw a b t ∧ btw a b t ≤ 65535 :=
  ⟨btw_low ht.1 ht.2 ha.1 hb.1, btw_high ht.1 ht.2 ha.2 hb.2⟩
/-- What Flat answers. -/
def flatN (S : Nat) (stage x z shift : Int) : Int := if shift < 0 ∨ 20 < shift then 0 else flat (plane S stage) x z (wide shift)
theorem flatN_out (S : Nat) (stage x z : Int) {shift : Int} (h : shift < 0 ∨ 20 < shift) : flatN S stage x z shift = 0 := by unfold flatN; rw [if_pos h]
theorem flatN_in (S : Nat) (stage x z : Int) {shift : Int} (h0 : 0 ≤ shift) (h1 : shift ≤ 20) : flatN S stage x z shift = flat (plane S stage) x z (wide shift) := by unfold flatN; rw [if_neg (by omega)]
theorem flatN_bd (S : Nat) (stage x z shift : Int) : 0 ≤ flatN S stage x z shift ∧ flatN S stage x z shift ≤ 65535 := by
  unfold flatN
  split
  · omega
  · exact flat_bd _ (plane_bd S stage) _ _ _
end
end Go.Proofs.Ytajjaeaknonmfaa.N
