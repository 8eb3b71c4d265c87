/-
  What Flat answers, for every number: what lies between the four corners of the plane; it makes new blocks and turns nothing that was there.
-/
import Derived.Test.YtjlefocdkbjgaaaDoorNAround
namespace Go.Proofs.YtjlefocdkbjgaaaDoor.N
open Go.RowKit

/-- The corners of a plane: beyond the greatest number comes the least one. -/
def plane (S : Nat) (stage : Int) (x z : Int) : Int := latN S stage (wrap64 x) (wrap64 z)
theorem plane_bd (S : Nat) (stage x z : Int) : 0 ≤ plane S stage x z ∧ plane S stage x z ≤ 65535 := lat_bd _ _ _ _
def wide (shift : Int) : Int := 2 ^ shift.toNat
theorem wide_bd {shift : Int} (h0 : 0 ≤ shift) (h1 : shift ≤ 20) : 1 ≤ wide shift ∧ wide shift ≤ 1048576 := by
  have h : shift = 0 ∨ shift = 1 ∨ shift = 2 ∨ shift = 3 ∨ shift = 4 ∨ shift = 5 ∨ shift = 6 ∨ shift = 7 ∨ shift = 8 ∨ shift = 9 ∨ shift = 10 ∨ shift = 11 ∨ shift = 12 ∨ shift = 13 ∨ shift = 14 ∨ shift = 15 ∨ shift = 16 ∨ shift = 17 ∨ shift = 18 ∨ shift = 19 ∨ shift = 20 := by omega
  rcases h with rfl | rfl | rfl | rfl | rfl | rfl | rfl | rfl | rfl | rfl | rfl | rfl | rfl | rfl | rfl | rfl | rfl | rfl | rfl | rfl | rfl <;> decide +kernel
theorem div_in {x a : Int} (hx : -9223372036854775808 ≤ x ∧ x ≤ 9223372036854775807) (ha : 1 ≤ a) : -9223372036854775808 ≤ x / a ∧ x / a ≤ 9223372036854775807 := by
  have d := div_bd x a ha
  rcases Int.lt_or_le x 0 with k | k
  · have := d.2 k; omega
  · have := d.1 k; omega
theorem w64_in {n : Int} (h : -9223372036854775808 ≤ n ∧ n ≤ 9223372036854775807) : wrap64 n = n := by unfold wrap64; omega
theorem btw_bd {a b t : Int} (ha : 0 ≤ a ∧ a ≤ 65535) (hb : 0 ≤ b ∧ b ≤ 65535) (ht : 0 ≤ t ∧ t ≤ 65536) : 0 ≤ btw a b t ∧ btw a b t ≤ 65535 :=
  ⟨btw_low ht.1 ht.2 ha.1 hb.1, btw_high ht.1 ht.2 ha.2 hb.2⟩
/-- What Flat answers. -/
def flatN (S : Nat) (stage x z shift : Int) : Int := if shift < 0 ∨ 20 < shift then 0 else flat (plane S stage) x z (wide shift)
theorem flatN_out (S : Nat) (stage x z : Int) {shift : Int} (h : shift < 0 ∨ 20 < shift) : flatN S stage x z shift = 0 := by unfold flatN; rw [if_pos h]
theorem flatN_in (S : Nat) (stage x z : Int) {shift : Int} (h0 : 0 ≤ shift) (h1 : shift ≤ 20) : flatN S stage x z shift = flat (plane S stage) x z (wide shift) := by unfold flatN; rw [if_neg (by omega)]
theorem flatN_bd (S : Nat) (stage x z shift : Int) : 0 ≤ flatN S stage x z shift ∧ flatN S stage x z shift ≤ 65535 := by
  unfold flatN
  split
  · omega
  · exact flat_bd _ (plane_bd S stage) _ _ _
end Go.Proofs.YtjlefocdkbjgaaaDoor.N