/-
  What between and around answer: what lies between two ends, and the heights of the four corners; both make new blocks and turn nothing that was there.
-/
import Derived.Test.YtjlefocdkbjgaaaDoorNLat
import Derived.Deep.QuietTactic
import Derived.BigQuiet
import Derived.LoopN
import Derived.Deep.DeepCutAuto
import Derived.Deep.RegionWith
namespace Go.Proofs.YtjlefocdkbjgaaaDoor.N
open Go.RowKit

theorem drewN_heap (w : World) (n : Nat) : (w.drewN n).heap = w.heap ∧ (w.drewN n).os = w.os ∧ (w.drewN n).tape = w.tape ∧ (w.drewN n).output = w.output := by
  induction n generalizing w with
  | zero => exact ⟨rfl, rfl, rfl, rfl⟩
  | succ n ih => exact ih w.drew
theorem below_drewN {B : Nat} {w w' : World} (h : Below B w w') (n : Nat) : Below B w (w'.drewN n) := by
  obtain ⟨e, o, t, u⟩ := drewN_heap w' n
  exact ⟨by rw [o]; exact h.os, by rw [t]; exact h.tape, by rw [u]; exact h.output, by rw [e]; exact h.size, fun k hk => by rw [e]; exact h.block k hk⟩

theorem i64_id {n : Int} (h0 : -9223372036854775808 ≤ n) (h1 : n ≤ 9223372036854775807) : IntKind.i64.wrap n = n := by rw [IntKind.wrap_i64]; omega
theorem side_bd {a b t : Int} (ha : 0 ≤ a ∧ a ≤ 65535) (hb : 0 ≤ b ∧ b ≤ 65535) (ht : 0 ≤ t ∧ t ≤ 65536) : -4294967296 ≤ (b - a) * t ∧ (b - a) * t ≤ 4294967296 := by
  have p : (b - a) * t ≤ 65536 * t := Int.mul_le_mul_of_nonneg_right (by omega) ht.1
  have q : -65536 * t ≤ (b - a) * t := Int.mul_le_mul_of_nonneg_right (by omega) ht.1
  omega
/-- The world in which the result is taken over. -/
def fin (wr : World) (n : Nat) (p q r s : Int) : World :=
  (((wr.setCell ⟨n, 0, none⟩ (.int .i64 p)).setCell ⟨n, 1, none⟩ (.int .i64 q)).setCell ⟨n, 2, none⟩ (.int .i64 r)).setCell ⟨n, 3, none⟩ (.int .i64 s)
end Go.Proofs.YtjlefocdkbjgaaaDoor.N