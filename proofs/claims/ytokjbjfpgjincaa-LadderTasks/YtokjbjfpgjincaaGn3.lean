/-
  What In, Chunk, Index and Cell answer, of the program and of the document, for every cell, chunk and place; whatever lay is as it lay.
-/
import Derived.Test.YtokjbjfpgjincaaGn2
namespace Go.Proofs.Ytokjbjfpgjincaa.G
open Go.RowKit

def posV (x y z : Int) : Value := .agg #[.int .i64 x, .int .i64 y, .int .i64 z]
def atV (x z : Int) : Value := .agg #[.int .i64 x, .int .i64 z]

def inW (x y z : Int) : Prop := (0 ≤ y ∧ y ≤ 127) ∧ (-1048576 ≤ x ∧ x ≤ 1048576) ∧ (-1048576 ≤ z ∧ z ≤ 1048576)
instance (x y z : Int) : Decidable (inW x y z) := by unfold inW; infer_instance

def indexN (x y z : Int) : Int := if 0 ≤ y ∧ y ≤ 127 then y * 256 + z % 16 * 16 + x % 16 else -1
theorem i64_id {n : Int} (h0 : -9223372036854775808 ≤ n) (h1 : n ≤ 9223372036854775807) : IntKind.i64.wrap n = n := by rw [IntKind.wrap_i64]; omega
def cellY (i : Int) : Int := if 0 ≤ i ∧ i ≤ 32767 then i / 256 else 0
def cellX (cx i : Int) : Int := if 0 ≤ i ∧ i ≤ 32767 then wrap64 (wrap64 (cx * 16) + i % 16) else 0
def cellZ (cz i : Int) : Int := if 0 ≤ i ∧ i ≤ 32767 then wrap64 (wrap64 (cz * 16) + i % 256 / 16) else 0
end Go.Proofs.Ytokjbjfpgjincaa.G
