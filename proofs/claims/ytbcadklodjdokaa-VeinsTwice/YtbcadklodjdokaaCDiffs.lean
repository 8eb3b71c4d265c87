/-
  Diff, of the document: the places at which two rows of bytes have others.
-/
import Derived.Test.YtbcadklodjdokaaCCounts
import Derived.Deep.QuietTactic
import Derived.OwnWalk
import Derived.Maps.AppendAt
namespace Go.Proofs.Ytbcadklodjdokaa.C
open Go.RowKit

/-- The places below n at which the two differ. -/
def diffTo (xs ys : List Int) : Nat → List Int
  | 0 => []
  | n + 1 => if xs.getD n 0 = ys.getD n 0 then diffTo xs ys n else diffTo xs ys n ++ [(n : Int)]
theorem diffTo_length (xs ys : List Int) : ∀ n, (diffTo xs ys n).length ≤ n
  | 0 => Nat.le_refl _
  | n + 1 => by
    have := diffTo_length xs ys n
    unfold diffTo
    split
    · omega
    · rw [List.length_append, List.length_singleton]; omega
def Ints (w : World) (base : Nat) (v : Value) (l : List Int) : Prop := w.ownsRow base 3 1 v l.length (l.map (Value.int .i64))

end Go.Proofs.Ytbcadklodjdokaa.C