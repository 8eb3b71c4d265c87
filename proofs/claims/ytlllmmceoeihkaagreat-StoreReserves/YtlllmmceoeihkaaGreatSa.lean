/-
  The document's store: what it knows of chunks (plain).
-/
import Derived.Test.YtlllmmceoeihkaaGreatKAll
import Derived.Below
set_option maxRecDepth 20000
namespace Go.Proofs.YtlllmmceoeihkaaGreat.Z
open K
structure Km where
 x : Int
 z : Int
 a : Option Addr
 c : Nat
 b : List Int
 m : Nat
def noneB (b : List Int) : Bool := b.all fun y => decide (y = 16)
end Go.Proofs.YtlllmmceoeihkaaGreat.Z
