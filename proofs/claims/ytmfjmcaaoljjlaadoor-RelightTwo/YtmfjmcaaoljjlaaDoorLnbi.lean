/-
  A neighbour as the document tells it: -1 for none.
-/
import Derived.Test.YtmfjmcaaoljjlaaDoorLbase
set_option maxRecDepth 20000
namespace Go.Proofs.YtmfjmcaaoljjlaaDoor
open C Go.RowKit L

def nbI (W D T i w : Nat) : Int := match nbr W D T i w with
  | some j => (j : Int)
  | none => -1
end Go.Proofs.YtmfjmcaaoljjlaaDoor
