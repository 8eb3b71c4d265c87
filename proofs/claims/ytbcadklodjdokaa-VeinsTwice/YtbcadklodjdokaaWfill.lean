/-
  What is asked of a veins' package, of the landed one.
-/
import Derived.Test.YtbcadklodjdokaaPapp
set_option maxRecDepth 20000
namespace Go.Proofs.Ytbcadklodjdokaa
open C Go.RowKit

def wspec : WSpec where
  G := fun _ => True
  on := fun _ _ => trivial
  of_ := fun S x y z w hS hx hy hz _ => of_c S x y z w hS hx hy hz
  apply_ := fun S cx cz g cs w hS hx hz hG hl hk _ => apply_c S cx cz g cs w hS hx hz hG hl hk
  no_ := fun S cx cz w _ _ _ _ => apply_no S cx cz w
theorem wspec_any (W : World) : wspec.G W := trivial
end Go.Proofs.Ytbcadklodjdokaa
