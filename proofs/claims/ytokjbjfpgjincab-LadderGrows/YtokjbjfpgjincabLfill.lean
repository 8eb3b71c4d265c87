/-
  The landed ladder keeps what is asked of a ladder's package.
-/
import Derived.Test.YtokjbjfpgjincabPmay
import Derived.Test.YtokjbjfpgjincabPworld
set_option maxRecDepth 20000
namespace Go.Proofs.Ytokjbjfpgjincab
open Go.RowKit

theorem lspec : LSpec := ⟨may_c, radii_c, cap_c, world_c⟩
end Go.Proofs.Ytokjbjfpgjincab
