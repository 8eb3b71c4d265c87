/-
  The landed ladder keeps what is asked of a ladder's package.
-/
import Derived.Test.YtokjbjfpgjincaaPadd
import Derived.Test.YtokjbjfpgjincaaPworld
set_option maxRecDepth 20000
namespace Go.Proofs.Ytokjbjfpgjincaa
open Go.RowKit

theorem lspec : LSpec := ⟨may_c, radii_c, cap_c, tasksP_c, needs_c, world_c⟩
end Go.Proofs.Ytokjbjfpgjincaa
