/-
  Made; Diff of two that are alike; a chunk's bytes as a text.
-/
import Derived.Test.YtlllmmceoeihkaaGreatKAwake
import Derived.Test.YtlllmmceoeihkaaGreatKSame
namespace Go.Proofs.YtlllmmceoeihkaaGreat.K
open Go.RowKit
theorem Blk.conv {w:World} {g:Nat} {t:TypeId} {cs:List Int} (h:Blk w g t cs) (hl:cs.length=32768) (hk:Kinds cs):(convert 61 9 (.slice (some ⟨g,0,none⟩) 32768 32768)).run Tryz.prog w = .ok (.string (strOfNums cs)) w:=by
 have:=conv_c (cap:=32768) (h.src hk)
 rwa [hl] at this
end Go.Proofs.YtlllmmceoeihkaaGreat.K
