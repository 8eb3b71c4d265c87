/-
  Made; Diff of two that are alike; a chunk's bytes as a text.
-/
import Derived.Test.YtlllmmceoeihkaaGreatKAwake
import Derived.Test.YtlllmmceoeihkaaGreatKSame
namespace Go.Proofs.YtlllmmceoeihkaaGreat.K
open Go.RowKit
theorem Blk.conv {w:World} {g:Nat} {t:TypeId} {cs:List Int} (h:Blk w g t cs) (hl:cs.length=32768) (hk:Kinds cs):(convert 61 9 (.slice (some ⟨g,0,none⟩) 32768 32768)).run Tryz.prog w = .ok (.string (strOfNums cs)) w:=by
 have:=conv_c (cap:=32768) (h.src hk)
 rwa [hl] at this
theorem Kinds.bad {cs:List Int} (h:Kinds cs):∀ n,badTo cs n=false
 | 0=>rfl
 | n+1=>by
   unfold badTo
   rw [Kinds.bad h n,decide_eq_false (by have:=h.at n;omega)]
   rfl
theorem Kinds.may {cs:List Int} (h:Kinds cs) (hl:cs.length=32768):mayC cs=0:=by
 unfold mayC
 rw [hl,if_neg (by omega),if_neg (by omega),h.bad]
 rfl
end Go.Proofs.YtlllmmceoeihkaaGreat.K
