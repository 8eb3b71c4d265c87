/-
  The program's disk: Len, Read.
-/
import Derived.Test.YtdjhlpllffakpaaPdisk
import Derived.Deep.QuietTactic
import Derived.BigQuiet
set_option maxRecDepth 20000
namespace Go.Proofs.Ytdjhlpllffakpaa
open Go.RowKit Go.Maps

theorem zero88 (w : World) : (zeroValue 88).run Try.prog w = .ok (.agg (vals (List.replicate 32 0))) w := by kernel_rfl
theorem zero3 (w : World) : (zeroValue 3).run Try.prog w = .ok (.int .i64 0) w := by kernel_rfl
theorem PD.lookLen {F : Nat → Prop} {w : World} {g : Nat} {S : St} {mb ml : Option Nat} (h : PD F w g S mb ml) (f : Fl) (hf : I64F f) :
    (Instr.lookup 64 (.map ml) (valF f) false).run Try.prog w = .ok (.int .i64 (lenOf (at_ S.l) f)) w := by
  rcases h.maps with ⟨_, rfl, h3⟩ | ⟨b, l, Db, Dl, _, rfl, _, h4, h5, _⟩
  · rw [look_nil false lawF Try.underlying64 (zero3 w) (keyF f hf), h3]
    rfl
  · obtain ⟨c, hrun, hat, _⟩ := h4.lookup_int lawF Try.underlying64 Try.underlying3 (zero3 w) (keyF f hf)
    rw [h5.len f hf] at hat
    simp only [DataW.lit.injEq, Lit.int.injEq, true_and] at hat
    rw [hrun, hat]
theorem PD.lookBlk {F : Nat → Prop} {w : World} {g : Nat} {S : St} {mb ml : Option Nat} (h : PD F w g S mb ml) (f : Fl) (i : Int) (hf : I64F f) (hi : I64 i) :
    (Instr.lookup 63 (.map mb) (valP f i) false).run Try.prog w = .ok (.agg (vals ((Go.Proofs.Ytdjhlpllffakpaa.has S.l f i).getD (List.replicate 32 0)))) w := by
  rcases h.maps with ⟨rfl, _, h3⟩ | ⟨b, l, Db, Dl, rfl, _, h4, _, h5, _⟩
  · rw [look_nil false lawP Try.underlying63 (zero88 w) (keyP f i hf hi), h3]
    rfl
  · obtain ⟨v, ps, hrun, hv⟩ := h4.lookup lawP Try.underlying63 (zero88 w) (blkElem_mk (by simp)) (keyP f i hf hi)
    rw [h5.blk f i hf hi] at hv
    obtain ⟨l, rfl, _, he⟩ := blkElem_inv hv
    simp only [Prod.mk.injEq] at he
    rw [hrun, dat_inj he.1]

end Go.Proofs.Ytdjhlpllffakpaa
