/-
  The program's disk: Len, Read.
-/
import Derived.Test.YtfpcfgfpebdplaaPdisk
import Derived.Deep.QuietTactic
import Derived.BigQuiet
namespace Go.Proofs.Ytfpcfgfpebdplaa
open Go.RowKit Go.Maps

theorem zero66 (w : World) : (zeroValue 66).run Try.prog w = .ok (.agg (vals (List.replicate 32 0))) w := by kernel_rfl
theorem zero3 (w : World) : (zeroValue 3).run Try.prog w = .ok (.int .i64 0) w := by kernel_rfl
theorem PD.lookLen {F : Nat → Prop} {w : World} {g : Nat} {S : St} {mb ml : Option Nat} (h : PD F w g S mb ml) (f : Fl) (hf : I64F f) :
    (Instr.lookup 53 (.map ml) (valF f) false).run Try.prog w = .ok (.int .i64 (lenOf (at_ S.l) f)) w := by
  rcases h.maps with ⟨_, rfl, h3⟩ | ⟨b, l, Db, Dl, _, rfl, _, h4, h5, _⟩
  · rw [look_nil false lawF Try.underlying53 (zero3 w) (keyF f hf), h3]
    rfl
  · obtain ⟨c, hrun, hat, _⟩ := h4.lookup_int lawF Try.underlying53 Try.underlying3 (zero3 w) (keyF f hf)
    rw [h5.len f hf] at hat
    simp only [DataW.lit.injEq, Lit.int.injEq, true_and] at hat
    rw [hrun, hat]
theorem PD.lookBlk {F : Nat → Prop} {w : World} {g : Nat} {S : St} {mb ml : Option Nat} (h : PD F w g S mb ml) (f : Fl) (i : Int) (hf : I64F f) (hi : I64 i) :
    (Instr.lookup 52 (.map mb) (valP f i) false).run Try.prog w = .ok (.agg (vals ((Go.Proofs.Ytfpcfgfpebdplaa.has S.l f i).getD (List.replicate 32 0)))) w := by
  rcases h.maps with ⟨rfl, _, h3⟩ | ⟨b, l, Db, Dl, rfl, _, h4, _, h5, _⟩
  · rw [look_nil false lawP Try.underlying52 (zero66 w) (keyP f i hf hi), h3]
    rfl
  · obtain ⟨v, ps, hrun, hv⟩ := h4.lookup lawP Try.underlying52 (zero66 w) (blkElem_mk (by simp)) (keyP f i hf hi)
    rw [h5.blk f i hf hi] at hv
    obtain ⟨l, rfl, _, he⟩ := blkElem_inv hv
    simp only [Prod.mk.injEq] at he
    rw [hrun, dat_inj he.1]

theorem len_c (F : Nat → Prop) (g : Nat) (S : St) (f1 f2 f3 : Int) (hf : I64F (f1, f2, f3)) (w : World) (hD : PDisk F w g S) :
    Calls Try.prog 16 #[.pointer (some ⟨g, 0, none⟩), .agg #[.int .i64 f1, .int .i64 f2, .int .i64 f3]] w fun e w' => e = .returned (.int .i64 (lenOf (at_ S.l) (f1, f2, f3))) ∧ Below w.heap.size w w' := by
  obtain ⟨mb, ml, hD⟩ := hD
  obtain ⟨hb0, x0, x1, x2⟩ := box_new w f1 f2 f3
  have HD := hD.inside hb0
  obtain ⟨_, c1, _⟩ := HD.cells
  have hl : ∀ n, (Instr.lookup 53 (.map ml) (.agg #[.int .i64 f1, .int .i64 f2, .int .i64 f3]) false).run Try.prog ((w.alloc (.cells #[.int .i64 f1, .int .i64 f2, .int .i64 f3] 30)).drewN n) = .ok (.int .i64 (lenOf (at_ S.l) (f1, f2, f3))) ((w.alloc (.cells #[.int .i64 f1, .int .i64 f2, .int .i64 f3] 30)).drewN n) :=
    fun n => (HD.keep (w' := (w.alloc (.cells #[.int .i64 f1, .int .i64 f2, .int .i64 f3] 30)).drewN n) (fun _ _ => rfl)).lookLen (f1, f2, f3) hf
  have HB : Hid (∀ n, Below w.heap.size w ((w.alloc (.cells #[.int .i64 f1, .int .i64 f2, .int .i64 f3] 30)).drewN n)) := fun n => ⟨hb0.os, hb0.tape, hb0.output, hb0.size, hb0.block⟩
  generalize lenOf (at_ S.l) (f1, f2, f3) = L at *
  clear hD HD hb0
  go_enter Try.func16, Try.ntmps16
  go_upto_region 1 with fail
  generalize w.alloc (.cells #[.int .i64 f1, .int .i64 f2, .int .i64 f3] 30) = w0 at *
  go_wp2
  go_quiet (fail)
  go_wp2
  go_ret
  exact ⟨rfl, HB.out _⟩
end Go.Proofs.Ytfpcfgfpebdplaa
