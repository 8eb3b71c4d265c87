/-
  What comes in: numbers, a chunk's place.
-/
import Derived.Test.YtbbhnhmheakapaaRows
import Derived.Test.YtbbhnhmheakapaaHmaps
import Derived.Test.YtbbhnhmheakapaaHmeets
import Derived.SizedLaws
import Derived.ProofKit
import Derived.OpenShut
import Derived.ChangeOld
import Derived.Lib.SmallJoins
import Derived.Deep.Slices
import Derived.Deep.Strs
set_option maxRecDepth 20000
namespace Go.Proofs.Ytbbhnhmheakapaa
open Go.ChangeShapes Go.WideShapes Go.ChangeAt Go.RowKit Go.Joins Go.Deep

theorem own : ownKnob Try.prog.godebug = none := by kernel_rfl
theorem laidOut : laidOutB Try.prog = true := by kernel_rfl
theorem cells27 : Try.prog.cellsOf 27 = 2 := by kernel_rfl
theorem cells3 : Try.prog.cellsOf 3 = 1 := by kernel_rfl
theorem bdu64 {x : Int} (h : (Lit.int .u64 x).wf = true) : 0 ≤ x ∧ x ≤ 18446744073709551615 := by
  simp [Lit.wf, IntKind.min, IntKind.max, IntKind.bits, IntKind.signed] at h
  omega
section
variable {H : Type} {enc : TypeId × Value → H} {w : World} {base : Nat} {spare : Nat → Bool} {held : Bool}
theorem bd64 {x : Int} (h : (Lit.int .i64 x).wf = true) : I64 x := by
  simp [Lit.wf, IntKind.min, IntKind.max, IntKind.bits, IntKind.signed] at h
  unfold I64
  omega
theorem one_int {n : Nat} {v : Value} {y : DataW H × List MemPlace} (h : DataW.trod enc Try.prog w base spare held n 3 [v] = some y) : ∃ x, v = .int .i64 x ∧ I64 x := by
  obtain ⟨a, e, _, hw⟩ := DataW.trod_int Try.underlying3 h
  simp at e
  exact ⟨a, e, bd64 hw⟩
/-- A chunk's place that came in. -/
theorem in_at {r : Reach} {b0 : Nat} {v : Value} {d : DataW H} {p : List MemPlace} (hv : Value.okWide Try.prog w r b0 27 v) (h : DataW.Trod enc Try.prog w base spare held 27 v d p) : ∃ x z : Int, v = .agg #[.int .i64 x, .int .i64 z] ∧ I64 x ∧ I64 z := by
  obtain ⟨cs, rfl, hsz⟩ := okWide_struct Try.underlying27 hv
  rw [cells27] at hsz
  obtain ⟨fuel, hf⟩ := h
  obtain ⟨y0, y1, k, hag, hl, t0, t1⟩ := trod_struct2 Try.underlying27 hf
  obtain ⟨l⟩ := cs
  simp only [Value.cells] at hl t0 t1
  rw [cells27] at hl
  match l, hl with
  | [v0, v1], _ =>
    simp only [cells3, List.drop_zero, List.drop_succ_cons, List.take_succ_cons, List.take_zero] at t0 t1
    obtain ⟨x, rfl, hx⟩ := one_int t0
    obtain ⟨z, rfl, hz⟩ := one_int t1
    exact ⟨x, z, rfl, hx, hz⟩
end
end Go.Proofs.Ytbbhnhmheakapaa
