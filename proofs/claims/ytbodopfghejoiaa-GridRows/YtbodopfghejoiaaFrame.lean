/-
  What the proofs of this seat's statements share: what comes in, number by number.
-/
import Derived.Test.YtbodopfghejoiaaRows
import Derived.Test.YtbodopfghejoiaaAwake
import Derived.ProofKit
import Derived.OpenShut
import Derived.ChangeOld
import Derived.Lib.SmallJoins
namespace Go.Proofs.Ytbodopfghejoiaa
open Go.ChangeShapes Go.WideShapes Go.ChangeAt Go.RowKit Go.Joins Go.Deep

theorem own : ownKnob Try.prog.godebug = none := by kernel_rfl
theorem laidOut : laidOutB Try.prog = true := by kernel_rfl
theorem bd64 {x : Int} (h : (Lit.int .i64 x).wf = true) : -9223372036854775808 ≤ x ∧ x ≤ 9223372036854775807 := by
  simp [Lit.wf, IntKind.min, IntKind.max, IntKind.bits, IntKind.signed] at h
  omega
/-- A number that 64 bits hold. -/
abbrev B64 (x : Int) : Prop := -9223372036854775808 ≤ x ∧ x ≤ 9223372036854775807

section
variable {H : Type} {enc : TypeId × Value → H} {w : World} {base : Nat} {spare : Nat → Bool} {held : Bool}
theorem cells23 : Try.prog.cellsOf 23 = 3 := by kernel_rfl
theorem cells27 : Try.prog.cellsOf 27 = 2 := by kernel_rfl
theorem cells33 : Try.prog.cellsOf 33 = 6 := by kernel_rfl
theorem array6 {α : Type} {cs : Array α} (h : cs.size = 6) : ∃ c0 c1 c2 c3 c4 c5, cs = #[c0, c1, c2, c3, c4, c5] := by
  obtain ⟨l⟩ := cs
  match l, h with
  | [c0, c1, c2, c3, c4, c5], _ => exact ⟨c0, c1, c2, c3, c4, c5, rfl⟩
theorem one_int {n : Nat} {v : Value} {y : DataW H × List MemPlace} (h : DataW.trod enc Try.prog w base spare held n 3 [v] = some y) : ∃ x, v = .int .i64 x ∧ B64 x := by
  obtain ⟨a, e, _, wa⟩ := DataW.trod_int Try.underlying3 h
  simp at e
  exact ⟨a, e, bd64 wa⟩
theorem open_pos {r : Reach} {b0 : Nat} {v : Value} {d : DataW H} {p : List MemPlace} (hv : Value.okWide Try.prog w r b0 23 v) (h : DataW.Trod enc Try.prog w base spare held 23 v d p) :
    ∃ x y z, v = .agg #[.int .i64 x, .int .i64 y, .int .i64 z] ∧ B64 x ∧ B64 y ∧ B64 z := by
  obtain ⟨c0, c1, c2, y0, y1, y2, m, rfl, _, _, h0, h1, h2⟩ := open_agg3 Try.underlying23 (by kernel_rfl) cells23 hv h
  obtain ⟨x, rfl, bx⟩ := one_int h0
  obtain ⟨y, rfl, by'⟩ := one_int h1
  obtain ⟨z, rfl, bz⟩ := one_int h2
  exact ⟨x, y, z, rfl, bx, by', bz⟩
theorem open_at {r : Reach} {b0 : Nat} {v : Value} {d : DataW H} {p : List MemPlace} (hv : Value.okWide Try.prog w r b0 27 v) (h : DataW.Trod enc Try.prog w base spare held 27 v d p) :
    ∃ x z, v = .agg #[.int .i64 x, .int .i64 z] ∧ B64 x ∧ B64 z := by
  obtain ⟨c0, c1, y0, y1, m, rfl, _, _, h0, h1⟩ := open_agg2 Try.underlying27 (by kernel_rfl) cells27 hv h
  obtain ⟨x, rfl, bx⟩ := one_int h0
  obtain ⟨z, rfl, bz⟩ := one_int h1
  exact ⟨x, z, rfl, bx, bz⟩
theorem three_ints {n : Nat} {c0 c1 c2 : Value} {y : DataW H × List MemPlace} (h : DataW.trod enc Try.prog w base spare held n 23 [c0, c1, c2] = some y) :
    ∃ x y z, c0 = .int .i64 x ∧ c1 = .int .i64 y ∧ c2 = .int .i64 z ∧ B64 x ∧ B64 y ∧ B64 z := by
  obtain ⟨y0, y1, y2, m, _, _, h0, h1, h2⟩ := trod_struct3 Try.underlying23 h
  have c3 : Try.prog.cellsOf 3 = 1 := by kernel_rfl
  simp only [c3, List.drop_zero, List.drop_succ_cons, List.take_succ_cons, List.take_zero] at h0 h1 h2
  obtain ⟨x, rfl, bx⟩ := one_int h0
  obtain ⟨y, rfl, by'⟩ := one_int h1
  obtain ⟨z, rfl, bz⟩ := one_int h2
  exact ⟨x, y, z, rfl, rfl, rfl, bx, by', bz⟩
theorem open_box {r : Reach} {b0 : Nat} {v : Value} {d : DataW H} {p : List MemPlace} (hv : Value.okWide Try.prog w r b0 33 v) (h : DataW.Trod enc Try.prog w base spare held 33 v d p) :
    ∃ a1 a2 a3 b1 b2 b3, v = .agg #[.int .i64 a1, .int .i64 a2, .int .i64 a3, .int .i64 b1, .int .i64 b2, .int .i64 b3] ∧ B64 a1 ∧ B64 a2 ∧ B64 a3 ∧ B64 b1 ∧ B64 b2 ∧ B64 b3 := by
  obtain ⟨cs, rfl, hsz⟩ := okWide_struct Try.underlying33 hv
  obtain ⟨c0, c1, c2, c3, c4, c5, rfl⟩ := array6 (hsz.trans cells33)
  obtain ⟨fuel, hf⟩ := h
  obtain ⟨y0, y1, n, _, _, h0, h1⟩ := trod_struct2 Try.underlying33 hf
  simp only [cells23, Value.cells, List.drop_zero, List.drop_succ_cons, List.take_succ_cons, List.take_zero] at h0 h1
  obtain ⟨a1, a2, a3, rfl, rfl, rfl, p1, p2, p3⟩ := three_ints h0
  obtain ⟨b1, b2, b3, rfl, rfl, rfl, q1, q2, q3⟩ := three_ints h1
  exact ⟨a1, a2, a3, b1, b2, b3, rfl, p1, p2, p3, q1, q2, q3⟩
end
end Go.Proofs.Ytbodopfghejoiaa
