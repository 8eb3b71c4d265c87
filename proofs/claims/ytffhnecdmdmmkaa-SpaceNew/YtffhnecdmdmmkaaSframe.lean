/-
  What comes in: calls in a slice, whole numbers in a slice.
-/
import Derived.Test.YtffhnecdmdmmkaaRows
import Derived.Test.YtffhnecdmdmmkaaSboth
import Derived.ProofKit
import Derived.OpenShut
import Derived.ChangeOld
import Derived.Lib.SmallJoins
import Derived.Deep.Slices
import Derived.Deep.Strs
import Derived.SizedLaws
set_option maxRecDepth 20000
namespace Go.Proofs.Ytffhnecdmdmmkaa
open Go.ChangeShapes Go.WideShapes Go.ChangeAt Go.RowKit Go.Joins Go.Deep

theorem own : ownKnob Try.prog.godebug = none := by kernel_rfl
theorem laidOut : laidOutB Try.prog = true := by kernel_rfl
theorem bd64 {x : Int} (h : (Lit.int .i64 x).wf = true) : I64 x := by
  unfold I64
  simp [Lit.wf, IntKind.min, IntKind.max, IntKind.bits, IntKind.signed] at h
  omega
theorem cells36 : Try.prog.cellsOf 36 = 4 := by kernel_rfl
theorem cells34 : Try.prog.cellsOf 34 = 2 := by kernel_rfl
theorem cells3 : Try.prog.cellsOf 3 = 1 := by kernel_rfl
section
variable {H : Type} {enc : TypeId × Value → H} {w : World} {base : Nat} {spare : Nat → Bool} {held : Bool}
theorem one_int {n : Nat} {v : Value} {y : DataW H × List MemPlace} (h : DataW.trod enc Try.prog w base spare held n 3 [v] = some y) : ∃ x, v = .int .i64 x ∧ I64 x := by
  obtain ⟨a, e, _, hw⟩ := DataW.trod_int Try.underlying3 h
  simp at e
  exact ⟨a, e, bd64 hw⟩
theorem one_span {n : Nat} {v0 v1 : Value} {y : DataW H × List MemPlace} (h : DataW.trod enc Try.prog w base spare held n 34 [v0, v1] = some y) : ∃ f m, v0 = .int .i64 f ∧ v1 = .int .i64 m ∧ I64 f ∧ I64 m := by
  obtain ⟨y0, y1, k, _, _, h0, h1⟩ := trod_struct2 Try.underlying34 h
  simp only [cells3, List.drop_zero, List.drop_succ_cons, List.take_succ_cons, List.take_zero] at h0 h1
  obtain ⟨f, rfl, hf⟩ := one_int h0
  obtain ⟨m, rfl, hm⟩ := one_int h1
  exact ⟨f, m, rfl, rfl, hf, hm⟩
theorem one_op {n : Nat} {cs : List Value} {y : DataW H × List MemPlace} (h : DataW.trod enc Try.prog w base spare held n 36 cs = some y) : ∃ x : Int × Int × Int × Int, cs = [.int .i64 x.1, .int .i64 x.2.1, .int .i64 x.2.2.1, .int .i64 x.2.2.2] ∧ I64 x.1 ∧ I64 x.2.1 ∧ I64 x.2.2.1 ∧ I64 x.2.2.2 := by
  obtain ⟨y0, y1, y2, k, _, hl, h0, h1, h2⟩ := trod_struct3 Try.underlying36 h
  rw [cells36] at hl
  match cs, hl with
  | [c0, c1, c2, c3], _ =>
    simp only [cells3, cells34, List.drop_zero, List.drop_succ_cons, List.take_succ_cons, List.take_zero] at h0 h1 h2
    obtain ⟨a, rfl, ha⟩ := one_int h0
    obtain ⟨b, rfl, hb⟩ := one_int h1
    obtain ⟨c, d, rfl, rfl, hc, hd⟩ := one_span h2
    exact ⟨(a, b, c, d), rfl, ha, hb, hc, hd⟩
theorem in_ints {a : Option Addr} {len cap : Nat} {d : DataW H} {p : List MemPlace} (h : DataW.Trod enc Try.prog w base spare held 43 (.slice a len cap) d p) : len ≤ maxLen ∧ IntsIn w a len := by
  obtain ⟨fuel, hf⟩ := h
  rcases open_slice1 Try.underlying43 (by kernel_rfl) hf with ⟨hcs, _⟩ | ⟨x, len', cap', m, n, V, D, Pl, hcs, _, hl, hcap, hm, hy, hx⟩
  · simp [Value.cells] at hcs
    obtain ⟨rfl, rfl, rfl⟩ := hcs
    exact ⟨Nat.zero_le _, fun k hk => absurd hk (Nat.not_lt_zero _)⟩
  · simp [Value.cells] at hcs
    obtain ⟨rfl, rfl, rfl⟩ := hcs
    have hlm : len ≤ m := by rw [hm]; split <;> omega
    refine ⟨by omega, fun k hk => ?_⟩
    obtain ⟨h1, h2⟩ := hx k (by omega)
    obtain ⟨q, e, hq⟩ := one_int h2
    rw [e] at h1
    obtain ⟨b, off, spot⟩ := x
    have hs : spot = none := by
      obtain ⟨z0, _⟩ := hx 0 (by omega)
      simpa [Addr.add] using World.cell?_spot z0
    subst hs
    rw [Addr.add_mid] at h1
    exact ⟨b, off, q, rfl, hq, h1⟩
theorem in_ops {a : Option Addr} {len cap : Nat} {d : DataW H} {p : List MemPlace} (h : DataW.Trod enc Try.prog w base spare held 32 (.slice a len cap) d p) : len ≤ maxLen ∧ OpsIn w a len := by
  obtain ⟨fuel, hf⟩ := h
  rcases open_slice Try.underlying32 hf with ⟨hcs, _⟩ | ⟨x, len', cap', m, n, D, Pl, hcs, _, hl, hcap, hm, _, hx⟩
  · simp [Value.cells] at hcs
    obtain ⟨rfl, rfl, rfl⟩ := hcs
    exact ⟨Nat.zero_le _, fun k hk => absurd hk (Nat.not_lt_zero _)⟩
  · simp [Value.cells] at hcs
    obtain ⟨rfl, rfl, rfl⟩ := hcs
    have hlm : len ≤ m := by rw [hm]; split <;> omega
    refine ⟨by omega, fun k hk => ?_⟩
    obtain ⟨cs', h1, h2⟩ := hx k (by omega)
    obtain ⟨q, rfl, hb⟩ := one_op h2
    rw [cells36] at h1
    obtain ⟨_, _, hcell⟩ := World.cells?_some h1
    have e0 := hcell 0 (by simp)
    have e1 := hcell 1 (by simp)
    have e2 := hcell 2 (by simp)
    have e3 := hcell 3 (by simp)
    rw [add_add] at e0 e1 e2 e3
    obtain ⟨b, off, spot⟩ := x
    have hs : spot = none := by
      obtain ⟨cs0, z1, z2⟩ := hx 0 (by omega)
      obtain ⟨q0, rfl, _⟩ := one_op z2
      rw [cells36] at z1
      obtain ⟨_, _, zc⟩ := World.cells?_some z1
      have z0 := zc 0 (by simp)
      rw [add_add] at z0
      simpa [Addr.add] using World.cell?_spot z0
    subst hs
    simp only [Addr.add_mid] at e0 e1 e2 e3
    exact ⟨b, off, q, rfl, ⟨by simpa using e0, by simpa [Nat.add_assoc] using e1, by simpa [Nat.add_assoc] using e2, by simpa [Nat.add_assoc] using e3, hb⟩⟩
end
end Go.Proofs.Ytffhnecdmdmmkaa
