/-
  What comes in: numbers, a cell, a chunk's place, runs and numbers in a slice.
-/
import Derived.Test.YtbcadklodjdokaaRows
import Derived.Test.YtbcadklodjdokaaWpulls
import Derived.Test.YtbcadklodjdokaaWtwice
import Derived.SizedLaws
import Derived.ProofKit
import Derived.OpenShut
import Derived.ChangeOld
import Derived.Lib.SmallJoins
import Derived.Deep.Slices
import Derived.Deep.Strs
set_option maxRecDepth 20000
namespace Go.Proofs.Ytbcadklodjdokaa
open C Go.ChangeShapes Go.WideShapes Go.ChangeAt Go.RowKit Go.Joins Go.Deep

theorem own : ownKnob Try.prog.godebug = none := by kernel_rfl
theorem laidOut : laidOutB Try.prog = true := by kernel_rfl
theorem cells30 : Try.prog.cellsOf 30 = 2 := by kernel_rfl
theorem cells24 : Try.prog.cellsOf 24 = 3 := by kernel_rfl
theorem cells64 : Try.prog.cellsOf 64 = 2 := by kernel_rfl
theorem cells3 : Try.prog.cellsOf 3 = 1 := by kernel_rfl
theorem bdu64 {x : Int} (h : (Lit.int .u64 x).wf = true) : 0 ≤ x ∧ x ≤ 18446744073709551615 := by
  simp [Lit.wf, IntKind.min, IntKind.max, IntKind.bits, IntKind.signed] at h
  omega
theorem bd64 {x : Int} (h : (Lit.int .i64 x).wf = true) : -9223372036854775808 ≤ x ∧ x ≤ 9223372036854775807 := by
  simp [Lit.wf, IntKind.min, IntKind.max, IntKind.bits, IntKind.signed] at h
  omega
theorem nat64 {s : Int} (hs : 0 ≤ s ∧ s ≤ 18446744073709551615) : ∃ S : Nat, s = (S : Int) ∧ S < 18446744073709551616 := ⟨s.toNat, by omega, by omega⟩
section
variable {H : Type} {enc : TypeId × Value → H} {w : World} {base : Nat} {spare : Nat → Bool} {held : Bool}
theorem one_int {n : Nat} {v : Value} {y : DataW H × List MemPlace} (h : DataW.trod enc Try.prog w base spare held n 3 [v] = some y) : ∃ x, v = .int .i64 x := by
  obtain ⟨a, e, _, _⟩ := DataW.trod_int Try.underlying3 h
  simp at e
  exact ⟨a, e⟩
/-- A chunk's place that came in. -/
theorem in_at {r : Reach} {b0 : Nat} {v : Value} {d : DataW H} {p : List MemPlace} (hv : Value.okWide Try.prog w r b0 30 v) (h : DataW.Trod enc Try.prog w base spare held 30 v d p) : ∃ x z : Int, v = .agg #[.int .i64 x, .int .i64 z] ∧ True := by
  obtain ⟨cs, rfl, hsz⟩ := okWide_struct Try.underlying30 hv
  rw [cells30] at hsz
  obtain ⟨fuel, hf⟩ := h
  obtain ⟨y0, y1, k, hag, hl, t0, t1⟩ := trod_struct2 Try.underlying30 hf
  obtain ⟨l⟩ := cs
  simp only [Value.cells] at hl t0 t1
  rw [cells30] at hl
  match l, hl with
  | [v0, v1], _ =>
    simp only [cells3, List.drop_zero, List.drop_succ_cons, List.take_succ_cons, List.take_zero] at t0 t1
    obtain ⟨x, rfl⟩ := one_int t0
    obtain ⟨z, rfl⟩ := one_int t1
    exact ⟨x, z, rfl, trivial⟩
/-- A cell that came in. -/
theorem in_pos {r : Reach} {b0 : Nat} {v : Value} {d : DataW H} {p : List MemPlace} (hv : Value.okWide Try.prog w r b0 24 v) (h : DataW.Trod enc Try.prog w base spare held 24 v d p) : ∃ x y z : Int, v = .agg #[.int .i64 x, .int .i64 y, .int .i64 z] ∧ True := by
  obtain ⟨cs, rfl, hsz⟩ := okWide_struct Try.underlying24 hv
  rw [cells24] at hsz
  obtain ⟨fuel, hf⟩ := h
  obtain ⟨y0, y1, y2, k, hag, hl, t0, t1, t2⟩ := trod_struct3 Try.underlying24 hf
  obtain ⟨l⟩ := cs
  simp only [Value.cells] at hl t0 t1 t2
  rw [cells24] at hl
  match l, hl with
  | [v0, v1, v2], _ =>
    simp only [cells3, List.drop_zero, List.drop_succ_cons, List.take_succ_cons, List.take_zero] at t0 t1 t2
    obtain ⟨x, rfl⟩ := one_int t0
    obtain ⟨y, rfl⟩ := one_int t1
    obtain ⟨z, rfl⟩ := one_int t2
    exact ⟨x, y, z, rfl, trivial⟩
theorem two_ints {n : Nat} {cs : List Value} {y : DataW H × List MemPlace} (h : DataW.trod enc Try.prog w base spare held n 64 cs = some y) : ∃ x z, cs = [.int .i64 x, .int .i64 z] := by
  obtain ⟨y0, y1, m, _, hl, h0, h1⟩ := trod_struct2 Try.underlying64 h
  rw [cells64] at hl
  match cs, hl with
  | [c0, c1], _ =>
    simp only [cells3, List.drop_zero, List.drop_succ_cons, List.take_succ_cons, List.take_zero] at h0 h1
    obtain ⟨d, rfl⟩ := one_int h0
    obtain ⟨a, rfl⟩ := one_int h1
    exact ⟨d, a, rfl⟩
/-- Runs that came in. -/
theorem open_runs {a : Option Addr} {len cap : Nat} {d : DataW H} {p : List MemPlace} (h : DataW.Trod enc Try.prog w base spare held 31 (.slice a len cap) d p) : Runs w a len := by
  obtain ⟨fuel, hf⟩ := h
  rcases open_slice Try.underlying31 hf with ⟨hcs, _⟩ | ⟨x, len', cap', m, n, D, Pl, hcs, _, hl, _, hm, _, hx⟩
  · simp [Value.cells] at hcs
    obtain ⟨rfl, rfl, rfl⟩ := hcs
    exact fun k hk => absurd hk (Nat.not_lt_zero _)
  · simp [Value.cells] at hcs
    obtain ⟨rfl, rfl, rfl⟩ := hcs
    have hlm : len ≤ m := by rw [hm]; split <;> omega
    have each : ∀ i, i < len → ∃ q r : Int, w.cell? (x.add (i * 2)) = some (.int .i64 q) ∧ w.cell? (x.add (i * 2 + 1)) = some (.int .i64 r) := by
      intro i hi
      obtain ⟨cs', h1, h2⟩ := hx i (by omega)
      obtain ⟨q, r, rfl⟩ := two_ints h2
      rw [cells64] at h1
      obtain ⟨_, _, hcell⟩ := World.cells?_some h1
      have e0 := hcell 0 (by simp)
      have e1 := hcell 1 (by simp)
      rw [add_add] at e0 e1
      exact ⟨q, r, by simpa using e0, by simpa using e1⟩
    intro i hi
    obtain ⟨q, r, c0, c1⟩ := each i hi
    obtain ⟨b, off, spot⟩ := x
    have hs : spot = none := by
      obtain ⟨_, _, z0, _⟩ := each 0 (by omega)
      simpa [Addr.add] using World.cell?_spot z0
    subst hs
    rw [Addr.add_mid] at c0 c1
    exact ⟨b, off, q, r, rfl, World.block_lt_of_cell? w _ c0, c0, c1⟩
/-- Numbers that came in. -/
theorem open_nums {a : Option Addr} {len cap : Nat} {d : DataW H} {p : List MemPlace} (h : DataW.Trod enc Try.prog w base spare held 32 (.slice a len cap) d p) : Nums w a len := by
  obtain ⟨fuel, hf⟩ := h
  rcases open_slice1 Try.underlying32 (by kernel_rfl) hf with ⟨hcs, _⟩ | ⟨x, len', cap', m, n, V, D, Pl, hcs, _, hl, _, hm, _, hx⟩
  · simp [Value.cells] at hcs
    obtain ⟨rfl, rfl, rfl⟩ := hcs
    exact fun k hk => absurd hk (Nat.not_lt_zero _)
  · simp [Value.cells] at hcs
    obtain ⟨rfl, rfl, rfl⟩ := hcs
    have hlm : len ≤ m := by rw [hm]; split <;> omega
    have each : ∀ i, i < len → ∃ q : Int, w.cell? (x.add i) = some (.int .i64 q) := by
      intro i hi
      obtain ⟨h1, h2⟩ := hx i (by omega)
      obtain ⟨q, e, _, hw⟩ := DataW.trod_int Try.underlying3 h2
      simp at e
      rw [e] at h1
      exact ⟨q, h1⟩
    intro i hi
    obtain ⟨q, c0⟩ := each i hi
    obtain ⟨b, off, spot⟩ := x
    have hs : spot = none := by
      obtain ⟨_, z0⟩ := each 0 (by omega)
      simpa [Addr.add] using World.cell?_spot z0
    subst hs
    rw [Addr.add_mid] at c0
    exact ⟨b, off, q, rfl, World.block_lt_of_cell? w _ c0, c0⟩
end
end Go.Proofs.Ytbcadklodjdokaa
