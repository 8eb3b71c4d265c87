/-
  What comes in: numbers, runs, Sets.
-/
import Derived.Test.YthanmgejgmhccaaRows
import Derived.Test.YthanmgejgmhccaaCGiven
import Derived.SizedLaws
import Derived.ProofKit
import Derived.OpenShut
import Derived.ChangeOld
import Derived.Lib.SmallJoins
import Derived.Deep.Slices
import Derived.Deep.Strs
set_option maxRecDepth 20000
namespace Go.Proofs.Ythanmgejgmhccaa
open C Go.ChangeShapes Go.WideShapes Go.ChangeAt Go.RowKit Go.Joins Go.Deep

theorem own : ownKnob Try.prog.godebug = none := by kernel_rfl
theorem laidOut : laidOutB Try.prog = true := by kernel_rfl
theorem cells_op : Try.prog.cellsOf 31 = 3 := by kernel_rfl
theorem cells_run : Try.prog.cellsOf 60 = 2 := by kernel_rfl
theorem cells3 : Try.prog.cellsOf 3 = 1 := by kernel_rfl
/-- The number in a cell. -/
def numAt (w : World) (b o : Nat) : Int := match w.cell? ⟨b, o, none⟩ with
  | some (.int _ x) => x
  | _ => 0
section
variable {H : Type} {enc : TypeId × Value → H} {w : World} {base : Nat} {spare : Nat → Bool} {held : Bool}
theorem one_int {n : Nat} {v : Value} {y : DataW H × List MemPlace} (h : DataW.trod enc Try.prog w base spare held n 3 [v] = some y) : ∃ x, v = .int .i64 x ∧ (Lit.int .i64 x).wf = true := by
  obtain ⟨a, e, _, hw⟩ := DataW.trod_int Try.underlying3 h
  simp at e
  exact ⟨a, e, hw⟩
theorem three_ints {n : Nat} {cs : List Value} {y : DataW H × List MemPlace} (h : DataW.trod enc Try.prog w base spare held n 31 cs = some y) : ∀ f, f < 3 → ∃ x, cs[f]? = some (.int .i64 x) := by
  obtain ⟨xs, m, _, _, hl, hn, hf⟩ := DataW.trod_struct Try.underlying31 h
  rw [cells_op] at hl
  match xs, hn, cs, hl with
  | [x0, x1, x2], _, [c0, c1, c2], _ =>
    have f0 : DataW.trod enc Try.prog w base spare held m 3 (([c0, c1, c2].drop 0).take (Try.prog.cellsOf 3)) = some x0 := hf 0 _ rfl
    rw [cells3] at f0
    change DataW.trod enc Try.prog w base spare held m 3 [c0] = some x0 at f0
    obtain ⟨z0, r0, _⟩ := one_int f0
    have f1 : DataW.trod enc Try.prog w base spare held m 3 (([c0, c1, c2].drop 1).take (Try.prog.cellsOf 3)) = some x1 := hf 1 _ rfl
    rw [cells3] at f1
    change DataW.trod enc Try.prog w base spare held m 3 [c1] = some x1 at f1
    obtain ⟨z1, r1, _⟩ := one_int f1
    have f2 : DataW.trod enc Try.prog w base spare held m 3 (([c0, c1, c2].drop 2).take (Try.prog.cellsOf 3)) = some x2 := hf 2 _ rfl
    rw [cells3] at f2
    change DataW.trod enc Try.prog w base spare held m 3 [c2] = some x2 at f2
    obtain ⟨z2, r2, _⟩ := one_int f2
    intro f hf2
    match f, hf2 with
    | 0, _ => exact ⟨z0, congrArg some r0⟩
    | 1, _ => exact ⟨z1, congrArg some r1⟩
    | 2, _ => exact ⟨z2, congrArg some r2⟩
theorem two_ints {n : Nat} {cs : List Value} {y : DataW H × List MemPlace} (h : DataW.trod enc Try.prog w base spare held n 60 cs = some y) : ∃ x z, cs = [.int .i64 x, .int .i64 z] := by
  obtain ⟨y0, y1, m, _, hl, h0, h1⟩ := trod_struct2 Try.underlying60 h
  rw [cells_run] at hl
  match cs, hl with
  | [c0, c1], _ =>
    simp only [cells3, List.drop_zero, List.drop_succ_cons, List.take_succ_cons, List.take_zero] at h0 h1
    obtain ⟨d, rfl, _⟩ := one_int h0
    obtain ⟨a, rfl, _⟩ := one_int h1
    exact ⟨d, a, rfl⟩
/-- Runs that came in. -/
theorem open_runs {a : Option Addr} {len cap : Nat} {d : DataW H} {p : List MemPlace} (h : DataW.Trod enc Try.prog w base spare held 22 (.slice a len cap) d p) : Runs w a len := by
  obtain ⟨fuel, hf⟩ := h
  rcases open_slice Try.underlying22 hf with ⟨hcs, _⟩ | ⟨x, len', cap', m, n, D, Pl, hcs, _, hl, _, hm, _, hx⟩
  · simp [Value.cells] at hcs
    obtain ⟨rfl, rfl, rfl⟩ := hcs
    exact fun k hk => absurd hk (Nat.not_lt_zero _)
  · simp [Value.cells] at hcs
    obtain ⟨rfl, rfl, rfl⟩ := hcs
    have hlm : len ≤ m := by rw [hm]; split <;> omega
    have each : ∀ i, i < len → ∃ q r : Int, w.cell? (x.add (i * 2)) = some (.int .i64 q) ∧ w.cell? (x.add (i * 2 + 1)) = some (.int .i64 r) := by
      intro i hi
      obtain ⟨cs', h1, h2⟩ := hx i (by omega)
      obtain ⟨q, r, rfl⟩ := two_ints h2
      rw [cells_run] at h1
      obtain ⟨_, _, hcell⟩ := World.cells?_some h1
      have e0 := hcell 0 (by simp)
      have e1 := hcell 1 (by simp)
      rw [add_add] at e0 e1
      exact ⟨q, r, by simpa using e0, by simpa using e1⟩
    intro i hi
    obtain ⟨q, r, c0, c1⟩ := each i hi
    obtain ⟨b, off, spot⟩ := x
    have hs : spot = none := by
      obtain ⟨_, _, z0, _⟩ := each 0 (by omega)
      simpa [Addr.add] using World.cell?_spot z0
    subst hs
    rw [Addr.add_mid] at c0 c1
    exact ⟨b, off, q, r, rfl, World.block_lt_of_cell? w _ c0, c0, c1⟩
end
end Go.Proofs.Ythanmgejgmhccaa
