/-
  What comes in: numbers, a cell, a chunk's place, cuts in a slice.
-/
import Derived.Test.YtajjaeaknonmfaaRows
import Derived.Test.YtajjaeaknonmfaaVonce
import Derived.Test.YtajjaeaknonmfaaVnear
import Derived.Test.YtajjaeaknonmfaaVrefuse
import Derived.SizedLaws
import Derived.ProofKit
import Derived.OpenShut
import Derived.ChangeOld
import Derived.Lib.SmallJoins
import Derived.Deep.Slices
import Derived.Deep.Strs
set_option maxRecDepth 20000
namespace Go.Proofs.Ytajjaeaknonmfaa
open C Go.ChangeShapes Go.WideShapes Go.ChangeAt Go.RowKit Go.Joins Go.Deep

theorem own : ownKnob Try.prog.godebug = none := by kernel_rfl
theorem laidOut : laidOutB Try.prog = true := by kernel_rfl
theorem cells28 : Try.prog.cellsOf 28 = 2 := by kernel_rfl
theorem cells24 : Try.prog.cellsOf 24 = 3 := by kernel_rfl
theorem cells76 : Try.prog.cellsOf 76 = 4 := by kernel_rfl
theorem cells3 : Try.prog.cellsOf 3 = 1 := by kernel_rfl
theorem bdu64 {x : Int} (h : (Lit.int .u64 x).wf = true) : 0 ≤ x ∧ x ≤ 18446744073709551615 := by
  simp [Lit.wf, IntKind.min, IntKind.max, IntKind.bits, IntKind.signed] at h
  omega
theorem bd64 {x : Int} (h : (Lit.int .i64 x).wf = true) : I64 x := by
  simp [Lit.wf, IntKind.min, IntKind.max, IntKind.bits, IntKind.signed] at h
  unfold I64
  omega
theorem nat64 {s : Int} (hs : 0 ≤ s ∧ s ≤ 18446744073709551615) : ∃ S : Nat, s = (S : Int) ∧ S < 18446744073709551616 := ⟨s.toNat, by omega, by omega⟩
section
variable {H : Type} {enc : TypeId × Value → H} {w : World} {base : Nat} {spare : Nat → Bool} {held : Bool}
theorem one_int {n : Nat} {v : Value} {y : DataW H × List MemPlace} (h : DataW.trod enc Try.prog w base spare held n 3 [v] = some y) : ∃ x, v = .int .i64 x ∧ I64 x := by
  obtain ⟨a, e, _, hw⟩ := DataW.trod_int Try.underlying3 h
  simp at e
  exact ⟨a, e, bd64 hw⟩
/-- A chunk's place that came in. -/
theorem in_at {r : Reach} {b0 : Nat} {v : Value} {d : DataW H} {p : List MemPlace} (hv : Value.okWide Try.prog w r b0 28 v) (h : DataW.Trod enc Try.prog w base spare held 28 v d p) : ∃ x z : Int, v = .agg #[.int .i64 x, .int .i64 z] ∧ I64 x ∧ I64 z := by
  obtain ⟨cs, rfl, hsz⟩ := okWide_struct Try.underlying28 hv
  rw [cells28] at hsz
  obtain ⟨fuel, hf⟩ := h
  obtain ⟨y0, y1, k, hag, hl, t0, t1⟩ := trod_struct2 Try.underlying28 hf
  obtain ⟨l⟩ := cs
  simp only [Value.cells] at hl t0 t1
  rw [cells28] at hl
  match l, hl with
  | [v0, v1], _ =>
    simp only [cells3, List.drop_zero, List.drop_succ_cons, List.take_succ_cons, List.take_zero] at t0 t1
    obtain ⟨x, rfl, hx⟩ := one_int t0
    obtain ⟨z, rfl, hz⟩ := one_int t1
    exact ⟨x, z, rfl, hx, hz⟩
/-- A cell that came in. -/
theorem in_pos {r : Reach} {b0 : Nat} {v : Value} {d : DataW H} {p : List MemPlace} (hv : Value.okWide Try.prog w r b0 24 v) (h : DataW.Trod enc Try.prog w base spare held 24 v d p) : ∃ x y z : Int, v = .agg #[.int .i64 x, .int .i64 y, .int .i64 z] ∧ I64 x ∧ I64 y ∧ I64 z := by
  obtain ⟨cs, rfl, hsz⟩ := okWide_struct Try.underlying24 hv
  rw [cells24] at hsz
  obtain ⟨fuel, hf⟩ := h
  obtain ⟨y0, y1, y2, k, hag, hl, t0, t1, t2⟩ := trod_struct3 Try.underlying24 hf
  obtain ⟨l⟩ := cs
  simp only [Value.cells] at hl t0 t1 t2
  rw [cells24] at hl
  match l, hl with
  | [v0, v1, v2], _ =>
    simp only [cells3, List.drop_zero, List.drop_succ_cons, List.take_succ_cons, List.take_zero] at t0 t1 t2
    obtain ⟨x, rfl, hx⟩ := one_int t0
    obtain ⟨y, rfl, hy⟩ := one_int t1
    obtain ⟨z, rfl, hz⟩ := one_int t2
    exact ⟨x, y, z, rfl, hx, hy, hz⟩
def CutOk (q : Cut) : Prop := I64 q.n ∧ I64 q.f ∧ I64 q.m ∧ I64 q.k
theorem four_ints {n : Nat} {cs : List Value} {y : DataW H × List MemPlace} (h : DataW.trod enc Try.prog w base spare held n 76 cs = some y) : ∃ x : Cut, cs = [.int .i64 x.n, .int .i64 x.f, .int .i64 x.m, .int .i64 x.k] ∧ CutOk x := by
  obtain ⟨y0, y1, y2, y3, m, _, hl, h0, h1, h2, h3⟩ := trod_struct4 Try.underlying76 h
  rw [cells76] at hl
  match cs, hl with
  | [c0, c1, c2, c3], _ =>
    simp only [cells3, List.drop_zero, List.drop_succ_cons, List.take_succ_cons, List.take_zero] at h0 h1 h2 h3
    obtain ⟨d, rfl, hd⟩ := one_int h0
    obtain ⟨a, rfl, ha⟩ := one_int h1
    obtain ⟨b, rfl, hb⟩ := one_int h2
    obtain ⟨k, rfl, hk⟩ := one_int h3
    exact ⟨⟨d, a, b, k⟩, rfl, hd, ha, hb, hk⟩
theorem list_of {α : Type} (Q : Nat → α → Prop) : ∀ n : Nat, (∀ i, i < n → ∃ x, Q i x) → ∃ l : List α, l.length = n ∧ ∀ i, i < n → ∃ x, l[i]? = some x ∧ Q i x
  | 0, _ => ⟨[], rfl, fun i hi => absurd hi (Nat.not_lt_zero _)⟩
  | n + 1, h => by
    obtain ⟨l, hl, hq⟩ := list_of Q n fun i hi => h i (by omega)
    obtain ⟨x, hx⟩ := h n (by omega)
    refine ⟨l ++ [x], by rw [List.length_append, hl]; rfl, fun i hi => ?_⟩
    by_cases e : i = n
    · subst e
      exact ⟨x, by rw [List.getElem?_append_right (by omega), hl, Nat.sub_self]; rfl, hx⟩
    · obtain ⟨y, hy, hQ⟩ := hq i (by omega)
      exact ⟨y, by rw [List.getElem?_append_left (by omega)]; exact hy, hQ⟩
/-- Cuts that came in. -/
theorem in_cuts {a : Option Addr} {len cap : Nat} {d : DataW H} {p : List MemPlace} (h : DataW.Trod enc Try.prog w base spare held 29 (.slice a len cap) d p) : ∃ l : List Cut, CutsAt w w.heap.size a len l ∧ len ≤ 9223372036854775807 := by
  obtain ⟨fuel, hf⟩ := h
  rcases open_slice Try.underlying29 hf with ⟨hcs, _⟩ | ⟨x, len', cap', m, n, D, Pl, hcs, _, hl, hcap, hm, _, hx⟩
  · simp [Value.cells] at hcs
    obtain ⟨rfl, rfl, rfl⟩ := hcs
    exact ⟨[], ⟨rfl, fun k hk => absurd hk (Nat.not_lt_zero _), fun k hk => absurd hk (Nat.not_lt_zero _)⟩, Nat.zero_le _⟩
  · simp [Value.cells] at hcs
    obtain ⟨rfl, rfl, rfl⟩ := hcs
    have hlm : len ≤ m := by rw [hm]; split <;> omega
    have each : ∀ i, i < len → ∃ q : Cut, w.cell? (x.add (i * 4)) = some (.int .i64 q.n) ∧ w.cell? (x.add (i * 4 + 1)) = some (.int .i64 q.f) ∧ w.cell? (x.add (i * 4 + 2)) = some (.int .i64 q.m) ∧ w.cell? (x.add (i * 4 + 3)) = some (.int .i64 q.k) ∧ CutOk q := by
      intro i hi
      obtain ⟨cs', h1, h2⟩ := hx i (by omega)
      obtain ⟨q, rfl, hq⟩ := four_ints h2
      rw [cells76] at h1
      obtain ⟨_, _, hcell⟩ := World.cells?_some h1
      have e0 := hcell 0 (by simp)
      have e1 := hcell 1 (by simp)
      have e2 := hcell 2 (by simp)
      have e3 := hcell 3 (by simp)
      rw [add_add] at e0 e1 e2 e3
      exact ⟨q, by simpa using e0, by simpa using e1, by simpa using e2, by simpa using e3, hq⟩
    obtain ⟨l, hlen, hq⟩ := list_of _ len each
    refine ⟨l, ⟨hlen, fun k hk => ?_, fun k hk => ?_⟩, by unfold maxLen at hcap; omega⟩
    · obtain ⟨q, hq1, c0, c1, c2, c3, _⟩ := hq k hk
      obtain ⟨b, off, spot⟩ := x
      have hs : spot = none := by
        obtain ⟨_, _, z0, _⟩ := hq 0 (by omega)
        simpa [Addr.add] using World.cell?_spot z0
      subst hs
      rw [Addr.add_mid] at c0 c1 c2 c3
      have e : l.getD k cut0 = q := by rw [List.getD_eq_getElem?_getD, hq1]; rfl
      rw [e]
      exact ⟨b, off, rfl, World.block_lt_of_cell? w _ c0, c0, by rw [Nat.add_assoc]; exact c1, by rw [Nat.add_assoc]; exact c2, by rw [Nat.add_assoc]; exact c3⟩
    · obtain ⟨q, hq1, _, _, _, _, hq2⟩ := hq k hk
      have e : l.getD k cut0 = q := by rw [List.getD_eq_getElem?_getD, hq1]; rfl
      rw [e]
      exact hq2
end
end Go.Proofs.Ytajjaeaknonmfaa