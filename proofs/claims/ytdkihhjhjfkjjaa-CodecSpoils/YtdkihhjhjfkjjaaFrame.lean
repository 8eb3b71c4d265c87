/-
  What the proofs of this seat's statements share: runs, numbers and bytes that come in a slice.
-/
import Derived.Test.YtdkihhjhjfkjjaaRows
import Derived.Test.YtdkihhjhjfkjjaaGiven
import Derived.ProofKit
import Derived.OpenShut
import Derived.ChangeOld
import Derived.Lib.SmallJoins
import Derived.Deep.Slices
namespace Go.Proofs.Ytdkihhjhjfkjjaa
open Go.ChangeShapes Go.WideShapes Go.ChangeAt Go.RowKit Go.Joins Go.Deep

theorem own : ownKnob Try.prog.godebug = none := by kernel_rfl
theorem laidOut : laidOutB Try.prog = true := by kernel_rfl
theorem bd8 {x : Int} (h : (Lit.int .u8 x).wf = true) : 0 ≤ x ∧ x ≤ 255 := by
  simp [Lit.wf, IntKind.min, IntKind.max, IntKind.bits, IntKind.signed] at h
  omega
theorem bd64 {x : Int} (h : (Lit.int .i64 x).wf = true) : -9223372036854775808 ≤ x ∧ x ≤ 9223372036854775807 := by
  simp [Lit.wf, IntKind.min, IntKind.max, IntKind.bits, IntKind.signed] at h
  omega

section
variable {H : Type} {enc : TypeId × Value → H} {w : World} {base : Nat} {spare : Nat → Bool} {held : Bool}
theorem cells45 : Try.prog.cellsOf 45 = 2 := by kernel_rfl
theorem cells3 : Try.prog.cellsOf 3 = 1 := by kernel_rfl
theorem one_int {n : Nat} {v : Value} {y : DataW H × List MemPlace} (h : DataW.trod enc Try.prog w base spare held n 3 [v] = some y) : ∃ x, v = .int .i64 x := by
  obtain ⟨a, e, _, _⟩ := DataW.trod_int Try.underlying3 h
  simp at e
  exact ⟨a, e⟩
theorem two_ints {n : Nat} {cs : List Value} {y : DataW H × List MemPlace} (h : DataW.trod enc Try.prog w base spare held n 45 cs = some y) : ∃ x z, cs = [.int .i64 x, .int .i64 z] := by
  obtain ⟨y0, y1, m, _, hl, h0, h1⟩ := trod_struct2 Try.underlying45 h
  rw [cells45] at hl
  match cs, hl with
  | [c0, c1], _ =>
    simp only [cells3, List.drop_zero, List.drop_succ_cons, List.take_succ_cons, List.take_zero] at h0 h1
    obtain ⟨d, rfl⟩ := one_int h0
    obtain ⟨a, rfl⟩ := one_int h1
    exact ⟨d, a, rfl⟩
theorem list_of {α : Type} (Q : Nat → α → Prop) : ∀ n : Nat, (∀ i, i < n → ∃ x, Q i x) → ∃ l : List α, l.length = n ∧ ∀ i, i < n → ∃ x, l[i]? = some x ∧ Q i x
  | 0, _ => ⟨[], rfl, fun i hi => absurd hi (Nat.not_lt_zero _)⟩
  | n + 1, h => by
    obtain ⟨l, hl, hq⟩ := list_of Q n fun i hi => h i (by omega)
    obtain ⟨x, hx⟩ := h n (by omega)
    refine ⟨l ++ [x], by rw [List.length_append, hl]; rfl, fun i hi => ?_⟩
    by_cases e : i = n
    · subst e
      exact ⟨x, by rw [List.getElem?_append_right (by omega), hl, Nat.sub_self]; rfl, hx⟩
    · obtain ⟨y, hy, hQ⟩ := hq i (by omega)
      exact ⟨y, by rw [List.getElem?_append_left (by omega)]; exact hy, hQ⟩
/-- Runs that came in. -/
theorem open_runs {a : Option Addr} {len cap : Nat} {d : DataW H} {p : List MemPlace} (h : DataW.Trod enc Try.prog w base spare held 22 (.slice a len cap) d p) : Runs w a len := by
  obtain ⟨fuel, hf⟩ := h
  rcases open_slice Try.underlying22 hf with ⟨hcs, _⟩ | ⟨x, len', cap', m, n, D, Pl, hcs, _, hl, _, hm, _, hx⟩
  · simp [Value.cells] at hcs
    obtain ⟨rfl, rfl, rfl⟩ := hcs
    exact fun k hk => absurd hk (Nat.not_lt_zero _)
  · simp [Value.cells] at hcs
    obtain ⟨rfl, rfl, rfl⟩ := hcs
    have hlm : len ≤ m := by rw [hm]; split <;> omega
    have each : ∀ i, i < len → ∃ q r : Int, w.cell? (x.add (i * 2)) = some (.int .i64 q) ∧ w.cell? (x.add (i * 2 + 1)) = some (.int .i64 r) := by
      intro i hi
      obtain ⟨cs', h1, h2⟩ := hx i (by omega)
      obtain ⟨q, r, rfl⟩ := two_ints h2
      rw [cells45] at h1
      obtain ⟨_, _, hcell⟩ := World.cells?_some h1
      have e0 := hcell 0 (by simp)
      have e1 := hcell 1 (by simp)
      rw [add_add] at e0 e1
      exact ⟨q, r, by simpa using e0, by simpa using e1⟩
    intro i hi
    obtain ⟨q, r, c0, c1⟩ := each i hi
    obtain ⟨b, off, spot⟩ := x
    have hs : spot = none := by
      obtain ⟨_, _, z0, _⟩ := each 0 (by omega)
      simpa [Addr.add] using World.cell?_spot z0
    subst hs
    rw [Addr.add_mid] at c0 c1
    exact ⟨b, off, q, r, rfl, World.block_lt_of_cell? w _ c0, c0, c1⟩
/-- Numbers that came in. -/
theorem open_nums {a : Option Addr} {len cap : Nat} {d : DataW H} {p : List MemPlace} (h : DataW.Trod enc Try.prog w base spare held 23 (.slice a len cap) d p) : Nums w a len := by
  obtain ⟨fuel, hf⟩ := h
  rcases open_slice1 Try.underlying23 (by kernel_rfl) hf with ⟨hcs, _⟩ | ⟨x, len', cap', m, n, V, D, Pl, hcs, _, hl, _, hm, _, hx⟩
  · simp [Value.cells] at hcs
    obtain ⟨rfl, rfl, rfl⟩ := hcs
    exact fun k hk => absurd hk (Nat.not_lt_zero _)
  · simp [Value.cells] at hcs
    obtain ⟨rfl, rfl, rfl⟩ := hcs
    have hlm : len ≤ m := by rw [hm]; split <;> omega
    have each : ∀ i, i < len → ∃ q : Int, w.cell? (x.add i) = some (.int .i64 q) := by
      intro i hi
      obtain ⟨h1, h2⟩ := hx i (by omega)
      obtain ⟨q, e, _, hw⟩ := DataW.trod_int Try.underlying3 h2
      simp at e
      rw [e] at h1
      exact ⟨q, h1⟩
    intro i hi
    obtain ⟨q, c0⟩ := each i hi
    obtain ⟨b, off, spot⟩ := x
    have hs : spot = none := by
      obtain ⟨_, z0⟩ := each 0 (by omega)
      simpa [Addr.add] using World.cell?_spot z0
    subst hs
    rw [Addr.add_mid] at c0
    exact ⟨b, off, q, rfl, World.block_lt_of_cell? w _ c0, c0⟩
/-- Bytes that came in. -/
theorem open_src {a : Option Addr} {len cap : Nat} {d : DataW H} {p : List MemPlace} (h : DataW.Trod enc Try.prog w base spare held 25 (.slice a len cap) d p) : ∃ bs : List Int, Src w a len bs := by
  obtain ⟨fuel, hf⟩ := h
  rcases open_slice1 Try.underlying25 (by kernel_rfl) hf with ⟨hcs, _⟩ | ⟨x, len', cap', m, n, V, D, Pl, hcs, _, hl, _, hm, _, hx⟩
  · simp [Value.cells] at hcs
    obtain ⟨rfl, rfl, rfl⟩ := hcs
    exact ⟨[], rfl, fun k hk => absurd hk (Nat.not_lt_zero _), fun k => by simp⟩
  · simp [Value.cells] at hcs
    obtain ⟨rfl, rfl, rfl⟩ := hcs
    have hlm : len ≤ m := by rw [hm]; split <;> omega
    have each : ∀ i, i < len → ∃ q : Int, w.cell? (x.add i) = some (.int .u8 q) ∧ 0 ≤ q ∧ q ≤ 255 := by
      intro i hi
      obtain ⟨h1, h2⟩ := hx i (by omega)
      obtain ⟨q, e, _, hw⟩ := DataW.trod_int Try.underlying5 h2
      simp at e
      rw [e] at h1
      exact ⟨q, h1, bd8 hw⟩
    obtain ⟨l, hlen, hq⟩ := list_of _ len each
    refine ⟨l, hlen, fun k hk => ?_, fun k => ?_⟩
    · obtain ⟨q, hq1, c0, _⟩ := hq k hk
      obtain ⟨b, off, spot⟩ := x
      have hs : spot = none := by
        obtain ⟨_, _, z0, _⟩ := hq 0 (by omega)
        simpa [Addr.add] using World.cell?_spot z0
      subst hs
      rw [Addr.add_mid] at c0
      exact ⟨b, off, rfl, World.block_lt_of_cell? w _ c0, by rw [c0, List.getD_eq_getElem?_getD, hq1]; rfl⟩
    · by_cases hk : k < len
      · obtain ⟨q, hq1, _, hb⟩ := hq k hk
        rw [List.getD_eq_getElem?_getD, hq1]
        exact hb
      · rw [List.getD_eq_getElem?_getD, List.getElem?_eq_none (by omega)]
        simp
theorem nil_cap {a : Option Addr} {len cap : Nat} {d : DataW H} {p : List MemPlace} (h : DataW.Trod enc Try.prog w base spare held 25 (.slice a len cap) d p) : a = none → cap = 0 := by
  obtain ⟨fuel, hf⟩ := h
  rcases open_slice1 Try.underlying25 (by kernel_rfl) hf with ⟨hcs, _⟩ | ⟨x, len', cap', m, n, V, D, Pl, hcs, _, hl, _, hm, _, hx⟩
  · simp [Value.cells] at hcs
    exact fun _ => hcs.2.2
  · simp [Value.cells] at hcs
    intro e
    rw [e] at hcs
    cases hcs.1
end
end Go.Proofs.Ytdkihhjhjfkjjaa
