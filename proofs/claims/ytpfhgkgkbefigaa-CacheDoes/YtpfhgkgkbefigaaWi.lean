/-
  What comes in: numbers, chunks, calls.
-/
import Derived.Test.YtpfhgkgkbefigaaRows
import Derived.Test.YtpfhgkgkbefigaaLaw0
import Derived.Test.YtpfhgkgkbefigaaPm
import Derived.SizedLaws
import Derived.ProofKit
import Derived.OpenShut
import Derived.ChangeOld
import Derived.Lib.SmallJoins
import Derived.Deep.Slices
import Derived.Deep.Strs
set_option maxRecDepth 20000
namespace Go.Proofs.Ytpfhgkgkbefigaa
open Go.ChangeShapes Go.WideShapes Go.ChangeAt Go.RowKit Go.Joins Go.Deep

theorem own : ownKnob Try.prog.godebug = none := by kernel_rfl
theorem cells33 : Try.prog.cellsOf 33 = 4 := by kernel_rfl
theorem list_of {α : Type} (Q : Nat → α → Prop) : ∀ n : Nat, (∀ i, i < n → ∃ x, Q i x) → ∃ l : List α, l.length = n ∧ ∀ i (h : i < l.length), Q i l[i]
  | 0, _ => ⟨[], rfl, fun i hi => absurd hi (Nat.not_lt_zero _)⟩
  | n + 1, h => by
    obtain ⟨l, hl, hq⟩ := list_of Q n fun i hi => h i (by omega)
    obtain ⟨x, hx⟩ := h n (by omega)
    refine ⟨l ++ [x], by rw [List.length_append, hl]; rfl, fun i hi => ?_⟩
    by_cases e : i < l.length
    · rw [List.getElem_append_left e]
      exact hq i e
    · rw [List.length_append, List.length_singleton] at hi
      obtain rfl : i = l.length := by omega
      rw [List.getElem_append_right (Nat.le_refl _)]
      simp only [Nat.sub_self, List.getElem_singleton]
      rw [hl]
      exact hx
/-- A call that came in. -/
structure Oc where
  k : Int
  x : Int
  z : Int
  v : Int
def OcOk (o : Oc) : Prop := I64 o.x ∧ I64 o.z ∧ I64 o.v
structure OpAt (w : World) (b off k : Nat) (o : Oc) : Prop where
  c0 : w.cell? ⟨b, off + k * 4, none⟩ = some (.int .i64 o.k)
  c1 : w.cell? ⟨b, off + k * 4 + 1, none⟩ = some (.int .i64 o.x)
  c2 : w.cell? ⟨b, off + k * 4 + 2, none⟩ = some (.int .i64 o.z)
  c3 : w.cell? ⟨b, off + k * 4 + 3, none⟩ = some (.int .i64 o.v)
theorem OpAt.on {w w' : World} {b off k : Nat} {o : Oc} (h : OpAt w b off k o) (hb : Below w.heap.size w w') : OpAt w' b off k o := by
  have c : ∀ m v, w.cell? ⟨b, m, none⟩ = some v → w'.cell? ⟨b, m, none⟩ = some v := fun m v hv => (hb.cell (p := ⟨b, m, none⟩) (World.block_lt_of_cell? w _ hv)).trans hv
  exact ⟨c _ _ h.c0, c _ _ h.c1, c _ _ h.c2, c _ _ h.c3⟩
/-- Calls that came in. -/
def Ops (w : World) (a : Option Addr) (l : List Oc) : Prop := ∀ k (h : k < l.length), ∃ b off, a = some ⟨b, off, none⟩ ∧ OpAt w b off k l[k]
theorem Ops.on {w w' : World} {a : Option Addr} {l : List Oc} (h : Ops w a l) (hb : Below w.heap.size w w') : Ops w' a l := fun k hk => by
  obtain ⟨b, off, e, h1⟩ := h k hk
  exact ⟨b, off, e, h1.on hb⟩
section
variable {H : Type} {enc : TypeId × Value → H} {w : World} {base : Nat} {spare : Nat → Bool} {held : Bool}
theorem one_int {n : Nat} {v : Value} {y : DataW H × List MemPlace} (h : DataW.trod enc Try.prog w base spare held n 3 [v] = some y) : ∃ x, v = .int .i64 x ∧ I64 x := by
  obtain ⟨a, e, _, hw⟩ := DataW.trod_int Try.underlying3 h
  simp at e
  exact ⟨a, e, bd64 hw⟩
theorem one_at {n : Nat} {cs : List Value} {y : DataW H × List MemPlace} (h : DataW.trod enc Try.prog w base spare held n 31 cs = some y) : ∃ p : Int × Int, cs = [.int .i64 p.1, .int .i64 p.2] ∧ I64 p.1 ∧ I64 p.2 := by
  obtain ⟨y0, y1, m, _, hl, h0, h1⟩ := trod_struct2 Try.underlying31 h
  rw [cells31] at hl
  match cs, hl with
  | [c0, c1], _ =>
    simp only [cells3, List.drop_zero, List.drop_succ_cons, List.take_succ_cons, List.take_zero] at h0 h1
    obtain ⟨d, rfl, b0⟩ := one_int h0
    obtain ⟨a, rfl, b1⟩ := one_int h1
    exact ⟨(d, a), rfl, b0, b1⟩
theorem one_op {n : Nat} {cs : List Value} {y : DataW H × List MemPlace} (h : DataW.trod enc Try.prog w base spare held n 33 cs = some y) : ∃ o : Oc, cs = [.int .i64 o.k, .int .i64 o.x, .int .i64 o.z, .int .i64 o.v] ∧ OcOk o := by
  obtain ⟨xs, m, _, _, hl, hn, hf⟩ := DataW.trod_struct Try.underlying33 h
  rw [cells33] at hl
  match xs, hn, cs, hl with
  | [x0, x1, x2], _, [c0, c1, c2, c3], _ =>
    have f0 : DataW.trod enc Try.prog w base spare held m 3 (([c0, c1, c2, c3].drop 0).take (Try.prog.cellsOf 3)) = some x0 := hf 0 _ rfl
    rw [cells3] at f0
    change DataW.trod enc Try.prog w base spare held m 3 [c0] = some x0 at f0
    obtain ⟨z0, rfl, _⟩ := one_int f0
    have f1 : DataW.trod enc Try.prog w base spare held m 31 (([.int .i64 z0, c1, c2, c3].drop 1).take (Try.prog.cellsOf 31)) = some x1 := hf 1 _ rfl
    rw [cells31] at f1
    change DataW.trod enc Try.prog w base spare held m 31 [c1, c2] = some x1 at f1
    obtain ⟨p, e, b1, b2⟩ := one_at f1
    simp only [List.cons.injEq, and_true] at e
    obtain ⟨rfl, rfl⟩ := e
    have f2 : DataW.trod enc Try.prog w base spare held m 3 (([.int .i64 z0, .int .i64 p.1, .int .i64 p.2, c3].drop 3).take (Try.prog.cellsOf 3)) = some x2 := hf 2 _ rfl
    rw [cells3] at f2
    change DataW.trod enc Try.prog w base spare held m 3 [c3] = some x2 at f2
    obtain ⟨z3, rfl, b3⟩ := one_int f2
    exact ⟨⟨z0, p.1, p.2, z3⟩, rfl, b1, b2, b3⟩
/-- Chunks that came in. -/
theorem open_ats {a : Option Addr} {len cap : Nat} {d : DataW H} {p : List MemPlace} (h : DataW.Trod enc Try.prog w base spare held 40 (.slice a len cap) d p) : ∃ l : List (Int × Int), l.length = len ∧ Ats w a l ∧ ∀ q ∈ l, I64 q.1 ∧ I64 q.2 := by
  obtain ⟨fuel, hf⟩ := h
  rcases open_slice Try.underlying40 hf with ⟨hcs, _⟩ | ⟨x, len', cap', m, n, D, Pl, hcs, _, hl, _, hm, _, hx⟩
  · simp [Value.cells] at hcs
    obtain ⟨rfl, rfl, rfl⟩ := hcs
    exact ⟨[], rfl, fun k hk => absurd hk (Nat.not_lt_zero _), fun q hq => (by cases hq)⟩
  · simp [Value.cells] at hcs
    obtain ⟨rfl, rfl, rfl⟩ := hcs
    have hlm : len ≤ m := by rw [hm]; split <;> omega
    obtain ⟨b, off, spot⟩ := x
    have hspot : 0 < len → spot = none := fun hp0 => by
      obtain ⟨cs', h1, h2⟩ := hx 0 (by omega)
      obtain ⟨q, rfl, _, _⟩ := one_at h2
      rw [cells31] at h1
      obtain ⟨_, _, hcell⟩ := World.cells?_some h1
      have e0 := hcell 0 (by simp)
      rw [add_add] at e0
      simpa [Addr.add] using World.cell?_spot e0
    have each : ∀ i, i < len → ∃ q : Int × Int, spot = none ∧ (w.cell? ⟨b, off + i * 2, none⟩ = some (.int .i64 q.1) ∧ w.cell? ⟨b, off + i * 2 + 1, none⟩ = some (.int .i64 q.2)) ∧ I64 q.1 ∧ I64 q.2 := by
      intro i hi
      obtain ⟨cs', h1, h2⟩ := hx i (by omega)
      obtain ⟨q, rfl, b1, b2⟩ := one_at h2
      rw [cells31] at h1
      obtain ⟨_, _, hcell⟩ := World.cells?_some h1
      have e0 := hcell 0 (by simp)
      have e1 := hcell 1 (by simp)
      rw [add_add] at e0 e1
      have hs : spot = none := hspot (by omega)
      subst hs
      rw [Addr.add_mid] at e0 e1
      exact ⟨q, rfl, ⟨by simpa using e0, by simpa [Nat.add_assoc] using e1⟩, b1, b2⟩
    obtain ⟨l, hl1, hl2⟩ := list_of (fun i (q : Int × Int) => spot = none ∧ (w.cell? ⟨b, off + i * 2, none⟩ = some (.int .i64 q.1) ∧ w.cell? ⟨b, off + i * 2 + 1, none⟩ = some (.int .i64 q.2)) ∧ I64 q.1 ∧ I64 q.2) len each
    refine ⟨l, hl1, fun k hk => ?_, fun q hq => ?_⟩
    · obtain ⟨rfl, h2, _⟩ := hl2 k hk
      exact ⟨b, off, rfl, h2.1, h2.2⟩
    · obtain ⟨i, hi, rfl⟩ := List.getElem_of_mem hq
      exact (hl2 i hi).2.2
/-- Calls that came in. -/
theorem open_ops {a : Option Addr} {len cap : Nat} {d : DataW H} {p : List MemPlace} (h : DataW.Trod enc Try.prog w base spare held 22 (.slice a len cap) d p) : ∃ l : List Oc, l.length = len ∧ Ops w a l ∧ ∀ o ∈ l, OcOk o := by
  obtain ⟨fuel, hf⟩ := h
  rcases open_slice Try.underlying22 hf with ⟨hcs, _⟩ | ⟨x, len', cap', m, n, D, Pl, hcs, _, hl, _, hm, _, hx⟩
  · simp [Value.cells] at hcs
    obtain ⟨rfl, rfl, rfl⟩ := hcs
    exact ⟨[], rfl, fun k hk => absurd hk (Nat.not_lt_zero _), fun q hq => (by cases hq)⟩
  · simp [Value.cells] at hcs
    obtain ⟨rfl, rfl, rfl⟩ := hcs
    have hlm : len ≤ m := by rw [hm]; split <;> omega
    obtain ⟨b, off, spot⟩ := x
    have hspot : 0 < len → spot = none := fun hp0 => by
      obtain ⟨cs', h1, h2⟩ := hx 0 (by omega)
      obtain ⟨o, rfl, _⟩ := one_op h2
      rw [cells33] at h1
      obtain ⟨_, _, hcell⟩ := World.cells?_some h1
      have e0 := hcell 0 (by simp)
      rw [add_add] at e0
      simpa [Addr.add] using World.cell?_spot e0
    have each : ∀ i, i < len → ∃ o : Oc, spot = none ∧ OpAt w b off i o ∧ OcOk o := by
      intro i hi
      obtain ⟨cs', h1, h2⟩ := hx i (by omega)
      obtain ⟨o, rfl, ho⟩ := one_op h2
      rw [cells33] at h1
      obtain ⟨_, _, hcell⟩ := World.cells?_some h1
      have e0 := hcell 0 (by simp)
      have e1 := hcell 1 (by simp)
      have e2 := hcell 2 (by simp)
      have e3 := hcell 3 (by simp)
      rw [add_add] at e0 e1 e2 e3
      have hs : spot = none := hspot (by omega)
      subst hs
      rw [Addr.add_mid] at e0 e1 e2 e3
      exact ⟨o, rfl, ⟨by simpa using e0, by simpa [Nat.add_assoc] using e1, by simpa [Nat.add_assoc] using e2, by simpa [Nat.add_assoc] using e3⟩, ho⟩
    obtain ⟨l, hl1, hl2⟩ := list_of (fun i (o : Oc) => spot = none ∧ OpAt w b off i o ∧ OcOk o) len each
    refine ⟨l, hl1, fun k hk => ?_, fun q hq => ?_⟩
    · obtain ⟨rfl, h2, _⟩ := hl2 k hk
      exact ⟨b, off, rfl, h2⟩
    · obtain ⟨i, hi, rfl⟩ := List.getElem_of_mem hq
      exact (hl2 i hi).2.2
end
end Go.Proofs.Ytpfhgkgkbefigaa
