/-
  Calls that come in a slice: each has a kind, a file, a number and bytes.
-/
import Derived.Test.YtfpcfgfpebdplaaRows
import Derived.Test.YtfpcfgfpebdplaaMem
import Derived.Test.YtfpcfgfpebdplaaDisk
import Derived.ProofKit
import Derived.OpenShut
import Derived.ChangeOld
import Derived.Lib.SmallJoins
import Derived.Deep.Slices
import Derived.Deep.Strs
namespace Go.Proofs.Ytfpcfgfpebdplaa
open Go.ChangeShapes Go.WideShapes Go.ChangeAt Go.RowKit Go.Joins Go.Deep

theorem own : ownKnob Try.prog.godebug = none := by kernel_rfl
theorem laidOut : laidOutB Try.prog = true := by kernel_rfl
theorem bd8 {x : Int} (h : (Lit.int .u8 x).wf = true) : 0 ≤ x ∧ x ≤ 255 := by
  simp [Lit.wf, IntKind.min, IntKind.max, IntKind.bits, IntKind.signed] at h
  omega
theorem bd64 {x : Int} (h : (Lit.int .i64 x).wf = true) : -9223372036854775808 ≤ x ∧ x ≤ 9223372036854775807 := by
  simp [Lit.wf, IntKind.min, IntKind.max, IntKind.bits, IntKind.signed] at h
  omega
/-- A call that came in. -/
structure Oc where
  k : Int
  f : Fl
  i : Int
  a : Option Addr
  n : Nat
  c : Nat
  b : List Int
/-- A whole number of 64 bits. -/
def I64 (x : Int) : Prop := -9223372036854775808 ≤ x ∧ x ≤ 9223372036854775807
/-- The calls of a slice: where their cells lie, and their bytes. -/
structure OpAt (w : World) (b off k : Nat) (o : Oc) : Prop where
  c0 : w.cell? ⟨b, off + k * 6, none⟩ = some (.int .i64 o.k)
  c1 : w.cell? ⟨b, off + k * 6 + 1, none⟩ = some (.int .i64 o.f.1)
  c2 : w.cell? ⟨b, off + k * 6 + 2, none⟩ = some (.int .i64 o.f.2.1)
  c3 : w.cell? ⟨b, off + k * 6 + 3, none⟩ = some (.int .i64 o.f.2.2)
  c4 : w.cell? ⟨b, off + k * 6 + 4, none⟩ = some (.int .i64 o.i)
  c5 : w.cell? ⟨b, off + k * 6 + 5, none⟩ = some (.slice o.a o.n o.c)
  by_ : Bytes w o.a o.n o.b
  nil : o.a = none → o.c = 0
  cap : o.n ≤ o.c
  bd : I64 o.i ∧ I64 o.f.1 ∧ I64 o.f.2.1 ∧ I64 o.f.2.2
/-- All calls of a slice. -/
def Ops (w : World) (a : Option Addr) (l : List Oc) : Prop := ∀ k (h : k < l.length), ∃ b off, a = some ⟨b, off, none⟩ ∧ OpAt w b off k l[k]

section
variable {H : Type} {enc : TypeId × Value → H} {w : World} {base : Nat} {spare : Nat → Bool} {held : Bool}
theorem cells33 : Try.prog.cellsOf 33 = 6 := by kernel_rfl
theorem cells30 : Try.prog.cellsOf 30 = 3 := by kernel_rfl
theorem cells31 : Try.prog.cellsOf 31 = 1 := by kernel_rfl
theorem cells3 : Try.prog.cellsOf 3 = 1 := by kernel_rfl
theorem one_int {n : Nat} {v : Value} {y : DataW H × List MemPlace} (h : DataW.trod enc Try.prog w base spare held n 3 [v] = some y) : ∃ x, v = .int .i64 x ∧ I64 x := by
  obtain ⟨a, e, _, hw⟩ := DataW.trod_int Try.underlying3 h
  simp at e
  exact ⟨a, e, bd64 hw⟩
theorem one_file {n : Nat} {cs : List Value} {y : DataW H × List MemPlace} (h : DataW.trod enc Try.prog w base spare held n 30 cs = some y) : ∃ f : Fl, cs = [.int .i64 f.1, .int .i64 f.2.1, .int .i64 f.2.2] ∧ I64 f.1 ∧ I64 f.2.1 ∧ I64 f.2.2 := by
  obtain ⟨y0, y1, y2, m, _, hl, h0, h1, h2⟩ := trod_struct3 Try.underlying30 h
  rw [cells30] at hl
  match cs, hl with
  | [c0, c1, c2], _ =>
    simp only [cells3, List.drop_zero, List.drop_succ_cons, List.take_succ_cons, List.take_zero] at h0 h1 h2
    obtain ⟨d, rfl, b0⟩ := one_int h0
    obtain ⟨a, rfl, b1⟩ := one_int h1
    obtain ⟨z, rfl, b2⟩ := one_int h2
    exact ⟨(d, a, z), rfl, b0, b1, b2⟩
/-- Bytes that came in. -/
theorem one_bytes {n : Nat} {v : Value} {y : DataW H × List MemPlace} (h : DataW.trod enc Try.prog w base spare held n 31 [v] = some y) : ∃ (a : Option Addr) (len cap : Nat) (bs : List Int), v = .slice a len cap ∧ Bytes w a len bs ∧ (a = none → cap = 0) ∧ len ≤ cap := by
  rcases open_slice1 Try.underlying31 (by kernel_rfl) h with ⟨hcs, _⟩ | ⟨x, len, cap, m, n, V, D, Pl, hcs, _, hl, _, hm, _, hx⟩
  · simp at hcs
    exact ⟨none, 0, 0, [], hcs, ⟨rfl, Or.inl rfl, fun z hz => by simp at hz⟩, fun _ => rfl, Nat.le_refl _⟩
  · simp at hcs
    subst hcs
    have hlm : len ≤ m := by rw [hm]; split <;> omega
    have each : ∀ i, i < len → ∃ q : Int, w.cell? (x.add i) = some (.int .u8 q) ∧ 0 ≤ q ∧ q ≤ 255 := by
      intro i hi
      obtain ⟨h1, h2⟩ := hx i (by omega)
      obtain ⟨q, e, _, hw⟩ := DataW.trod_int Try.underlying5 h2
      simp at e
      rw [e] at h1
      exact ⟨q, h1, bd8 hw⟩
    refine ⟨some x, len, cap, (List.range len).map fun i => match w.cell? (x.add i) with | some (.int _ q) => q | _ => 0, rfl, ⟨by simp, ?_, ?_⟩, fun e => (by cases e), hl⟩
    · by_cases h0 : len = 0
      · left; subst h0; rfl
      · right
        obtain ⟨b, off, spot⟩ := x
        have hs : spot = none := by
          obtain ⟨_, z0, _⟩ := each 0 (by omega)
          simpa [Addr.add] using World.cell?_spot z0
        subst hs
        refine ⟨b, off, rfl, fun k hk => ?_⟩
        simp only [List.length_map, List.length_range] at hk
        obtain ⟨q, hq, _⟩ := each k hk
        rw [Addr.add_mid] at hq
        simp only [List.getElem_map, List.getElem_range, Addr.add_mid, hq]
    · intro z hz
      obtain ⟨i, hi, rfl⟩ := List.mem_map.1 hz
      obtain ⟨q, hq, hb⟩ := each i (List.mem_range.1 hi)
      rw [hq]
      exact hb
theorem list_of {α : Type} (Q : Nat → α → Prop) : ∀ n : Nat, (∀ i, i < n → ∃ x, Q i x) → ∃ l : List α, l.length = n ∧ ∀ i (h : i < l.length), Q i l[i]
  | 0, _ => ⟨[], rfl, fun i hi => absurd hi (Nat.not_lt_zero _)⟩
  | n + 1, h => by
    obtain ⟨l, hl, hq⟩ := list_of Q n fun i hi => h i (by omega)
    obtain ⟨x, hx⟩ := h n (by omega)
    refine ⟨l ++ [x], by rw [List.length_append, hl]; rfl, fun i hi => ?_⟩
    by_cases e : i < l.length
    · rw [List.getElem_append_left e]
      exact hq i e
    · rw [List.length_append, List.length_singleton] at hi
      obtain rfl : i = l.length := by omega
      rw [List.getElem_append_right (Nat.le_refl _)]
      simp only [Nat.sub_self, List.getElem_singleton]
      rw [hl]
      exact hx
/-- Calls that came in. -/
theorem open_ops {a : Option Addr} {len cap : Nat} {d : DataW H} {p : List MemPlace} (h : DataW.Trod enc Try.prog w base spare held 22 (.slice a len cap) d p) : ∃ l : List Oc, l.length = len ∧ Ops w a l := by
  obtain ⟨fuel, hf⟩ := h
  rcases open_slice Try.underlying22 hf with ⟨hcs, _⟩ | ⟨x, len', cap', m, n, D, Pl, hcs, _, hl, _, hm, _, hx⟩
  · simp [Value.cells] at hcs
    obtain ⟨rfl, rfl, rfl⟩ := hcs
    exact ⟨[], rfl, fun k hk => absurd hk (Nat.not_lt_zero _)⟩
  · simp [Value.cells] at hcs
    obtain ⟨rfl, rfl, rfl⟩ := hcs
    have hlm : len ≤ m := by rw [hm]; split <;> omega
    obtain ⟨b, off, spot⟩ := x
    have hspot : 0 < len → spot = none := fun h0 => by
      obtain ⟨cs', h1, h2⟩ := hx 0 (by omega)
      obtain ⟨_, _, _, _, _, _, hl2, _⟩ := trod_struct4 Try.underlying33 h2
      rw [cells33] at hl2 h1
      obtain ⟨_, _, hcell⟩ := World.cells?_some h1
      have e0 := hcell 0 (by omega)
      rw [add_add, List.getElem?_eq_getElem (by omega)] at e0
      simpa [Addr.add] using World.cell?_spot e0
    have each : ∀ i, i < len → ∃ o : Oc, spot = none ∧ OpAt w b off i o := by
      intro i hi
      have hs := hspot (by omega)
      obtain ⟨cs', h1, h2⟩ := hx i (by omega)
      obtain ⟨y0, y1, y2, y3, m2, _, hl2, t0, t1, t2, t3⟩ := trod_struct4 Try.underlying33 h2
      rw [cells33] at hl2 h1
      match cs', hl2 with
      | [v0, v1, v2, v3, v4, v5], _ =>
        simp only [cells3, cells30, cells31, List.drop_zero, List.drop_succ_cons, List.take_succ_cons, List.take_zero] at t0 t1 t2 t3
        obtain ⟨k, rfl, _⟩ := one_int t0
        obtain ⟨f, ef, b1, b2, b3⟩ := one_file t1
        simp only [List.cons.injEq, and_true] at ef
        obtain ⟨rfl, rfl, rfl⟩ := ef
        obtain ⟨ii, rfl, b4⟩ := one_int t2
        obtain ⟨ab, nb, cb, bs, rfl, hB, hn, hc⟩ := one_bytes t3
        obtain ⟨_, _, hcell⟩ := World.cells?_some h1
        have e0 := hcell 0 (by simp)
        have e1 := hcell 1 (by simp)
        have e2 := hcell 2 (by simp)
        have e3 := hcell 3 (by simp)
        have e4 := hcell 4 (by simp)
        have e5 := hcell 5 (by simp)
        subst hs
        simp only [Addr.add_mid] at e0 e1 e2 e3 e4 e5
        exact ⟨⟨k, f, ii, ab, nb, cb, bs⟩, rfl, by simpa using e0, by simpa using e1, by simpa using e2, by simpa using e3, by simpa using e4, by simpa using e5, hB, hn, hc, b4, b1, b2, b3⟩
    obtain ⟨l, hll, hq⟩ := list_of (fun i o => spot = none ∧ OpAt w b off i o) len each
    refine ⟨l, hll, fun k hk => ?_⟩
    obtain ⟨hs, ho⟩ := hq k hk
    subst hs
    exact ⟨b, off, rfl, ho⟩
end
theorem OpAt.on {w w' : World} {b off k : Nat} {o : Oc} (h : OpAt w b off k o) (hb : Below w.heap.size w w') : OpAt w' b off k o := by
  have hl := World.block_lt_of_cell? w _ h.c0
  have keep : ∀ j v, w.cell? ⟨b, j, none⟩ = some v → w'.cell? ⟨b, j, none⟩ = some v := fun j v hv => by
    unfold World.cell? at hv ⊢
    rw [hb.block b hl]
    exact hv
  exact ⟨keep _ _ h.c0, keep _ _ h.c1, keep _ _ h.c2, keep _ _ h.c3, keep _ _ h.c4, keep _ _ h.c5, h.by_.later hb, h.nil, h.cap, h.bd⟩
theorem Ops.on {w w' : World} {a : Option Addr} {l : List Oc} (h : Ops w a l) (hb : Below w.heap.size w w') : Ops w' a l := fun k hk => by
  obtain ⟨b, off, e, ho⟩ := h k hk
  exact ⟨b, off, e, ho.on hb⟩
end Go.Proofs.Ytfpcfgfpebdplaa
