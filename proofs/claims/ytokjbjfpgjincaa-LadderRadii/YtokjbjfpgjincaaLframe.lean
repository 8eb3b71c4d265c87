/-
  What comes in: reads in a slice, stages in a slice, a chunk's place.
-/
import Derived.Test.YtokjbjfpgjincaaRows
import Derived.Test.YtokjbjfpgjincaaLwrld
import Derived.SizedLaws
import Derived.ProofKit
import Derived.OpenShut
import Derived.ChangeOld
import Derived.Lib.SmallJoins
import Derived.Deep.Slices
import Derived.Deep.Strs
set_option maxRecDepth 20000
namespace Go.Proofs.Ytokjbjfpgjincaa
open Go.ChangeShapes Go.WideShapes Go.ChangeAt Go.RowKit Go.Joins Go.Deep

theorem own : ownKnob Try.prog.godebug = none := by kernel_rfl
theorem laidOut : laidOutB Try.prog = true := by kernel_rfl
theorem bytes45 : Try.prog.bytesOf 45 = 16 := by kernel_rfl
theorem bytes43 : Try.prog.bytesOf 43 = 24 := by kernel_rfl
theorem cells45 : Try.prog.cellsOf 45 = 2 := by kernel_rfl
theorem cells43 : Try.prog.cellsOf 43 = 1 := by kernel_rfl
theorem cells41 : Try.prog.cellsOf 41 = 1 := by kernel_rfl
theorem cells31 : Try.prog.cellsOf 31 = 2 := by kernel_rfl
theorem cells3 : Try.prog.cellsOf 3 = 1 := by kernel_rfl
theorem weightsAll_mem {H : Type} {e : TypeId} {d : DataW H} {n : Nat} : ∀ {l : List (DataW H)}, d ∈ l → n ∈ d.weights Try.prog e → n ∈ DataW.weightsAll Try.prog e l
  | [], h, _ => absurd h (by simp)
  | x :: r, h, hn => by
    rw [DataW.weightsAll, List.mem_append]
    rcases List.mem_cons.1 h with rfl | h
    · exact Or.inl hn
    · exact Or.inr (weightsAll_mem h hn)
theorem list_of {α : Type} (Q : Nat → α → Prop) : ∀ n : Nat, (∀ i, i < n → ∃ x, Q i x) → ∃ l : List α, l.length = n ∧ ∀ i (h : i < l.length), Q i l[i]
  | 0, _ => ⟨[], rfl, fun i hi => absurd hi (Nat.not_lt_zero _)⟩
  | n + 1, h => by
    obtain ⟨l, hl, hq⟩ := list_of Q n fun i hi => h i (by omega)
    obtain ⟨x, hx⟩ := h n (by omega)
    refine ⟨l ++ [x], by rw [List.length_append, hl]; rfl, fun i hi => ?_⟩
    by_cases e : i < l.length
    · rw [List.getElem_append_left e]
      exact hq i e
    · rw [List.length_append, List.length_singleton] at hi
      obtain rfl : i = l.length := by omega
      rw [List.getElem_append_right (Nat.le_refl _)]
      simp only [Nat.sub_self, List.getElem_singleton]
      rw [hl]
      exact hx
section
variable {H : Type} {enc : TypeId × Value → H} {w : World} {base : Nat} {spare : Nat → Bool} {held : Bool}
theorem bd64 {x : Int} (h : (Lit.int .i64 x).wf = true) : I64 x := by
  simp [Lit.wf, IntKind.min, IntKind.max, IntKind.bits, IntKind.signed] at h
  unfold I64
  omega
theorem one_int {n : Nat} {v : Value} {y : DataW H × List MemPlace} (h : DataW.trod enc Try.prog w base spare held n 3 [v] = some y) : ∃ x, v = .int .i64 x ∧ I64 x := by
  obtain ⟨a, e, _, hw⟩ := DataW.trod_int Try.underlying3 h
  simp at e
  exact ⟨a, e, bd64 hw⟩
/-- A read that came in, its cells. -/
theorem one_read {n : Nat} {cs : List Value} {y : DataW H × List MemPlace} (h : DataW.trod enc Try.prog w base spare held n 45 cs = some y) : ∃ x : Rd, cs = [.int .i64 x.1, .int .i64 x.2] ∧ I64 x.1 ∧ I64 x.2 := by
  obtain ⟨y0, y1, k, hag, hl, t0, t1⟩ := trod_struct2 Try.underlying45 h
  rw [cells45] at hl
  match cs, hl with
  | [v0, v1], _ =>
    simp only [cells3, List.drop_zero, List.drop_succ_cons, List.take_succ_cons, List.take_zero] at t0 t1
    obtain ⟨s, rfl, hs⟩ := one_int t0
    obtain ⟨q, rfl, hq⟩ := one_int t1
    exact ⟨(s, q), rfl, hs, hq⟩
/-- Reads that came in. -/
theorem one_reads {fuel : Nat} {v : Value} {y : DataW H × List MemPlace} (hf : DataW.trod enc Try.prog w base spare held fuel 41 [v] = some y) (hz : ∀ m ∈ y.1.weights Try.prog 41, m ≤ reachBytes) :
    ∃ a len cap, v = .slice a len cap ∧ (a = none → len = 0 ∧ cap = 0) ∧ len ≤ 8796093021952 ∧ ∃ rs : List Rd, rs.length = len ∧ RdAt w a rs := by
  rcases open_slice Try.underlying41 hf with ⟨hcs, _⟩ | ⟨x, len, cap, m, n, D, Pl, hcs, _, hl, hcap, hm, hy, hx⟩
  · simp at hcs
    exact ⟨none, 0, 0, hcs, fun _ => ⟨rfl, rfl⟩, Nat.zero_le _, [], rfl, fun k hk => absurd hk (Nat.not_lt_zero _)⟩
  · simp at hcs
    have hlm : len ≤ m := by rw [hm]; split <;> omega
    have hsz : len ≤ 8796093021952 := by
      have := hz ((((List.range len).map D).length + ((List.range (m - len)).map fun j => D (len + j)).length) * Try.prog.bytesOf 45) (by rw [hy]; simp [DataW.weights, Try.underlying41])
      rw [bytes45] at this
      simp [reachBytes] at this
      omega
    refine ⟨some x, len, cap, hcs, fun e => (by cases e), hsz, ?_⟩
    obtain ⟨b, off, spot⟩ := x
    have hspot : 0 < len → spot = none := fun h0 => by
      obtain ⟨cs', h1, h2⟩ := hx 0 (by omega)
      obtain ⟨o, rfl, _⟩ := one_read h2
      rw [cells45] at h1
      obtain ⟨_, _, hcell⟩ := World.cells?_some h1
      have e0 := hcell 0 (by omega)
      rw [add_add] at e0
      simpa [Addr.add] using World.cell?_spot e0
    have each : ∀ i, i < len → ∃ o : Rd, spot = none ∧ RdIn w b off i o := by
      intro i hi
      have hs := hspot (by omega)
      obtain ⟨cs', h1, h2⟩ := hx i (by omega)
      obtain ⟨o, rfl, i0, i1⟩ := one_read h2
      rw [cells45] at h1
      obtain ⟨_, _, hcell⟩ := World.cells?_some h1
      have e0 := hcell 0 (by simp)
      have e1 := hcell 1 (by simp)
      subst hs
      simp only [Addr.add_mid] at e0 e1
      exact ⟨o, rfl, ⟨by simpa using e0, by simpa using e1, i0, i1⟩⟩
    obtain ⟨l, hll, hq⟩ := list_of (fun i o => spot = none ∧ RdIn w b off i o) len each
    refine ⟨l, hll, fun k hk => ?_⟩
    obtain ⟨hs, ho⟩ := hq k hk
    subst hs
    exact ⟨b, off, rfl, ho⟩
theorem in_reads {a : Option Addr} {len cap : Nat} {d : DataW H} {p : List MemPlace} (h : DataW.Trod enc Try.prog w base spare held 41 (.slice a len cap) d p) (hz : ∀ m ∈ d.weights Try.prog 41, m ≤ reachBytes) :
    (a = none → len = 0 ∧ cap = 0) ∧ len ≤ 8796093021952 ∧ ∃ rs : List Rd, rs.length = len ∧ RdAt w a rs := by
  obtain ⟨fuel, hf⟩ := h
  obtain ⟨a', len', cap', e, h1, h2, rs, h3, h4⟩ := one_reads (v := .slice a len cap) (y := (d, p)) hf hz
  cases e
  exact ⟨h1, h2, rs, h3, h4⟩
/-- Stages that came in. -/
theorem in_rungs {a : Option Addr} {len cap : Nat} {d : DataW H} {p : List MemPlace} (h : DataW.Trod enc Try.prog w base spare held 22 (.slice a len cap) d p) (hz : ∀ m ∈ d.weights Try.prog 22, m ≤ reachBytes) :
    (a = none → len = 0 ∧ cap = 0) ∧ len * 24 ≤ 140737488351232 ∧ ∃ L : List Rn, L.length = len ∧ RgAt w a L ∧ ∀ x ∈ L, x.r.length ≤ 8796093021952 := by
  obtain ⟨fuel, hf⟩ := h
  rcases open_slice Try.underlying22 hf with ⟨hcs, _⟩ | ⟨x, len', cap', m, n, D, Pl, hcs, _, hl, hcap, hm, hy, hx⟩
  · simp [Value.cells] at hcs
    obtain ⟨rfl, rfl, rfl⟩ := hcs
    exact ⟨fun _ => ⟨rfl, rfl⟩, by omega, [], rfl, fun k hk => absurd hk (Nat.not_lt_zero _), fun x hx => by simp at hx⟩
  · simp [Value.cells] at hcs
    obtain ⟨rfl, rfl, rfl⟩ := hcs
    have hlm : len ≤ m := by rw [hm]; split <;> omega
    have hsz : len * 24 ≤ 140737488351232 := by
      have := hz ((((List.range len).map D).length + ((List.range (m - len)).map fun j => D (len + j)).length) * Try.prog.bytesOf 43) (by simp only [Prod.mk.injEq] at hy; rw [hy.1]; simp [DataW.weights, Try.underlying22])
      rw [bytes43] at this
      simp [reachBytes] at this
      omega
    refine ⟨fun e => (by cases e), hsz, ?_⟩
    obtain ⟨b, off, spot⟩ := x
    have hspot : 0 < len → spot = none := fun h0 => by
      obtain ⟨cs', h1, h2⟩ := hx 0 (by omega)
      obtain ⟨_, _, _, hl2, _⟩ := trod_struct1 Try.underlying43 h2
      rw [cells43] at hl2 h1
      obtain ⟨_, _, hcell⟩ := World.cells?_some h1
      have e0 := hcell 0 (by omega)
      rw [add_add, List.getElem?_eq_getElem (by omega)] at e0
      simpa [Addr.add] using World.cell?_spot e0
    have each : ∀ i, i < len → ∃ o : Rn, spot = none ∧ RgIn w b off i o ∧ o.r.length ≤ 8796093021952 := by
      intro i hi
      have hs := hspot (by omega)
      have hzi : ∀ m ∈ (D i).weights Try.prog 43, m ≤ reachBytes := fun q hq => hz q (by
        simp only [Prod.mk.injEq] at hy
        rw [hy.1]
        simp only [DataW.weights, Try.underlying22]
        exact List.mem_cons_of_mem _ (List.mem_append_left _ (weightsAll_mem (List.mem_map.2 ⟨i, List.mem_range.2 hi, rfl⟩) hq)))
      obtain ⟨cs', h1, h2⟩ := hx i (by omega)
      obtain ⟨y0, k, hag, hl2, t0⟩ := trod_struct1 Try.underlying43 h2
      have hz0 : ∀ m ∈ y0.1.weights Try.prog 41, m ≤ reachBytes := fun q hq => hzi q (by
        simp only [Prod.mk.injEq] at hag
        rw [hag.1]
        simp only [DataW.weights, Try.underlying43]
        exact DataW.weights_mem_each (j := 0) (t := 41) rfl rfl q hq)
      rw [cells43] at hl2 h1
      match cs', hl2 with
      | [v0], _ =>
        simp only [cells41, List.drop_zero, List.take_succ_cons, List.take_zero] at t0
        obtain ⟨ra, rl, rc, rfl, hn, hr, rs, hrl, hrd⟩ := one_reads t0 hz0
        obtain ⟨_, _, hcell⟩ := World.cells?_some h1
        have e0 := hcell 0 (by simp)
        subst hs
        simp only [Addr.add_mid] at e0
        subst hrl
        exact ⟨⟨ra, rc, rs⟩, rfl, ⟨by simpa using e0, hrd, fun e => (hn e).2, Nat.le_trans hr (by decide)⟩, hr⟩
    obtain ⟨l, hll, hq⟩ := list_of (fun i o => spot = none ∧ RgIn w b off i o ∧ o.r.length ≤ 8796093021952) len each
    refine ⟨l, hll, fun k hk => ?_, fun x hx => ?_⟩
    · obtain ⟨hs, ho, _⟩ := hq k hk
      subst hs
      exact ⟨b, off, rfl, ho⟩
    · obtain ⟨k, hk, rfl⟩ := List.mem_iff_getElem.1 hx
      exact (hq k hk).2.2
/-- A chunk's place that came in. -/
theorem in_at {r : Reach} {b0 : Nat} {v : Value} {d : DataW H} {p : List MemPlace} (hv : Value.okWide Try.prog w r b0 31 v) (h : DataW.Trod enc Try.prog w base spare held 31 v d p) : ∃ x z : Int, v = .agg #[.int .i64 x, .int .i64 z] ∧ I64 x ∧ I64 z := by
  obtain ⟨cs, rfl, hsz⟩ := okWide_struct Try.underlying31 hv
  rw [cells31] at hsz
  obtain ⟨fuel, hf⟩ := h
  obtain ⟨y0, y1, k, hag, hl, t0, t1⟩ := trod_struct2 Try.underlying31 hf
  obtain ⟨l⟩ := cs
  simp only [Value.cells] at hl t0 t1
  rw [cells31] at hl
  match l, hl with
  | [v0, v1], _ =>
    simp only [cells3, List.drop_zero, List.drop_succ_cons, List.take_succ_cons, List.take_zero] at t0 t1
    obtain ⟨x, rfl, hx⟩ := one_int t0
    obtain ⟨z, rfl, hz⟩ := one_int t1
    exact ⟨x, z, rfl, hx, hz⟩
end
theorem len_max {n : Nat} (h : n * 24 ≤ 140737488351232) : n ≤ maxLen := by unfold maxLen; omega
end Go.Proofs.Ytokjbjfpgjincaa
