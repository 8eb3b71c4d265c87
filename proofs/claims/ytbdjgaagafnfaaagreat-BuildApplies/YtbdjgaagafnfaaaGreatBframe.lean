/-
  What all walks of stage 17 share: the box of the chunk's place; bytes as texts.
  What comes in: numbers, a chunk's place, runs and spots in a slice.
-/
import Derived.Test.YtbdjgaagafnfaaaGreatBspec
import Derived.Test.YtbdjgaagafnfaaaGreatBheld
import Derived.Test.YtbdjgaagafnfaaaGreatRows
import Derived.SizedLaws
import Derived.ProofKit
import Derived.OpenShut
import Derived.ChangeOld
import Derived.Lib.SmallJoins
import Derived.Deep.Slices
import Derived.Deep.Strs
set_option maxRecDepth 20000
namespace Go.Proofs.YtbdjgaagafnfaaaGreat
section
open C Go.RowKit

/-- A world behind the law's begin, in which the box of the chunk's place lies. -/
structure Bx (w : World) (cx cz : Int) (v : World) : Prop where
  bel : Below w.heap.size w v
  box : v.heap[w.heap.size]? = some (.cells #[.int .i64 cx, .int .i64 cz] 24 (0, 0))
theorem Bx.start (w : World) (cx cz : Int) : Bx w cx cz (w.alloc (.cells #[.int .i64 cx, .int .i64 cz] 24)) := ⟨(Below.refl _ _).alloc (Nat.le_refl _) _, heap_alloc_new w _⟩
theorem Bx.on {w : World} {cx cz : Int} {v v' : World} (h : Bx w cx cz v) (hb : Below v.heap.size v v') : Bx w cx cz v' := ⟨h.bel.trans (hb.mono h.bel.size), (hb.block _ (Array.getElem?_eq_some_iff.1 h.box).1).trans h.box⟩
theorem Bx.k0 {w : World} {cx cz : Int} {v : World} (h : Bx w cx cz v) : v.cell? ⟨w.heap.size, 0, none⟩ = some (.int .i64 cx) := (cell_of_row v w.heap.size 0 _ 24 (0, 0) h.box).trans rfl
theorem Bx.k1 {w : World} {cx cz : Int} {v : World} (h : Bx w cx cz v) : v.cell? ⟨w.heap.size, 1, none⟩ = some (.int .i64 cz) := (cell_of_row v w.heap.size 1 _ 24 (0, 0) h.box).trans rfl
theorem kinds_bad {cs : List Int} (h : Kinds cs) : ∀ n, badTo cs n = false
  | 0 => rfl
  | n + 1 => by
    unfold badTo
    rw [kinds_bad h n, decide_eq_false (by have := h.at n; omega)]
    rfl
theorem kinds_may {cs : List Int} (h : Kinds cs) (hl : cs.length = 32768) : mayC cs = 0 := by
  unfold mayC
  rw [hl, if_neg (by omega), if_neg (by omega), kinds_bad h]
  rfl
theorem Blk.conv2 {w : World} {g : Nat} {t : TypeId} {cs : List Int} (h : Blk w g t cs) (hl : cs.length = 32768) (hk : Kinds cs) : (convert 29 9 (.slice (some ⟨g, 0, none⟩) 32768 32768)).run Tryz.prog w = .ok (.string (strOfNums cs)) w := (Blk.pre h).conv hl hk
theorem Blk.src2 {w : World} {g : Nat} {t : TypeId} {cs : List Int} (h : Blk w g t cs) (hl : cs.length = 32768) (hk : Kinds cs) : Src w (some ⟨g, 0, none⟩) 32768 cs := by
  have := (Blk.pre h).src hk
  rwa [hl] at this
theorem far_bool (cx cz : Int) : ∃ β : Bool, β = false ↔ Far 1073741824 cx ∧ Far 1073741824 cz := by
  by_cases h : Far 1073741824 cx ∧ Far 1073741824 cz
  · exact ⟨false, fun _ => h, fun _ => rfl⟩
  · exact ⟨true, (fun e => by cases e), (fun h' => absurd h' h)⟩
theorem far_up {x : Int} (h : Far 1073741824 x) : Far 1073741825 x := ⟨by have := h.1; omega, by have := h.2; omega⟩
theorem far_pair {x : Int} (h : Far 1073741824 x) : -1073741825 ≤ x ∧ x ≤ 1073741825 := ⟨by have := h.1; omega, by have := h.2; omega⟩
end
section
open C Go.ChangeShapes Go.WideShapes Go.ChangeAt Go.RowKit Go.Joins Go.Deep

theorem own : ownKnob Tryz.prog.godebug = none := by kernel_rfl
theorem laidOut : laidOutB Tryz.prog = true := by kernel_rfl
theorem cells24 : Tryz.prog.cellsOf 24 = 2 := by kernel_rfl
theorem cells83 : Tryz.prog.cellsOf 83 = 4 := by kernel_rfl
theorem cells51 : Tryz.prog.cellsOf 51 = 2 := by kernel_rfl
theorem cells3 : Tryz.prog.cellsOf 3 = 1 := by kernel_rfl
theorem bdu64 {x : Int} (h : (Lit.int .u64 x).wf = true) : 0 ≤ x ∧ x ≤ 18446744073709551615 := by
  simp [Lit.wf, IntKind.min, IntKind.max, IntKind.bits, IntKind.signed] at h
  omega
theorem bd64 {x : Int} (h : (Lit.int .i64 x).wf = true) : I64 x := by
  simp [Lit.wf, IntKind.min, IntKind.max, IntKind.bits, IntKind.signed] at h
  unfold I64
  omega
theorem nat64 {s : Int} (hs : 0 ≤ s ∧ s ≤ 18446744073709551615) : ∃ S : Nat, s = (S : Int) ∧ S < 18446744073709551616 := ⟨s.toNat, by omega, by omega⟩
section
variable {H : Type} {enc : TypeId × Value → H} {w : World} {base : Nat} {spare : Nat → Bool} {held : Bool}
theorem one_int {n : Nat} {v : Value} {y : DataW H × List MemPlace} (h : DataW.trod enc Tryz.prog w base spare held n 3 [v] = some y) : ∃ x, v = .int .i64 x ∧ I64 x := by
  obtain ⟨a, e, _, hw⟩ := DataW.trod_int Tryz.underlying3 h
  simp at e
  exact ⟨a, e, bd64 hw⟩
/-- A chunk's place that came in. -/
theorem in_at {r : Reach} {b0 : Nat} {v : Value} {d : DataW H} {p : List MemPlace} (hv : Value.okWide Tryz.prog w r b0 24 v) (h : DataW.Trod enc Tryz.prog w base spare held 24 v d p) : ∃ x z : Int, v = .agg #[.int .i64 x, .int .i64 z] ∧ I64 x ∧ I64 z := by
  obtain ⟨cs, rfl, hsz⟩ := okWide_struct Tryz.underlying24 hv
  rw [cells24] at hsz
  obtain ⟨fuel, hf⟩ := h
  obtain ⟨y0, y1, k, hag, hl, t0, t1⟩ := trod_struct2 Tryz.underlying24 hf
  obtain ⟨l⟩ := cs
  simp only [Value.cells] at hl t0 t1
  rw [cells24] at hl
  match l, hl with
  | [v0, v1], _ =>
    simp only [cells3, List.drop_zero, List.drop_succ_cons, List.take_succ_cons, List.take_zero] at t0 t1
    obtain ⟨x, rfl, hx⟩ := one_int t0
    obtain ⟨z, rfl, hz⟩ := one_int t1
    exact ⟨x, z, rfl, hx, hz⟩
def SpotOk (q : Spot) : Prop := I64 q.n ∧ I64 q.i ∧ I64 q.h ∧ I64 q.b
theorem four_ints {n : Nat} {cs : List Value} {y : DataW H × List MemPlace} (h : DataW.trod enc Tryz.prog w base spare held n 83 cs = some y) : ∃ x : Spot, cs = [.int .i64 x.n, .int .i64 x.i, .int .i64 x.h, .int .i64 x.b] ∧ SpotOk x := by
  obtain ⟨y0, y1, y2, y3, m, _, hl, h0, h1, h2, h3⟩ := trod_struct4 Tryz.underlying83 h
  rw [cells83] at hl
  match cs, hl with
  | [c0, c1, c2, c3], _ =>
    simp only [cells3, List.drop_zero, List.drop_succ_cons, List.take_succ_cons, List.take_zero] at h0 h1 h2 h3
    obtain ⟨d, rfl, hd⟩ := one_int h0
    obtain ⟨a, rfl, ha⟩ := one_int h1
    obtain ⟨b, rfl, hb⟩ := one_int h2
    obtain ⟨k, rfl, hk⟩ := one_int h3
    exact ⟨⟨d, a, b, k⟩, rfl, hd, ha, hb, hk⟩
theorem list_of {α : Type} (Q : Nat → α → Prop) : ∀ n : Nat, (∀ i, i < n → ∃ x, Q i x) → ∃ l : List α, l.length = n ∧ ∀ i, i < n → ∃ x, l[i]? = some x ∧ Q i x
  | 0, _ => ⟨[], rfl, fun i hi => absurd hi (Nat.not_lt_zero _)⟩
  | n + 1, h => by
    obtain ⟨l, hl, hq⟩ := list_of Q n fun i hi => h i (by omega)
    obtain ⟨x, hx⟩ := h n (by omega)
    refine ⟨l ++ [x], by rw [List.length_append, hl]; rfl, fun i hi => ?_⟩
    by_cases e : i = n
    · subst e
      exact ⟨x, by rw [List.getElem?_append_right (by omega), hl, Nat.sub_self]; rfl, hx⟩
    · obtain ⟨y, hy, hQ⟩ := hq i (by omega)
      exact ⟨y, by rw [List.getElem?_append_left (by omega)]; exact hy, hQ⟩
/-- Spots that came in. -/
theorem in_spots {a : Option Addr} {len cap : Nat} {d : DataW H} {p : List MemPlace} (h : DataW.Trod enc Tryz.prog w base spare held 26 (.slice a len cap) d p) : ∃ l : List Spot, SpotsAt w w.heap.size a len l ∧ len ≤ 9223372036854775807 := by
  obtain ⟨fuel, hf⟩ := h
  rcases open_slice Tryz.underlying26 hf with ⟨hcs, _⟩ | ⟨x, len', cap', m, n, D, Pl, hcs, _, hl, hcap, hm, _, hx⟩
  · simp [Value.cells] at hcs
    obtain ⟨rfl, rfl, rfl⟩ := hcs
    exact ⟨[], ⟨rfl, fun k hk => absurd hk (Nat.not_lt_zero _), fun k hk => absurd hk (Nat.not_lt_zero _)⟩, Nat.zero_le _⟩
  · simp [Value.cells] at hcs
    obtain ⟨rfl, rfl, rfl⟩ := hcs
    have hlm : len ≤ m := by rw [hm]; split <;> omega
    have each : ∀ i, i < len → ∃ q : Spot, w.cell? (x.add (i * 4)) = some (.int .i64 q.n) ∧ w.cell? (x.add (i * 4 + 1)) = some (.int .i64 q.i) ∧ w.cell? (x.add (i * 4 + 2)) = some (.int .i64 q.h) ∧ w.cell? (x.add (i * 4 + 3)) = some (.int .i64 q.b) ∧ SpotOk q := by
      intro i hi
      obtain ⟨cs', h1, h2⟩ := hx i (by omega)
      obtain ⟨q, rfl, hq⟩ := four_ints h2
      rw [cells83] at h1
      obtain ⟨_, _, hcell⟩ := World.cells?_some h1
      have e0 := hcell 0 (by simp)
      have e1 := hcell 1 (by simp)
      have e2 := hcell 2 (by simp)
      have e3 := hcell 3 (by simp)
      rw [add_add] at e0 e1 e2 e3
      exact ⟨q, by simpa using e0, by simpa using e1, by simpa using e2, by simpa using e3, hq⟩
    obtain ⟨l, hlen, hq⟩ := list_of _ len each
    refine ⟨l, ⟨hlen, fun k hk => ?_, fun k hk => ?_⟩, by unfold maxLen at hcap; omega⟩
    · obtain ⟨q, hq1, c0, c1, c2, c3, _⟩ := hq k hk
      obtain ⟨b, off, spot⟩ := x
      have hs : spot = none := by
        obtain ⟨_, _, z0, _⟩ := hq 0 (by omega)
        simpa [Addr.add] using World.cell?_spot z0
      subst hs
      rw [Addr.add_mid] at c0 c1 c2 c3
      have e : l.getD k spot0 = q := by rw [List.getD_eq_getElem?_getD, hq1]; rfl
      rw [e]
      exact ⟨b, off, rfl, World.block_lt_of_cell? w _ c0, c0, by rw [Nat.add_assoc]; exact c1, by rw [Nat.add_assoc]; exact c2, by rw [Nat.add_assoc]; exact c3⟩
    · obtain ⟨q, hq1, _, _, _, _, hq2⟩ := hq k hk
      have e : l.getD k spot0 = q := by rw [List.getD_eq_getElem?_getD, hq1]; rfl
      rw [e]
      exact hq2
theorem two_ints {n : Nat} {cs : List Value} {y : DataW H × List MemPlace} (h : DataW.trod enc Tryz.prog w base spare held n 51 cs = some y) : ∃ x z, cs = [.int .i64 x, .int .i64 z] := by
  obtain ⟨y0, y1, m, _, hl, h0, h1⟩ := trod_struct2 Tryz.underlying51 h
  rw [cells51] at hl
  match cs, hl with
  | [c0, c1], _ =>
    simp only [cells3, List.drop_zero, List.drop_succ_cons, List.take_succ_cons, List.take_zero] at h0 h1
    obtain ⟨d, rfl, _⟩ := one_int h0
    obtain ⟨a, rfl, _⟩ := one_int h1
    exact ⟨d, a, rfl⟩
/-- Runs that came in. -/
theorem open_runs {a : Option Addr} {len cap : Nat} {d : DataW H} {p : List MemPlace} (h : DataW.Trod enc Tryz.prog w base spare held 25 (.slice a len cap) d p) : Runs w a len := by
  obtain ⟨fuel, hf⟩ := h
  rcases open_slice Tryz.underlying25 hf with ⟨hcs, _⟩ | ⟨x, len', cap', m, n, D, Pl, hcs, _, hl, _, hm, _, hx⟩
  · simp [Value.cells] at hcs
    obtain ⟨rfl, rfl, rfl⟩ := hcs
    exact fun k hk => absurd hk (Nat.not_lt_zero _)
  · simp [Value.cells] at hcs
    obtain ⟨rfl, rfl, rfl⟩ := hcs
    have hlm : len ≤ m := by rw [hm]; split <;> omega
    have each : ∀ i, i < len → ∃ q r : Int, w.cell? (x.add (i * 2)) = some (.int .i64 q) ∧ w.cell? (x.add (i * 2 + 1)) = some (.int .i64 r) := by
      intro i hi
      obtain ⟨cs', h1, h2⟩ := hx i (by omega)
      obtain ⟨q, r, rfl⟩ := two_ints h2
      rw [cells51] at h1
      obtain ⟨_, _, hcell⟩ := World.cells?_some h1
      have e0 := hcell 0 (by simp)
      have e1 := hcell 1 (by simp)
      rw [add_add] at e0 e1
      exact ⟨q, r, by simpa using e0, by simpa using e1⟩
    intro i hi
    obtain ⟨q, r, c0, c1⟩ := each i hi
    obtain ⟨b, off, spot⟩ := x
    have hs : spot = none := by
      obtain ⟨_, _, z0, _⟩ := each 0 (by omega)
      simpa [Addr.add] using World.cell?_spot z0
    subst hs
    rw [Addr.add_mid] at c0 c1
    exact ⟨b, off, q, r, rfl, World.block_lt_of_cell? w _ c0, c0, c1⟩
end
end
end Go.Proofs.YtbdjgaagafnfaaaGreat
