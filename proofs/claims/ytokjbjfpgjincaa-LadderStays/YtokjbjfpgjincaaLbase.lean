/-
  Memory: ladders, rows of numbers, tasks; what is asked of a ladder's package, as a structure: the laws are walked over it.
-/
import Derived.Test.YtokjbjfpgjincaaProg
import Derived.WalkKit
import Derived.WalkLawsBesides
import Derived.WalkSpells
import Derived.Below
import Derived.Deep.MidRow
import Derived.Deep.OwnRows
import Derived.Deep.WholeRow
import Derived.Laws.AppendOwnNone
import Derived.Lib.Walk
import Derived.BigQuiet
import Derived.StillTailTactics
import Derived.Test.YtokjbjfpgjincaaLmath
set_option maxRecDepth 20000
namespace Go.Proofs.Ytokjbjfpgjincaa
open Go.RowKit

def I64 (x : Int) : Prop := -9223372036854775808 ≤ x ∧ x ≤ 9223372036854775807
theorem wp_region_tail {P : Program} {id : Nat} {Q : Exit → Act → World → Prop} {a : Act} {w : World} {l : List Oper} (n : Nat) (hm : P.follows .mixedOrders = true) (hB : Region.lexTailB .any l.toArray n = true)
    (h : wpStill P l.toArray (w.drewN 1) (fun a' => wpList P l.toArray Q (l.drop n) a' (w.drewN 1)) (l.take n) a) : (Code.region id l.toArray true).wp P Q a w :=
  wp_region_still_tail n hm hB h
theorem below_drewN {B : Nat} {a w : World} (h : Below B a w) (n : Nat) : Below B a (w.drewN n) := ⟨h.os, h.tape, h.output, h.size, h.block⟩
theorem cell_below {w w' : World} {b j : Nat} {v : Value} (hv : w.cell? ⟨b, j, none⟩ = some v) (hb : Below w.heap.size w w') : w'.cell? ⟨b, j, none⟩ = some v :=
  (hb.cell (p := ⟨b, j, none⟩) (World.block_lt_of_cell? w _ hv)).trans hv
/-! ### ladders -/
/-- A stage in memory: its reads, and where they lie. -/
structure Rn where
  a : Option Addr
  c : Nat
  r : List Rd
structure RdIn (w : World) (b off j : Nat) (x : Rd) : Prop where
  c0 : w.cell? ⟨b, off + j * 2, none⟩ = some (.int .i64 x.1)
  c1 : w.cell? ⟨b, off + j * 2 + 1, none⟩ = some (.int .i64 x.2)
  i0 : I64 x.1
  i1 : I64 x.2
def RdAt (w : World) (a : Option Addr) (rs : List Rd) : Prop := ∀ j (h : j < rs.length), ∃ b off, a = some ⟨b, off, none⟩ ∧ RdIn w b off j rs[j]
structure RgIn (w : World) (b off i : Nat) (x : Rn) : Prop where
  c0 : w.cell? ⟨b, off + i, none⟩ = some (.slice x.a x.r.length x.c)
  rd : RdAt w x.a x.r
  nil : x.a = none → x.c = 0
  sz : x.r.length ≤ 8796093022208
def RgAt (w : World) (a : Option Addr) (L : List Rn) : Prop := ∀ i (h : i < L.length), ∃ b off, a = some ⟨b, off, none⟩ ∧ RgIn w b off i L[i]
def lad (L : List Rn) : Lad := L.map Rn.r
theorem lad_len (L : List Rn) : (lad L).length = L.length := by simp [lad]
theorem lad_at (L : List Rn) (i : Nat) (h : i < L.length) : (lad L).getD i [] = L[i].r := by
  unfold lad
  rw [List.getD_eq_getElem?_getD, List.getElem?_map, List.getElem?_eq_getElem h]
  rfl
theorem RdIn.on {w w' : World} {b off j : Nat} {x : Rd} (h : RdIn w b off j x) (hb : Below w.heap.size w w') : RdIn w' b off j x := ⟨cell_below h.c0 hb, cell_below h.c1 hb, h.i0, h.i1⟩
theorem RdAt.on {w w' : World} {a : Option Addr} {rs : List Rd} (h : RdAt w a rs) (hb : Below w.heap.size w w') : RdAt w' a rs := fun j hj => by
  obtain ⟨b, off, e, h1⟩ := h j hj
  exact ⟨b, off, e, h1.on hb⟩
theorem RgIn.on {w w' : World} {b off i : Nat} {x : Rn} (h : RgIn w b off i x) (hb : Below w.heap.size w w') : RgIn w' b off i x := ⟨cell_below h.c0 hb, h.rd.on hb, h.nil, h.sz⟩
theorem RgAt.on {w w' : World} {a : Option Addr} {L : List Rn} (h : RgAt w a L) (hb : Below w.heap.size w w') : RgAt w' a L := fun i hi => by
  obtain ⟨b, off, e, h1⟩ := h i hi
  exact ⟨b, off, e, h1.on hb⟩
/-! ### rows of numbers -/
def IntsAt (w : World) (a : Option Addr) (xs : List Int) : Prop := xs = [] ∨ ∃ b off, a = some ⟨b, off, none⟩ ∧ ∀ j (h : j < xs.length), w.cell? ⟨b, off + j, none⟩ = some (.int .i64 xs[j])
theorem IntsAt.on {w w' : World} {a : Option Addr} {xs : List Int} (h : IntsAt w a xs) (hb : Below w.heap.size w w') : IntsAt w' a xs := by
  rcases h with h | ⟨b, off, e, hc⟩
  · exact .inl h
  · exact .inr ⟨b, off, e, fun j hj => cell_below (hc j hj) hb⟩
def ivals (xs : List Int) : Array Value := (xs.map (Value.int .i64)).toArray
def IRow (w : World) (b : Nat) (xs : List Int) : Prop := w.heap[b]? = some (.cells (ivals xs) 3 (0, 0))
theorem IRow.at {w : World} {b : Nat} {xs : List Int} (H : IRow w b xs) {i : Nat} (hi : i < xs.length) : w.cell? ⟨b, i, none⟩ = some (.int .i64 (xs.getD i (-1))) := by
  rw [cell_of_row w b i _ 3 (0, 0) H, List.getD_eq_getElem?_getD, List.getElem?_eq_getElem hi]
  simp [ivals, hi]
theorem IRow.free {w : World} {b : Nat} {xs : List Int} (H : IRow w b xs) (i : Nat) : w.frozen? ⟨b, i, none⟩ = false := frozen_of_row w _ _ _ 3 H
theorem IRow.set {w : World} {b : Nat} {xs : List Int} (H : IRow w b xs) (i : Nat) (x : Int) : IRow (w.setCell ⟨b, i, none⟩ (.int .i64 x)) b (xs.set i x) := by
  unfold IRow
  rw [heap_setCell_same w b i _ 3 _ H]
  simp [ivals]
theorem IRow.lt {w : World} {b : Nat} {xs : List Int} (H : IRow w b xs) : b < w.heap.size := (Array.getElem?_eq_some_iff.1 H).1
theorem IRow.on {w w' : World} {b : Nat} {xs : List Int} (H : IRow w b xs) (hb : Below w.heap.size w w') : IRow w' b xs := (hb.block b H.lt).trans H
theorem IRow.ints {w : World} {b : Nat} {xs : List Int} (H : IRow w b xs) : IntsAt w (some ⟨b, 0, none⟩) xs := .inr ⟨b, 0, rfl, fun j hj => by
  rw [Nat.zero_add, H.at hj, List.getD_eq_getElem?_getD, List.getElem?_eq_getElem hj]
  rfl⟩
theorem info3 : (Try.prog.info? 3).map (fun i => (i.zero, i.size, i.bytes)) = some (some (.int .i64 0), 1, 8) := by kernel_rfl
theorem own_full {w : World} {base g N : Nat} {e : TypeId} {xs : List Value} (h : w.ownsRow base e 1 (.slice (some ⟨g, 0, none⟩) N N) N xs) : w.heap[g]? = some (.cells xs.toArray e (0, 0)) := by
  rcases h.2 with ⟨h', _⟩ | ⟨g', cap, cur, hv, _, hh, _, _, hs, ht⟩
  · simp at h'
  · simp only [Value.slice.injEq, Option.some.injEq, Addr.mk.injEq, and_true, true_and] at hv
    obtain ⟨rfl, rfl⟩ := hv
    rw [hh]
    have e1 : cur.toList = xs := by
      rw [List.take_of_length_le (by simp; omega)] at ht
      exact ht
    rw [← e1]
theorem made_ints (n : Nat) : madeCells #[.int .i64 0] n = ivals (List.replicate n 0) := by
  apply Array.ext
  · simp [madeCells, ivals]
  · intro i h1 h2
    simp [madeCells, ivals]
    rw [Nat.mod_one]
    rfl
theorem wpList_make_ints (w : World) {ops : Array Oper} {rest : List Oper} {o : Oper} {a : Act} {Q : Exit → Act → World → Prop}
    (hg : o.guard = none) (l c : Operand) (hop : o.op = Op.makeSlice 25 l c) (L : Int) (n : Nat) (hl : a.eval l = .int .i64 L) (hc : a.eval c = .int .i64 L) (hL : L = (n : Int)) (hn : n ≤ 1000000000)
    (hK : ∀ w', Hid (IRow w' w.heap.size (List.replicate n 0)) → Below w.heap.size w w' → wpList Try.prog ops Q rest (a.put o.dst (.slice (some ⟨w.heap.size, 0, none⟩) n n)) w') :
    wpList Try.prog ops Q (o :: rest) a w := by
  obtain ⟨i, hi, hz0, hz1, hz2⟩ := info_parts info3
  refine wpList_make_full w hg l c 25 hop w.heap.size 3 i (.int .i64 0) 1 Try.underlying25 hi hz0 hz1 .i64 .i64 L L n hl hc hL hL (by rw [hz2]; omega) (by unfold maxLen; omega) (Nat.le_refl _) ?_
  intro w' hown hgrow
  refine hK w' ?_ ((Below.refl _ _).grown hgrow (Nat.le_refl _) (by simp))
  have := own_full hown
  show IRow _ _ _
  unfold IRow
  rw [this, Nat.mul_one]
  show some (Obj.cells (madeCells #[Value.int .i64 0] n) 3 (0, 0)) = _
  rw [made_ints]
/-! ### tasks -/
structure TkIn (w : World) (b off k : Nat) (t : Tk) : Prop where
  c0 : w.cell? ⟨b, off + k * 3, none⟩ = some (.int .i64 t.1)
  c1 : w.cell? ⟨b, off + k * 3 + 1, none⟩ = some (.int .i64 t.2.1)
  c2 : w.cell? ⟨b, off + k * 3 + 2, none⟩ = some (.int .i64 t.2.2)
def TksAt (w : World) (a : Option Addr) (ts : List Tk) : Prop := ts = [] ∨ ∃ b off, a = some ⟨b, off, none⟩ ∧ ∀ k (h : k < ts.length), TkIn w b off k ts[k]
theorem TkIn.on {w w' : World} {b off k : Nat} {t : Tk} (h : TkIn w b off k t) (hb : Below w.heap.size w w') : TkIn w' b off k t := ⟨cell_below h.c0 hb, cell_below h.c1 hb, cell_below h.c2 hb⟩
theorem TksAt.on {w w' : World} {a : Option Addr} {ts : List Tk} (h : TksAt w a ts) (hb : Below w.heap.size w w') : TksAt w' a ts := by
  rcases h with h | ⟨b, off, e, hc⟩
  · exact .inl h
  · exact .inr ⟨b, off, e, fun k hk => (hc k hk).on hb⟩
/-! ### what is asked -/
def worldLad : Lad := [[], [(0, 0)], [(1, 1)], [(2, 0)], [(3, 0), (0, 1)], [(4, 1)]]
def Far (n : Int) (x : Int) : Prop := -n ≤ x ∧ x ≤ n
structure LSpec where
  may_ : ∀ (a : Option Addr) (n c : Nat) (L : List Rn) (w : World), RgAt w a L → L.length = n → n ≤ maxLen →
    Calls Try.prog 10 #[.slice a n c] w fun e w' => e = .returned (.bool (mayB (lad L))) ∧ Below w.heap.size w w'
  radii_ : ∀ (a : Option Addr) (n c : Nat) (L : List Rn) (k : Int) (w : World), RgAt w a L → L.length = n → n ≤ maxLen → I64 k →
    Calls Try.prog 14 #[.slice a n c, .int .i64 k] w fun e w' => Below w.heap.size w w' ∧ ∃ a' c', e = .returned (.slice a' (radL (lad L) k).length c') ∧ IntsAt w' a' (radL (lad L) k) ∧ (radL (lad L) k).length ≤ c'
  cap_ : ∀ (a : Option Addr) (n c : Nat) (L : List Rn) (k : Int) (w : World), RgAt w a L → L.length = n → n ≤ maxLen → I64 k →
    Calls Try.prog 15 #[.slice a n c, .int .i64 k] w fun e w' => e = .returned (.int .i64 (capS (radL (lad L) k))) ∧ Below w.heap.size w w'
  tasks_ : ∀ (a : Option Addr) (n c : Nat) (L : List Rn) (k x z : Int) (w : World), RgAt w a L → L.length = n → n ≤ maxLen → I64 k → Far 1099511627776 x → Far 1099511627776 z →
    Calls Try.prog 17 #[.slice a n c, .int .i64 k, .agg #[.int .i64 x, .int .i64 z]] w fun e w' => Below w.heap.size w w' ∧ ∃ a' c', e = .returned (.slice a' (tasksL (lad L) k x z).length c') ∧ TksAt w' a' (tasksL (lad L) k x z)
  needs_ : ∀ (a : Option Addr) (n c : Nat) (L : List Rn) (k x z : Int) (w : World), RgAt w a L → L.length = n → n ≤ maxLen → I64 k → Far 2199023255552 x → Far 2199023255552 z →
    Calls Try.prog 19 #[.slice a n c, .agg #[.int .i64 k, .int .i64 x, .int .i64 z]] w fun e w' => Below w.heap.size w w' ∧ ∃ a' c', e = .returned (.slice a' (needsL (lad L) (k, x, z)).length c') ∧ TksAt w' a' (needsL (lad L) (k, x, z))
  world_ : ∀ (w : World), Calls Try.prog 21 #[] w fun e w' => Below w.heap.size w w' ∧ ∃ a c L, e = .returned (.slice a 6 c) ∧ RgAt w' a L ∧ lad L = worldLad
end Go.Proofs.Ytokjbjfpgjincaa
