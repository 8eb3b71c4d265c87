/-
  Lists of numbers in memory; what is asked of a strata's package, as a structure: the laws are walked over it. The document's Fill, and the columns that the statements make.
-/
import Derived.Test.YtbdjgaagafnfaaaTref
import Derived.Test.YtbdjgaagafnfaaaCAwake
import Derived.Test.YtbdjgaagafnfaaaHmap
set_option maxRecDepth 20000
namespace Go.Proofs.Ytbdjgaagafnfaaa
open C Go.RowKit

/-- A list of numbers that a slice shows. -/
structure IntsAt (w : World) (a : Option Addr) (n : Nat) (xs : List Int) : Prop where
  len : xs.length = n
  cells : ∀ k, k < n → ∃ b o, a = some ⟨b, o, none⟩ ∧ w.cell? ⟨b, o + k, none⟩ = some (.int .i64 (xs.getD k 0))
theorem IntsAt.on {w w' : World} {a : Option Addr} {n : Nat} {xs : List Int} (h : IntsAt w a n xs) (hb : Below w.heap.size w w') : IntsAt w' a n xs :=
  ⟨h.len, fun k hk => by
    obtain ⟨b, o, e, hc⟩ := h.cells k hk
    exact ⟨b, o, e, cell_below hc hb⟩⟩
theorem IntsAt.at {w : World} {b o n : Nat} {xs : List Int} (h : IntsAt w (some ⟨b, o, none⟩) n xs) (k : Nat) (hk : k < n) : w.cell? ⟨b, o + k, none⟩ = some (.int .i64 (xs.getD k 0)) := by
  obtain ⟨b', o', e, hc⟩ := h.cells k hk
  cases e
  exact hc
theorem IntsAt.some {w : World} {a : Option Addr} {n : Nat} {xs : List Int} (h : IntsAt w a n xs) (hn : 0 < n) : ∃ b o, a = .some ⟨b, o, none⟩ := by
  obtain ⟨b, o, e, _⟩ := h.cells 0 hn
  exact ⟨b, o, e⟩
theorem ColsAt.ints {w : World} {a : Option Addr} {xs : List Int} (h : ColsAt w a xs) : IntsAt w a xs.length xs := by
  obtain ⟨b, off, e, hc⟩ := h
  refine ⟨rfl, fun k hk => ⟨b, off, e, ?_⟩⟩
  rw [hc k hk, List.getD_eq_getElem?_getD, List.getElem?_eq_getElem hk]
  rfl
theorem IntsAt.take {w : World} {a : Option Addr} {n m : Nat} {xs : List Int} (h : IntsAt w a n xs) (hm : m ≤ n) : IntsAt w a m (xs.take m) :=
  ⟨by rw [List.length_take, h.len]; omega, fun k hk => by
    obtain ⟨b, o, e, hc⟩ := h.cells k (by omega)
    refine ⟨b, o, e, ?_⟩
    rw [hc]
    simp [List.getD_eq_getElem?_getD, hk]⟩
/-- A block of numbers. -/
def IBlk (w : World) (b : Nat) (xs : List Int) : Prop := w.heap[b]? = some (.cells (xs.map (Value.int .i64)).toArray 3 (0, 0))
theorem IBlk.lt {w : World} {b : Nat} {xs : List Int} (h : IBlk w b xs) : b < w.heap.size := (Array.getElem?_eq_some_iff.1 h).1
theorem IBlk.cell {w : World} {b : Nat} {xs : List Int} (h : IBlk w b xs) {k : Nat} (hk : k < xs.length) : w.cell? ⟨b, k, none⟩ = some (.int .i64 (xs.getD k 0)) := by
  rw [cell_of_row w b k _ 3 (0, 0) h]
  simp [List.getD_eq_getElem?_getD, hk]
theorem IBlk.free {w : World} {b : Nat} {xs : List Int} (h : IBlk w b xs) (k : Nat) : w.frozen? ⟨b, k, none⟩ = false := frozen_of_row w b k _ 3 h
theorem IBlk.set {w : World} {b : Nat} {xs : List Int} (h : IBlk w b xs) (k : Nat) (x : Int) : IBlk (w.setCell ⟨b, k, none⟩ (.int .i64 x)) b (xs.set k x) := by
  unfold IBlk
  rw [heap_setCell_same w b k _ 3 _ h]
  simp
theorem IBlk.ints {w : World} {b : Nat} {xs : List Int} (h : IBlk w b xs) {n : Nat} (hn : xs.length = n) : IntsAt w (.some ⟨b, 0, none⟩) n xs :=
  ⟨hn, fun k hk => ⟨b, 0, rfl, by rw [Nat.zero_add]; exact h.cell (by omega)⟩⟩
theorem getD_set (zs : List Int) (i j : Nat) (v : Int) (hi : i < zs.length) : (zs.set i v).getD j 0 = if i = j then v else zs.getD j 0 := by
  rw [List.getD_eq_getElem?_getD, List.getD_eq_getElem?_getD, List.getElem?_set]
  by_cases h : i = j
  · rw [if_pos h, if_pos h, if_pos hi]
    rfl
  · rw [if_neg h, if_neg h]

theorem wp_region_tail {P : Program} {id : Nat} {Q : Exit → Act → World → Prop} {a : Act} {w : World} {l : List Oper} (n : Nat) (hm : P.follows .mixedOrders = true) (hB : Region.lexTailB .any l.toArray n = true)
    (h : wpStill P l.toArray (w.drewN 1) (fun a' => wpList P l.toArray Q (l.drop n) a' (w.drewN 1)) (l.take n) a) : (Code.region id l.toArray true).wp P Q a w :=
  wp_region_still_tail n hm hB h
theorem below_drewN {B : Nat} {a w : World} (h : Below B a w) (n : Nat) : Below B a (w.drewN n) := ⟨h.os, h.tape, h.output, h.size, h.block⟩

/-! ### what is asked -/
/-! ### the document's Fill -/
def badAt (H B : List Int) (i : Nat) : Prop := H.getD i 0 < 0 ∨ 128 ≤ H.getD i 0 ∨ B.getD i 0 < 0 ∨ 4 ≤ B.getD i 0
theorem okCols_no {H B : List Int} {i : Nat} (hi : i < 256) (h : badAt H B i) : ¬ okCols H B := fun ⟨_, _, hk⟩ => by
  have := hk i hi
  unfold badAt at h
  omega
theorem okCols_yes {H B : List Int} (h1 : H.length = 256) (h2 : B.length = 256) (h : ∀ i, i < 256 → ¬ badAt H B i) : okCols H B := ⟨h1, h2, fun i hi => by
  have := h i hi
  unfold badAt at this
  omega⟩
/-- What the document's Fill answers. -/
def RfSay (H B : List Int) (w : World) (e : Ending) (w' : World) : Prop :=
  Below w.heap.size w w' ∧ (okCols H B → ∃ g, w.heap.size ≤ g ∧ e = .returned (.tuple #[.slice (some ⟨g, 0, none⟩) 32768 32768, .int .i64 0]) ∧ Blk w' g 5 (fillN H B)) ∧ (¬ okCols H B → e = .returned (.tuple #[.slice none 0 0, .int .i64 1]))
theorem RfSay.no {H B : List Int} {w w' : World} (h : ¬ okCols H B) (hb : Below w.heap.size w w') : RfSay H B w (.returned (.tuple #[.slice none 0 0, .int .i64 1])) w' :=
  ⟨hb, fun h' => absurd h' h, fun _ => rfl⟩
end Go.Proofs.Ytbdjgaagafnfaaa