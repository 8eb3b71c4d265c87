/-
  Memory: what the proofs share.
-/
import Derived.Test.YtffhnecdmdmmkaaProg
import Derived.WalkKit
import Derived.WalkLawsBesides
import Derived.WalkSpells
import Derived.Below
import Derived.Deep.MidRow
import Derived.Deep.OwnRows
import Derived.Deep.WholeRow
import Derived.Laws.AppendOwnNone
import Derived.Lib.Walk
import Derived.BigQuiet
import Derived.Test.YtffhnecdmdmmkaaSmath
namespace Go.Proofs.Ytffhnecdmdmmkaa
open Go.RowKit

theorem ret_int {k : IntKind} {a b : Int} (h : a = b) : Ending.returned (.int k a) = .returned (.int k b) := by rw [h]
theorem ret_bool {a b : Bool} (h : a = b) : Ending.returned (.bool a) = .returned (.bool b) := by rw [h]
def I64 (x : Int) : Prop := -9223372036854775808 ≤ x ∧ x ≤ 9223372036854775807
/-- Just block g is another one. -/
structure Only (g : Nat) (w w' : World) : Prop where
  os : w'.os = w.os
  tape : w'.tape = w.tape
  output : w'.output = w.output
  size : w'.heap.size = w.heap.size
  block : ∀ k, k ≠ g → w'.heap[k]? = w.heap[k]?
theorem Only.refl (g : Nat) (w : World) : Only g w w := ⟨rfl, rfl, rfl, rfl, fun _ _ => rfl⟩
theorem Only.set {g : Nat} {a w : World} (h : Only g a w) (k : Nat) (v : Value) : Only g a (w.setCell ⟨g, k, none⟩ v) :=
  ⟨h.os, h.tape, h.output, by rw [← h.size]; simp [World.setCell], fun j hj => (Below.heap_setCell w ⟨g, k, none⟩ v j hj).trans (h.block j hj)⟩
theorem Only.below {g B : Nat} {w w' : World} (h : Only g w w') (hB : B ≤ g) : Below B w w' :=
  ⟨h.os, h.tape, h.output, Nat.le_of_eq h.size.symm, fun k hk => h.block k (by omega)⟩
theorem Only.drewN {g : Nat} {a w : World} (h : Only g a w) (n : Nat) : Only g a (w.drewN n) := ⟨h.os, h.tape, h.output, h.size, h.block⟩
/-- Just blocks of F, and new ones, are others. -/
structure Chg (F : Nat → Prop) (w w' : World) : Prop where
  os : w'.os = w.os
  tape : w'.tape = w.tape
  output : w'.output = w.output
  size : w.heap.size ≤ w'.heap.size
  block : ∀ k, k < w.heap.size → ¬ F k → w'.heap[k]? = w.heap[k]?
theorem Chg.refl (F : Nat → Prop) (w : World) : Chg F w w := ⟨rfl, rfl, rfl, Nat.le_refl _, fun _ _ _ => rfl⟩
theorem Chg.trans {F G : Nat → Prop} {a b c : World} (h : Chg F a b) (k : Chg G b c) (hG : ∀ j, G j → F j ∨ a.heap.size ≤ j) : Chg F a c :=
  ⟨k.os.trans h.os, k.tape.trans h.tape, k.output.trans h.output, Nat.le_trans h.size k.size, fun j hj hf => by
    rw [k.block j (Nat.lt_of_lt_of_le hj h.size) (fun hg => (hG j hg).elim hf (fun h1 => by omega))]
    exact h.block j hj hf⟩
theorem Chg.of_below {F : Nat → Prop} {w w' : World} (h : Below w.heap.size w w') : Chg F w w' := ⟨h.os, h.tape, h.output, h.size, fun k hk _ => h.block k hk⟩
theorem Chg.below {F : Nat → Prop} {w w' : World} {B : Nat} (h : Chg F w w') (hF : ∀ k, F k → B ≤ k) (hB : B ≤ w.heap.size) : Below B w w' :=
  ⟨h.os, h.tape, h.output, h.size, fun k hk => h.block k (by omega) (fun hf => by have := hF k hf; omega)⟩

theorem cell_on {w w' : World} {b j : Nat} {v : Value} (hb : Below w.heap.size w w') (hv : w.cell? ⟨b, j, none⟩ = some v) : w'.cell? ⟨b, j, none⟩ = some v := by
  rw [← hv]
  exact World.cell?_of_block (a := ⟨b, j, none⟩) (hb.block b (World.block_lt_of_cell? w _ hv))
/-- May a span be, and are all of it so? -/
def mayB (h : Nat) (T : List Bool) (f m : Int) (b : Bool) : Bool := decide (1 ≤ m ∧ (h : Int) ≤ f ∧ f < (T.length : Int) ∧ m ≤ (T.length : Int) - f) && allS T f.toNat m.toNat b
/-- A row of bools. -/
def bvals (T : List Bool) : Array Value := (T.map Value.bool).toArray
/-- The document's space. -/
structure RS (w : World) (g tb h : Nat) (T : List Bool) : Prop where
  head : w.heap[g]? = some (.cells #[.int .i64 (h : Int), .slice (some ⟨tb, 0, none⟩) T.length T.length] 50 (0, 0))
  row : w.heap[tb]? = some (.cells (bvals T) 4 (0, 0))
  ne : tb ≠ g
  le : h ≤ T.length
  few : T.length ≤ 4096
theorem RS.cells {w : World} {g tb h : Nat} {T : List Bool} (H : RS w g tb h T) : w.cell? ⟨g, 0, none⟩ = some (.int .i64 (h : Int)) ∧ w.cell? ⟨g, 1, none⟩ = some (.slice (some ⟨tb, 0, none⟩) T.length T.length) := by
  refine ⟨?_, ?_⟩
  · rw [cell_of_row w g 0 _ 50 (0, 0) H.head]; rfl
  · rw [cell_of_row w g 1 _ 50 (0, 0) H.head]; rfl
theorem RS.at {w : World} {g tb h : Nat} {T : List Bool} (H : RS w g tb h T) {i : Nat} (hi : i < T.length) : w.cell? ⟨tb, i, none⟩ = some (.bool (T.getD i false)) := by
  rw [cell_of_row w tb i _ 4 (0, 0) H.row, List.getD_eq_getElem?_getD, List.getElem?_eq_getElem hi]
  simp [bvals, hi]
theorem RS.on {w w' : World} {g tb h : Nat} {T : List Bool} (H : RS w g tb h T) (hb : Below w.heap.size w w') : RS w' g tb h T :=
  ⟨(hb.block g (Array.getElem?_eq_some_iff.1 H.head).1).trans H.head, (hb.block tb (Array.getElem?_eq_some_iff.1 H.row).1).trans H.row, H.ne, H.le, H.few⟩
theorem RS.set {w : World} {g tb h : Nat} {T : List Bool} (H : RS w g tb h T) (i : Nat) (b : Bool) : RS (w.setCell ⟨tb, i, none⟩ (.bool b)) g tb h (T.set i b) := by
  refine ⟨?_, ?_, H.ne, by rw [List.length_set]; exact H.le, by rw [List.length_set]; exact H.few⟩
  · rw [List.length_set]
    exact (Below.heap_setCell w ⟨tb, i, none⟩ _ g (Ne.symm H.ne)).trans H.head
  · rw [heap_setCell_same w tb i _ 4 _ H.row]
    simp [bvals]
end Go.Proofs.Ytffhnecdmdmmkaa
