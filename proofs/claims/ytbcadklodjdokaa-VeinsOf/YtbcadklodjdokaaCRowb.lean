/-
  Bytes in a block: what is read there, what a store makes of them, what is kept; and the zero of a great array, never written out.
-/
import Derived.Test.YtbcadklodjdokaaProg
import Derived.WalkKit
import Derived.WalkLawsBesides
import Derived.WalkSpells
import Derived.Below
import Derived.Deep.MidRow
import Derived.Deep.OwnRows
namespace Go.Proofs.Ytbcadklodjdokaa.C
open Go.RowKit

theorem ret_int {k : IntKind} {a b : Int} (h : a = b) : Ending.returned (.int k a) = .returned (.int k b) := by rw [h]
theorem ret_bool {a b : Bool} (h : a = b) : Ending.returned (.bool a) = .returned (.bool b) := by rw [h]

/-- A list that is doubled n times. -/
def dbl (l : List Value) : Nat → List Value
  | 0 => l
  | n + 1 => (dbl l n).append (dbl l n)
theorem dbl_replicate (v : Value) (m : Nat) : ∀ n, dbl (List.replicate m v) n = List.replicate (2 ^ n * m) v
  | 0 => by simp [dbl]
  | n + 1 => by
    show dbl _ n ++ dbl _ n = _
    rw [dbl_replicate v m n, List.replicate_append_replicate, Nat.pow_succ, Nat.mul_assoc, Nat.mul_comm 2 m, ← Nat.mul_assoc, Nat.mul_two]

/-- Numbers as a row of bytes. -/
def vals (cs : List Int) : Array Value := (cs.map (Value.int .u8)).toArray
def Blk (w : World) (b : Nat) (t : TypeId) (cs : List Int) : Prop := w.heap[b]? = some (.cells (vals cs) t (0, 0))
theorem vals_size (cs : List Int) : (vals cs).size = cs.length := by simp [vals]
theorem Blk.lt {w : World} {b : Nat} {t : TypeId} {cs : List Int} (h : Blk w b t cs) : b < w.heap.size := (Array.getElem?_eq_some_iff.1 h).1
theorem Blk.cell {w : World} {b : Nat} {t : TypeId} {cs : List Int} (h : Blk w b t cs) {k : Nat} (hk : k < cs.length) : w.cell? ⟨b, k, none⟩ = some (.int .u8 (cs.getD k 0)) := by
  rw [cell_of_row w b k _ t (0, 0) h]
  simp [vals, hk]
theorem Blk.free {w : World} {b : Nat} {t : TypeId} {cs : List Int} (h : Blk w b t cs) (k : Nat) : w.frozen? ⟨b, k, none⟩ = false := frozen_of_row w b k _ t h
theorem Blk.set {w : World} {b : Nat} {t : TypeId} {cs : List Int} (h : Blk w b t cs) (k : Nat) (x : Int) : Blk (w.setCell ⟨b, k, none⟩ (.int .u8 x)) b t (cs.set k x) := by
  unfold Blk
  rw [heap_setCell_same w b k _ t _ h]
  simp [vals]
theorem Blk.other {w : World} {b b' k : Nat} {t : TypeId} {cs : List Int} {v : Value} (h : Blk w b t cs) (hb : b ≠ b') : Blk (w.setCell ⟨b', k, none⟩ v) b t cs := (Below.heap_setCell w ⟨b', k, none⟩ v b hb).trans h
theorem Blk.below {w w' : World} {b n : Nat} {t : TypeId} {cs : List Int} (h : Blk w b t cs) (hb : Below n w w') (hn : b < n) : Blk w' b t cs := (hb.block b hn).trans h
theorem Blk.new (w : World) (t : TypeId) (cs : List Int) : Blk (w.alloc (.cells (vals cs) t)) w.heap.size t cs := heap_alloc_new w _

/-- Just block g is another one. -/
structure Only (g : Nat) (w w' : World) : Prop where
  os : w'.os = w.os
  tape : w'.tape = w.tape
  output : w'.output = w.output
  size : w'.heap.size = w.heap.size
  block : ∀ k, k ≠ g → w'.heap[k]? = w.heap[k]?
theorem Only.refl (g : Nat) (w : World) : Only g w w := ⟨rfl, rfl, rfl, rfl, fun _ _ => rfl⟩
theorem Only.set {g : Nat} {a w : World} (h : Only g a w) (k : Nat) (v : Value) : Only g a (w.setCell ⟨g, k, none⟩ v) :=
  ⟨h.os, h.tape, h.output, by rw [← h.size]; simp [World.setCell], fun j hj => (Below.heap_setCell w ⟨g, k, none⟩ v j hj).trans (h.block j hj)⟩
theorem Only.below {g B : Nat} {w w' : World} (h : Only g w w') (hB : B ≤ g) : Below B w w' :=
  ⟨h.os, h.tape, h.output, Nat.le_of_eq h.size.symm, fun k hk => h.block k (by omega)⟩
theorem Only.drewN {g : Nat} {a w : World} (h : Only g a w) (n : Nat) : Only g a (w.drewN n) := ⟨h.os, h.tape, h.output, h.size, h.block⟩
theorem Blk.only {w w' : World} {b g : Nat} {t : TypeId} {cs : List Int} (h : Blk w b t cs) (o : Only g w w') (hb : b ≠ g) : Blk w' b t cs := (o.block b hb).trans h
theorem Blk.drewN {w : World} {b : Nat} {t : TypeId} {cs : List Int} (h : Blk w b t cs) (n : Nat) : Blk (w.drewN n) b t cs := h

theorem made_vals (n : Nat) : madeCells #[.int .u8 0] n = vals (List.replicate n 0) := by
  apply Array.ext
  · simp [madeCells, vals]
  · intro i h1 h2
    simp [madeCells, vals]
    rw [Nat.mod_one]
    rfl
theorem info5 : (Try.prog.info? 5).map (fun i => (i.zero, i.size, i.bytes)) = some (some (.int .u8 0), 1, 1) := by kernel_rfl
theorem info3 : (Try.prog.info? 3).map (fun i => (i.zero, i.size, i.bytes)) = some (some (.int .i64 0), 1, 8) := by kernel_rfl
theorem make_bytes (w : World) : (Instr.makeSlice 33 (.int .i64 32768) (.int .i64 32768)).run Try.prog w = .ok (.slice (some ⟨w.heap.size, 0, none⟩) 32768 32768) (w.alloc (.cells (vals (List.replicate 32768 0)) 5)) := by
  have := run_make_row' (P := Try.prog) 33 5 (.int .u8 0) 1 Try.underlying33 info5 rfl .i64 .i64 32768 (by omega) (by omega) w
  rw [made_vals] at this
  exact this
theorem z68 : Try.t68.zero = some (.agg (dbl (List.replicate 64 (.int .u8 0)) 9).toArray) := by kernel_rfl
theorem zero68 (w : World) : (zeroValue 68).run Try.prog w = .ok (.agg (vals (List.replicate 32768 0))) w := by
  have e : (dbl (List.replicate 64 (.int .u8 0)) 9).toArray = vals (List.replicate 32768 0) := by
    rw [dbl_replicate, vals, List.map_replicate]
  unfold zeroValue
  rw [Sem.run_bind, Try.typeInfo68, Result.andThen_ok, z68, e]
  rfl
end Go.Proofs.Ytbcadklodjdokaa.C