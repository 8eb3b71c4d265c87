/-
  Bytes in a block: what is read there, what a store makes of them, what is kept; and the zero of a great array, never written out.
  New, Set, Fill and Get, of the program and of the document: what they make of the cells, and what they answer.
  Top and Get, of the program and of the document.
-/
import Derived.Test.YthanmgejgmhccaaProg
import Derived.WalkKit
import Derived.WalkLawsBesides
import Derived.WalkSpells
import Derived.Below
import Derived.Deep.MidRow
import Derived.Deep.OwnRows
namespace Go.Proofs.Ythanmgejgmhccaa.C
section
open Go.RowKit

theorem ret_int {k : IntKind} {a b : Int} (h : a = b) : Ending.returned (.int k a) = .returned (.int k b) := by rw [h]
theorem ret_bool {a b : Bool} (h : a = b) : Ending.returned (.bool a) = .returned (.bool b) := by rw [h]

/-- A list that is doubled n times. -/
def dbl (l : List Value) : Nat → List Value
  | 0 => l
  | n + 1 => (dbl l n).append (dbl l n)
theorem dbl_replicate (v : Value) (m : Nat) : ∀ n, dbl (List.replicate m v) n = List.replicate (2 ^ n * m) v
  | 0 => by simp [dbl]
  | n + 1 => by
    show dbl _ n ++ dbl _ n = _
    rw [dbl_replicate v m n, List.replicate_append_replicate, Nat.pow_succ, Nat.mul_assoc, Nat.mul_comm 2 m, ← Nat.mul_assoc, Nat.mul_two]

/-- Numbers as a row of bytes. -/
def vals (cs : List Int) : Array Value := (cs.map (Value.int .u8)).toArray
def Blk (w : World) (b : Nat) (t : TypeId) (cs : List Int) : Prop := w.heap[b]? = some (.cells (vals cs) t (0, 0))
theorem vals_size (cs : List Int) : (vals cs).size = cs.length := by simp [vals]
theorem Blk.lt {w : World} {b : Nat} {t : TypeId} {cs : List Int} (h : Blk w b t cs) : b < w.heap.size := (Array.getElem?_eq_some_iff.1 h).1
theorem Blk.cell {w : World} {b : Nat} {t : TypeId} {cs : List Int} (h : Blk w b t cs) {k : Nat} (hk : k < cs.length) : w.cell? ⟨b, k, none⟩ = some (.int .u8 (cs.getD k 0)) := by
  rw [cell_of_row w b k _ t (0, 0) h]
  simp [vals, hk]
theorem Blk.free {w : World} {b : Nat} {t : TypeId} {cs : List Int} (h : Blk w b t cs) (k : Nat) : w.frozen? ⟨b, k, none⟩ = false := frozen_of_row w b k _ t h
theorem Blk.set {w : World} {b : Nat} {t : TypeId} {cs : List Int} (h : Blk w b t cs) (k : Nat) (x : Int) : Blk (w.setCell ⟨b, k, none⟩ (.int .u8 x)) b t (cs.set k x) := by
  unfold Blk
  rw [heap_setCell_same w b k _ t _ h]
  simp [vals]
theorem Blk.other {w : World} {b b' k : Nat} {t : TypeId} {cs : List Int} {v : Value} (h : Blk w b t cs) (hb : b ≠ b') : Blk (w.setCell ⟨b', k, none⟩ v) b t cs := (Below.heap_setCell w ⟨b', k, none⟩ v b hb).trans h
theorem Blk.below {w w' : World} {b n : Nat} {t : TypeId} {cs : List Int} (h : Blk w b t cs) (hb : Below n w w') (hn : b < n) : Blk w' b t cs := (hb.block b hn).trans h
theorem Blk.new (w : World) (t : TypeId) (cs : List Int) : Blk (w.alloc (.cells (vals cs) t)) w.heap.size t cs := heap_alloc_new w _

/-- Just block g is another one. -/
structure Only (g : Nat) (w w' : World) : Prop where
  os : w'.os = w.os
  tape : w'.tape = w.tape
  output : w'.output = w.output
  size : w'.heap.size = w.heap.size
  block : ∀ k, k ≠ g → w'.heap[k]? = w.heap[k]?
theorem Only.refl (g : Nat) (w : World) : Only g w w := ⟨rfl, rfl, rfl, rfl, fun _ _ => rfl⟩
theorem Only.set {g : Nat} {a w : World} (h : Only g a w) (k : Nat) (v : Value) : Only g a (w.setCell ⟨g, k, none⟩ v) :=
  ⟨h.os, h.tape, h.output, by rw [← h.size]; simp [World.setCell], fun j hj => (Below.heap_setCell w ⟨g, k, none⟩ v j hj).trans (h.block j hj)⟩
theorem Only.below {g B : Nat} {w w' : World} (h : Only g w w') (hB : B ≤ g) : Below B w w' :=
  ⟨h.os, h.tape, h.output, Nat.le_of_eq h.size.symm, fun k hk => h.block k (by omega)⟩
theorem Only.drewN {g : Nat} {a w : World} (h : Only g a w) (n : Nat) : Only g a (w.drewN n) := ⟨h.os, h.tape, h.output, h.size, h.block⟩
theorem Blk.only {w w' : World} {b g : Nat} {t : TypeId} {cs : List Int} (h : Blk w b t cs) (o : Only g w w') (hb : b ≠ g) : Blk w' b t cs := (o.block b hb).trans h
theorem Blk.drewN {w : World} {b : Nat} {t : TypeId} {cs : List Int} (h : Blk w b t cs) (n : Nat) : Blk (w.drewN n) b t cs := h

theorem made_vals (n : Nat) : madeCells #[.int .u8 0] n = vals (List.replicate n 0) := by
  apply Array.ext
  · simp [madeCells, vals]
  · intro i h1 h2
    simp [madeCells, vals]
    rw [Nat.mod_one]
    rfl
theorem info5 : (Try.prog.info? 5).map (fun i => (i.zero, i.size, i.bytes)) = some (some (.int .u8 0), 1, 1) := by kernel_rfl
theorem info3 : (Try.prog.info? 3).map (fun i => (i.zero, i.size, i.bytes)) = some (some (.int .i64 0), 1, 8) := by kernel_rfl
theorem make_bytes (w : World) : (Instr.makeSlice 32 (.int .i64 32768) (.int .i64 32768)).run Try.prog w = .ok (.slice (some ⟨w.heap.size, 0, none⟩) 32768 32768) (w.alloc (.cells (vals (List.replicate 32768 0)) 5)) := by
  have := run_make_row' (P := Try.prog) 32 5 (.int .u8 0) 1 Try.underlying32 info5 rfl .i64 .i64 32768 (by omega) (by omega) w
  rw [made_vals] at this
  exact this
theorem z67 : Try.t67.zero = some (.agg (dbl (List.replicate 64 (.int .u8 0)) 9).toArray) := by kernel_rfl
theorem zero67 (w : World) : (zeroValue 67).run Try.prog w = .ok (.agg (vals (List.replicate 32768 0))) w := by
  have e : (dbl (List.replicate 64 (.int .u8 0)) 9).toArray = vals (List.replicate 32768 0) := by
    rw [dbl_replicate, vals, List.map_replicate]
  unfold zeroValue
  rw [Sem.run_bind, Try.typeInfo67, Result.andThen_ok, z67, e]
  rfl
end
section
open Go.RowKit

theorem new_c (w : World) : Calls Try.prog 24 #[] w fun e w' => e = .returned (.pointer (some ⟨w.heap.size, 0, none⟩)) ∧ w' = w.alloc (.cells (vals (List.replicate 32768 0)) 67) := by
  have hz := zero67
  generalize hv : vals (List.replicate 32768 0) = V at hz ⊢
  have hs : V.size = 32768 := by rw [← hv, vals_size, List.length_replicate]
  clear hv
  go_enter Try.func24, Try.ntmps24
  go_wp2
  go_ret
  exact ⟨rfl, rfl⟩

/-- The cells from a on, n of them, are k. -/
def filTo (z : List Int) (a : Nat) (k : Int) : Nat → List Int
  | 0 => z
  | n + 1 => (filTo z a k n).set (a + n) k
theorem filTo_length (z : List Int) (a : Nat) (k : Int) : ∀ n, (filTo z a k n).length = z.length
  | 0 => rfl
  | n + 1 => by unfold filTo; rw [List.length_set, filTo_length z a k n]
theorem filTo_getD (z : List Int) (a : Nat) (k : Int) (n j : Nat) (hj : j < z.length) : (filTo z a k n).getD j 0 = if a ≤ j ∧ j < a + n then k else z.getD j 0 := by
  induction n with
  | zero => rw [if_neg (by omega)]; rfl
  | succ n ih =>
    unfold filTo
    rw [List.getD_eq_getElem?_getD]
    by_cases e : a + n = j
    · subst e
      rw [List.getElem?_set_self (by rw [filTo_length]; exact hj), if_pos (by omega)]
      rfl
    · rw [List.getElem?_set_ne e, ← List.getD_eq_getElem?_getD, ih]
      by_cases h : a ≤ j ∧ j < a + n
      · rw [if_pos h, if_pos (by omega)]
      · rw [if_neg h, if_neg (by omega)]
theorem getD_ext {l m : List Int} (hl : l.length = m.length) (h : ∀ j, j < l.length → l.getD j 0 = m.getD j 0) : l = m := by
  apply List.ext_getElem hl
  intro i h1 h2
  have := h i h1
  rwa [List.getD_eq_getElem?_getD, List.getD_eq_getElem?_getD, List.getElem?_eq_getElem h1, List.getElem?_eq_getElem h2] at this
theorem filTo_full (z : List Int) (k : Int) (n : Nat) (hn : z.length = n) : filTo z 0 k n = List.replicate n k := by
  refine getD_ext (by rw [filTo_length, List.length_replicate, hn]) fun j hj => ?_
  rw [filTo_length] at hj
  rw [filTo_getD z 0 k n j hj, if_pos (by omega), List.getD_eq_getElem?_getD, List.getElem?_replicate_of_lt (by omega)]
  rfl

set_option maxRecDepth 100000 in
theorem rnew_c (k : Int) (h0 : 0 ≤ k) (h1 : k ≤ 255) (w : World) : Calls Try.prog 23 #[.int .i64 k] w fun e w' => e = .returned (.slice (some ⟨w.heap.size, 0, none⟩) 32768 32768) ∧ Blk w' w.heap.size 5 (List.replicate 32768 k) ∧ Below w.heap.size w w' := by
  have hmk := make_bytes
  have hb := Blk.new w 5 (List.replicate 32768 0)
  obtain ⟨Z, hZe⟩ : ∃ Z, Z = List.replicate 32768 (0 : Int) := ⟨_, rfl⟩
  have hZ : Z.length = 32768 := by rw [hZe, List.length_replicate]
  rw [← hZe] at hmk hb
  clear hZe
  go_enter Try.func23, Try.ntmps23
  go_wp2
  go_loopw [4] (fun i wr => ∃ n : Nat, n ≤ 32768 ∧ i = .int .i64 n ∧ Blk wr w.heap.size 5 (filTo Z 0 k n) ∧ Below w.heap.size w wr) (fun i _ => 32768 - (intOf i).toNat)
  case atStart => exact ⟨0, Nat.zero_le _, rfl, hb, (Below.refl _ _).alloc (Nat.le_refl _) _⟩
  case round =>
    obtain ⟨n, hn, rfl, hB, hb1⟩ := hrel
    by_cases hlt : n < 32768
    · have hc := hB.cell (k := n) (by rw [filTo_length, hZ]; exact hlt)
      have hf := hB.free n
      have hlt' : (n : Int) < 32768 := by omega
      generalize (filTo Z 0 k n).getD n 0 = x at hc
      have R1 : Blk (wr.setCell ⟨w.heap.size, n, none⟩ (.int .u8 k)) w.heap.size 5 (filTo Z 0 k (n + 1)) := by show Blk _ _ _ ((filTo Z 0 k n).set (0 + n) k); rw [Nat.zero_add]; exact hB.set n k
      have R2 : Below w.heap.size w (wr.setCell ⟨w.heap.size, n, none⟩ (.int .u8 k)) := hb1.setCell (p := ⟨w.heap.size, n, none⟩) (Nat.le_refl _) _
      clear hB hb1
      go_wp2
      go_roundw
      case rel => exact ⟨n + 1, by omega, by go_num, R1, R2⟩
      case measure => simp [intOf]; omega
    · obtain rfl : n = 32768 := by omega
      rw [filTo_full Z k 32768 hZ] at hB
      go_wp2
      go_ret
      exact ⟨rfl, hB, hb1⟩

/-- Is there such a place, such a kind? -/
def okSet (i k : Int) : Bool := decide (0 ≤ i ∧ i < 32768 ∧ 0 ≤ k ∧ k ≤ 16)
def setC (cs : List Int) (i k : Int) : List Int := if okSet i k then cs.set i.toNat k else cs
def okFill (a b k : Int) : Bool := decide (0 ≤ a ∧ b < 128 ∧ a ≤ b ∧ 0 ≤ k ∧ k ≤ 16)
def filC (cs : List Int) (a b k : Int) : List Int := if okFill a b k then filTo cs (a.toNat * 256) k ((b.toNat + 1 - a.toNat) * 256) else cs
theorem setC_length (cs : List Int) (i k : Int) : (setC cs i k).length = cs.length := by unfold setC; split <;> simp
theorem filC_length (cs : List Int) (a b k : Int) : (filC cs a b k).length = cs.length := by unfold filC; split <;> simp [filTo_length]
theorem okSet_no {i k : Int} (h : ¬ (0 ≤ i ∧ i < 32768 ∧ 0 ≤ k ∧ k ≤ 16)) (cs : List Int) : okSet i k = false ∧ setC cs i k = cs := by
  have e : okSet i k = false := decide_eq_false h
  exact ⟨e, by unfold setC; rw [e]; rfl⟩
theorem okSet_yes {i k : Int} (h : 0 ≤ i ∧ i < 32768 ∧ 0 ≤ k ∧ k ≤ 16) (cs : List Int) : okSet i k = true ∧ setC cs i k = cs.set i.toNat k := by
  have e : okSet i k = true := decide_eq_true h
  exact ⟨e, by unfold setC; rw [e]; rfl⟩
theorem okFill_no {a b k : Int} (h : ¬ (0 ≤ a ∧ b < 128 ∧ a ≤ b ∧ 0 ≤ k ∧ k ≤ 16)) (cs : List Int) : okFill a b k = false ∧ filC cs a b k = cs := by
  have e : okFill a b k = false := decide_eq_false h
  exact ⟨e, by unfold filC; rw [e]; rfl⟩
theorem okFill_yes {a b k : Int} (h : 0 ≤ a ∧ b < 128 ∧ a ≤ b ∧ 0 ≤ k ∧ k ≤ 16) (cs : List Int) : okFill a b k = true ∧ filC cs a b k = filTo cs (a.toNat * 256) k ((b.toNat + 1 - a.toNat) * 256) := by
  have e : okFill a b k = true := decide_eq_true h
  exact ⟨e, by unfold filC; rw [e]; rfl⟩
theorem isKind_c (k : Int) (w : World) : Calls Try.prog 39 #[.int .i64 k] w fun e w' => e = .returned (.bool (decide (0 ≤ k ∧ k ≤ 16))) ∧ w' = w := by
  by_cases h0 : 0 ≤ k
  · by_cases h1 : k ≤ 16
    · go_enter Try.func39, Try.ntmps39
      go_wp2
      go_ret
      exact ⟨ret_bool (by simp; omega), rfl⟩
    · go_enter Try.func39, Try.ntmps39
      go_wp2
      go_ret
      exact ⟨ret_bool (by simp; omega), rfl⟩
  · go_enter Try.func39, Try.ntmps39
    go_wp2
    go_ret
    exact ⟨ret_bool (by simp; omega), rfl⟩
end
section
open Go.RowKit

/-- All cells are kinds. -/
def Kinds (cs : List Int) : Prop := ∀ x ∈ cs, 0 ≤ x ∧ x ≤ 16
theorem Kinds.at {cs : List Int} (h : Kinds cs) (j : Nat) : 0 ≤ cs.getD j 0 ∧ cs.getD j 0 ≤ 16 := by
  rw [List.getD_eq_getElem?_getD]
  rcases e : cs[j]? with _ | x
  · simp
  · exact h x (List.mem_of_getElem? e)
/-- The highest y below n whose cell, p in its layer, is neither 0 nor 16. -/
def topTo (cs : List Int) (p : Nat) : Nat → Int
  | 0 => -1
  | n + 1 => if cs.getD (n * 256 + p) 0 = 0 ∨ cs.getD (n * 256 + p) 0 = 16 then topTo cs p n else n
def okCol (x z : Int) : Bool := decide (0 ≤ x ∧ x ≤ 15 ∧ 0 ≤ z ∧ z ≤ 15)
def topC (cs : List Int) (x z : Int) : Int := if okCol x z then topTo cs (z * 16 + x).toNat 128 else -1
theorem topC_no {x z : Int} (h : ¬ (0 ≤ x ∧ x ≤ 15 ∧ 0 ≤ z ∧ z ≤ 15)) (cs : List Int) : topC cs x z = -1 := by unfold topC okCol; rw [decide_eq_false h]; rfl
theorem topC_yes {X Z : Nat} (h : X ≤ 15 ∧ Z ≤ 15) (cs : List Int) : topC cs X Z = topTo cs (Z * 16 + X) 128 := by
  unfold topC okCol
  rw [decide_eq_true (by omega), if_pos rfl, show ((Z : Int) * 16 + X).toNat = Z * 16 + X by omega]
def getC (cs : List Int) (i : Int) : Int := if 0 ≤ i ∧ i < 32768 then cs.getD i.toNat 0 else -1
end
end Go.Proofs.Ythanmgejgmhccaa.C
