/-
  New, Set, Fill and Get, of the program and of the document: what they make of the cells, and what they answer.
-/
import Derived.Test.YtbcadklodjdokaaCRowb
namespace Go.Proofs.Ytbcadklodjdokaa.C
open Go.RowKit

theorem new_c (w : World) : Calls Try.prog 20 #[] w fun e w' => e = .returned (.pointer (some ⟨w.heap.size, 0, none⟩)) ∧ w' = w.alloc (.cells (vals (List.replicate 32768 0)) 68) := by
  have hz := zero68
  generalize hv : vals (List.replicate 32768 0) = V at hz ⊢
  have hs : V.size = 32768 := by rw [← hv, vals_size, List.length_replicate]
  clear hv
  go_enter Try.func20, Try.ntmps20
  go_wp2
  go_ret
  exact ⟨rfl, rfl⟩

/-- The cells from a on, n of them, are k. -/
def filTo (z : List Int) (a : Nat) (k : Int) : Nat → List Int
  | 0 => z
  | n + 1 => (filTo z a k n).set (a + n) k
theorem filTo_length (z : List Int) (a : Nat) (k : Int) : ∀ n, (filTo z a k n).length = z.length
  | 0 => rfl
  | n + 1 => by unfold filTo; rw [List.length_set, filTo_length z a k n]
theorem filTo_getD (z : List Int) (a : Nat) (k : Int) (n j : Nat) (hj : j < z.length) : (filTo z a k n).getD j 0 = if a ≤ j ∧ j < a + n then k else z.getD j 0 := by
  induction n with
  | zero => rw [if_neg (by omega)]; rfl
  | succ n ih =>
    unfold filTo
    rw [List.getD_eq_getElem?_getD]
    by_cases e : a + n = j
    · subst e
      rw [List.getElem?_set_self (by rw [filTo_length]; exact hj), if_pos (by omega)]
      rfl
    · rw [List.getElem?_set_ne e, ← List.getD_eq_getElem?_getD, ih]
      by_cases h : a ≤ j ∧ j < a + n
      · rw [if_pos h, if_pos (by omega)]
      · rw [if_neg h, if_neg (by omega)]
theorem getD_ext {l m : List Int} (hl : l.length = m.length) (h : ∀ j, j < l.length → l.getD j 0 = m.getD j 0) : l = m := by
  apply List.ext_getElem hl
  intro i h1 h2
  have := h i h1
  rwa [List.getD_eq_getElem?_getD, List.getD_eq_getElem?_getD, List.getElem?_eq_getElem h1, List.getElem?_eq_getElem h2] at this
theorem filTo_full (z : List Int) (k : Int) (n : Nat) (hn : z.length = n) : filTo z 0 k n = List.replicate n k := by
  refine getD_ext (by rw [filTo_length, List.length_replicate, hn]) fun j hj => ?_
  rw [filTo_length] at hj
  rw [filTo_getD z 0 k n j hj, if_pos (by omega), List.getD_eq_getElem?_getD, List.getElem?_replicate_of_lt (by omega)]
  rfl

set_option maxRecDepth 100000 in
theorem rnew_c (k : Int) (h0 : 0 ≤ k) (h1 : k ≤ 255) (w : World) : Calls Try.prog 27 #[.int .i64 k] w fun e w' => e = .returned (.slice (some ⟨w.heap.size, 0, none⟩) 32768 32768) ∧ Blk w' w.heap.size 5 (List.replicate 32768 k) ∧ Below w.heap.size w w' := by
  have hmk := make_bytes
  have hb := Blk.new w 5 (List.replicate 32768 0)
  obtain ⟨Z, hZe⟩ : ∃ Z, Z = List.replicate 32768 (0 : Int) := ⟨_, rfl⟩
  have hZ : Z.length = 32768 := by rw [hZe, List.length_replicate]
  rw [← hZe] at hmk hb
  clear hZe
  go_enter Try.func27, Try.ntmps27
  go_wp2
  go_loopw [4] (fun i wr => ∃ n : Nat, n ≤ 32768 ∧ i = .int .i64 n ∧ Blk wr w.heap.size 5 (filTo Z 0 k n) ∧ Below w.heap.size w wr) (fun i _ => 32768 - (intOf i).toNat)
  case atStart => exact ⟨0, Nat.zero_le _, rfl, hb, (Below.refl _ _).alloc (Nat.le_refl _) _⟩
  case round =>
    obtain ⟨n, hn, rfl, hB, hb1⟩ := hrel
    by_cases hlt : n < 32768
    · have hc := hB.cell (k := n) (by rw [filTo_length, hZ]; exact hlt)
      have hf := hB.free n
      have hlt' : (n : Int) < 32768 := by omega
      generalize (filTo Z 0 k n).getD n 0 = x at hc
      have R1 : Blk (wr.setCell ⟨w.heap.size, n, none⟩ (.int .u8 k)) w.heap.size 5 (filTo Z 0 k (n + 1)) := by show Blk _ _ _ ((filTo Z 0 k n).set (0 + n) k); rw [Nat.zero_add]; exact hB.set n k
      have R2 : Below w.heap.size w (wr.setCell ⟨w.heap.size, n, none⟩ (.int .u8 k)) := hb1.setCell (p := ⟨w.heap.size, n, none⟩) (Nat.le_refl _) _
      clear hB hb1
      go_wp2
      go_roundw
      case rel => exact ⟨n + 1, by omega, by go_num, R1, R2⟩
      case measure => simp [intOf]; omega
    · obtain rfl : n = 32768 := by omega
      rw [filTo_full Z k 32768 hZ] at hB
      go_wp2
      go_ret
      exact ⟨rfl, hB, hb1⟩

/-- Is there such a place, such a kind? -/
def okSet (i k : Int) : Bool := decide (0 ≤ i ∧ i < 32768 ∧ 0 ≤ k ∧ k ≤ 16)
def setC (cs : List Int) (i k : Int) : List Int := if okSet i k then cs.set i.toNat k else cs
def okFill (a b k : Int) : Bool := decide (0 ≤ a ∧ b < 128 ∧ a ≤ b ∧ 0 ≤ k ∧ k ≤ 16)
def filC (cs : List Int) (a b k : Int) : List Int := if okFill a b k then filTo cs (a.toNat * 256) k ((b.toNat + 1 - a.toNat) * 256) else cs
theorem setC_length (cs : List Int) (i k : Int) : (setC cs i k).length = cs.length := by unfold setC; split <;> simp
theorem filC_length (cs : List Int) (a b k : Int) : (filC cs a b k).length = cs.length := by unfold filC; split <;> simp [filTo_length]
theorem okSet_no {i k : Int} (h : ¬ (0 ≤ i ∧ i < 32768 ∧ 0 ≤ k ∧ k ≤ 16)) (cs : List Int) : okSet i k = false ∧ setC cs i k = cs := by
  have e : okSet i k = false := decide_eq_false h
  exact ⟨e, by unfold setC; rw [e]; rfl⟩
theorem okSet_yes {i k : Int} (h : 0 ≤ i ∧ i < 32768 ∧ 0 ≤ k ∧ k ≤ 16) (cs : List Int) : okSet i k = true ∧ setC cs i k = cs.set i.toNat k := by
  have e : okSet i k = true := decide_eq_true h
  exact ⟨e, by unfold setC; rw [e]; rfl⟩
theorem okFill_no {a b k : Int} (h : ¬ (0 ≤ a ∧ b < 128 ∧ a ≤ b ∧ 0 ≤ k ∧ k ≤ 16)) (cs : List Int) : okFill a b k = false ∧ filC cs a b k = cs := by
  have e : okFill a b k = false := decide_eq_false h
  exact ⟨e, by unfold filC; rw [e]; rfl⟩
theorem okFill_yes {a b k : Int} (h : 0 ≤ a ∧ b < 128 ∧ a ≤ b ∧ 0 ≤ k ∧ k ≤ 16) (cs : List Int) : okFill a b k = true ∧ filC cs a b k = filTo cs (a.toNat * 256) k ((b.toNat + 1 - a.toNat) * 256) := by
  have e : okFill a b k = true := decide_eq_true h
  exact ⟨e, by unfold filC; rw [e]; rfl⟩
theorem isKind_c (k : Int) (w : World) : Calls Try.prog 28 #[.int .i64 k] w fun e w' => e = .returned (.bool (decide (0 ≤ k ∧ k ≤ 16))) ∧ w' = w := by
  by_cases h0 : 0 ≤ k
  · by_cases h1 : k ≤ 16
    · go_enter Try.func28, Try.ntmps28
      go_wp2
      go_ret
      exact ⟨ret_bool (by simp; omega), rfl⟩
    · go_enter Try.func28, Try.ntmps28
      go_wp2
      go_ret
      exact ⟨ret_bool (by simp; omega), rfl⟩
  · go_enter Try.func28, Try.ntmps28
    go_wp2
    go_ret
    exact ⟨ret_bool (by simp; omega), rfl⟩
end Go.Proofs.Ytbcadklodjdokaa.C