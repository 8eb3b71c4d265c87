/-
  New, Set, Fill and Get, of the program and of the document: what they make of the cells, and what they answer.
-/
import Derived.Test.YtjlefocdkbjgaaaDoorCRowb
namespace Go.Proofs.YtjlefocdkbjgaaaDoor.C
open Go.RowKit

theorem new_c (w : World) : Calls Tryd.prog 22 #[] w fun e w' => e = .returned (.pointer (some ⟨w.heap.size, 0, none⟩)) ∧ w' = w.alloc (.cells (vals (List.replicate 32768 0)) 56) := by
  have hz := zero56
  generalize hv : vals (List.replicate 32768 0) = V at hz ⊢
  have hs : V.size = 32768 := by rw [← hv, vals_size, List.length_replicate]
  clear hv
  go_enter Tryd.func22, Tryd.ntmps22
  go_wp2
  go_ret
  exact ⟨rfl, rfl⟩

/-- The cells from a on, n of them, are k. -/
def filTo (z : List Int) (a : Nat) (k : Int) : Nat → List Int
  | 0 => z
  | n + 1 => (filTo z a k n).set (a + n) k
theorem filTo_length (z : List Int) (a : Nat) (k : Int) : ∀ n, (filTo z a k n).length = z.length
  | 0 => rfl
  | n + 1 => by unfold filTo; rw [List.length_set, filTo_length z a k n]
theorem filTo_getD (z : List Int) (a : Nat) (k : Int) (n j : Nat) (hj : j < z.length) : (filTo z a k n).getD j 0 = if a ≤ j ∧ j < a + n then k else z.getD j 0 := by
  induction n with
  | zero => rw [if_neg (by omega)]; rfl
  | succ n ih =>
    unfold filTo
    rw [List.getD_eq_getElem?_getD]
    by_cases e : a + n = j
    · subst e
      rw [List.getElem?_set_self (by rw [filTo_length]; exact hj), if_pos (by omega)]
      rfl
    · rw [List.getElem?_set_ne e, ← List.getD_eq_getElem?_getD, ih]
      by_cases h : a ≤ j ∧ j < a + n
      · rw [if_pos h, if_pos (by omega)]
      · rw [if_neg h, if_neg (by omega)]
theorem getD_ext {l m : List Int} (hl : l.length = m.length) (h : ∀ j, j < l.length → l.getD j 0 = m.getD j 0) : l = m := by
  apply List.ext_getElem hl
  intro i h1 h2
  have := h i h1
  rwa [List.getD_eq_getElem?_getD, List.getD_eq_getElem?_getD, List.getElem?_eq_getElem h1, List.getElem?_eq_getElem h2] at this
theorem filTo_full (z : List Int) (k : Int) (n : Nat) (hn : z.length = n) : filTo z 0 k n = List.replicate n k := by
  refine getD_ext (by rw [filTo_length, List.length_replicate, hn]) fun j hj => ?_
  rw [filTo_length] at hj
  rw [filTo_getD z 0 k n j hj, if_pos (by omega), List.getD_eq_getElem?_getD, List.getElem?_replicate_of_lt (by omega)]
  rfl

/-- Is there such a place, such a kind? -/
def okSet (i k : Int) : Bool := decide (0 ≤ i ∧ i < 32768 ∧ 0 ≤ k ∧ k ≤ 16)
def setC (cs : List Int) (i k : Int) : List Int := if okSet i k then cs.set i.toNat k else cs
def okFill (a b k : Int) : Bool := decide (0 ≤ a ∧ b < 128 ∧ a ≤ b ∧ 0 ≤ k ∧ k ≤ 16)
def filC (cs : List Int) (a b k : Int) : List Int := if okFill a b k then filTo cs (a.toNat * 256) k ((b.toNat + 1 - a.toNat) * 256) else cs
theorem setC_length (cs : List Int) (i k : Int) : (setC cs i k).length = cs.length := by unfold setC; split <;> simp
theorem filC_length (cs : List Int) (a b k : Int) : (filC cs a b k).length = cs.length := by unfold filC; split <;> simp [filTo_length]
theorem okSet_no {i k : Int} (h : ¬ (0 ≤ i ∧ i < 32768 ∧ 0 ≤ k ∧ k ≤ 16)) (cs : List Int) : okSet i k = false ∧ setC cs i k = cs := by
  have e : okSet i k = false := decide_eq_false h
  exact ⟨e, by unfold setC; rw [e]; rfl⟩
theorem okSet_yes {i k : Int} (h : 0 ≤ i ∧ i < 32768 ∧ 0 ≤ k ∧ k ≤ 16) (cs : List Int) : okSet i k = true ∧ setC cs i k = cs.set i.toNat k := by
  have e : okSet i k = true := decide_eq_true h
  exact ⟨e, by unfold setC; rw [e]; rfl⟩
theorem okFill_no {a b k : Int} (h : ¬ (0 ≤ a ∧ b < 128 ∧ a ≤ b ∧ 0 ≤ k ∧ k ≤ 16)) (cs : List Int) : okFill a b k = false ∧ filC cs a b k = cs := by
  have e : okFill a b k = false := decide_eq_false h
  exact ⟨e, by unfold filC; rw [e]; rfl⟩
theorem okFill_yes {a b k : Int} (h : 0 ≤ a ∧ b < 128 ∧ a ≤ b ∧ 0 ≤ k ∧ k ≤ 16) (cs : List Int) : okFill a b k = true ∧ filC cs a b k = filTo cs (a.toNat * 256) k ((b.toNat + 1 - a.toNat) * 256) := by
  have e : okFill a b k = true := decide_eq_true h
  exact ⟨e, by unfold filC; rw [e]; rfl⟩
theorem isKind_c (k : Int) (w : World) : Calls Tryd.prog 30 #[.int .i64 k] w fun e w' => e = .returned (.bool (decide (0 ≤ k ∧ k ≤ 16))) ∧ w' = w := by
  by_cases h0 : 0 ≤ k
  · by_cases h1 : k ≤ 16
    · go_enter Tryd.func30, Tryd.ntmps30
      go_wp2
      go_ret
      exact ⟨ret_bool (by simp; omega), rfl⟩
    · go_enter Tryd.func30, Tryd.ntmps30
      go_wp2
      go_ret
      exact ⟨ret_bool (by simp; omega), rfl⟩
  · go_enter Tryd.func30, Tryd.ntmps30
    go_wp2
    go_ret
    exact ⟨ret_bool (by simp; omega), rfl⟩
end Go.Proofs.YtjlefocdkbjgaaaDoor.C