/-
  Counts, of the document: how many cells there are of each kind.
-/
import Derived.Test.YthanmgejgmhccaaCTops
namespace Go.Proofs.Ythanmgejgmhccaa.C
open Go.RowKit

/-- Numbers of 64 bits in a block. -/
def vals64 (l : List Int) : Array Value := (l.map (Value.int .i64)).toArray
def B64k (w : World) (b : Nat) (t : TypeId) (l : List Int) : Prop := w.heap[b]? = some (.cells (vals64 l) t (0, 0))
theorem B64k.cell {w : World} {b : Nat} {t : TypeId} {l : List Int} (h : B64k w b t l) {k : Nat} (hk : k < l.length) : w.cell? ⟨b, k, none⟩ = some (.int .i64 (l.getD k 0)) := by
  rw [cell_of_row w b k _ t (0, 0) h]
  simp [vals64, hk]
theorem B64k.free {w : World} {b : Nat} {t : TypeId} {l : List Int} (h : B64k w b t l) (k : Nat) : w.frozen? ⟨b, k, none⟩ = false := frozen_of_row w b k _ t h
theorem B64k.set {w : World} {b : Nat} {t : TypeId} {l : List Int} (h : B64k w b t l) (k : Nat) (x : Int) : B64k (w.setCell ⟨b, k, none⟩ (.int .i64 x)) b t (l.set k x) := by
  unfold B64k
  rw [heap_setCell_same w b k _ t _ h]
  simp [vals64]
theorem B64k.new (w : World) (t : TypeId) (l : List Int) : B64k (w.alloc (.cells (vals64 l) t)) w.heap.size t l := heap_alloc_new w _
theorem made_vals64 (n : Nat) : madeCells #[.int .i64 0] n = vals64 (List.replicate n 0) := by
  apply Array.ext
  · simp [madeCells, vals64]
  · intro i h1 h2
    simp [madeCells, vals64]
    rw [Nat.mod_one]
    rfl
theorem make17 (w : World) : (Instr.makeSlice 58 (.int .i64 17) (.int .i64 17)).run Try.prog w = .ok (.slice (some ⟨w.heap.size, 0, none⟩) 17 17) (w.alloc (.cells (vals64 (List.replicate 17 0)) 3)) := by
  have := run_make_row' (P := Try.prog) 58 3 (.int .i64 0) 8 Try.underlying58 info3 rfl .i64 .i64 17 (by omega) (by omega) w
  rw [made_vals64] at this
  exact this

/-- The numbers of kinds among the first n cells. -/
def cntTo (cs : List Int) : Nat → List Int
  | 0 => List.replicate 17 0
  | n + 1 => (cntTo cs n).set (cs.getD n 0).toNat ((cntTo cs n).getD (cs.getD n 0).toNat 0 + 1)
theorem cntTo_length (cs : List Int) : ∀ n, (cntTo cs n).length = 17
  | 0 => rfl
  | n + 1 => by unfold cntTo; rw [List.length_set, cntTo_length cs n]
theorem cntTo_at (cs : List Int) (n j : Nat) (hj : j < 17) : 0 ≤ (cntTo cs n).getD j 0 ∧ (cntTo cs n).getD j 0 ≤ n := by
  induction n with
  | zero =>
    have : (cntTo cs 0).getD j 0 = 0 := by
      unfold cntTo
      rw [List.getD_eq_getElem?_getD, List.getElem?_replicate_of_lt hj]
      rfl
    rw [this]
    omega
  | succ n ih =>
    unfold cntTo
    rw [List.getD_eq_getElem?_getD]
    by_cases e : (cs.getD n 0).toNat = j
    · rw [e, List.getElem?_set_self (by rw [cntTo_length]; exact hj)]
      simp only [Option.getD_some]
      omega
    · rw [List.getElem?_set_ne e, ← List.getD_eq_getElem?_getD]
      omega

/-- Is a byte above 16 among the first n? -/
def badTo (bs : List Int) : Nat → Bool
  | 0 => false
  | n + 1 => badTo bs n || decide (16 < bs.getD n 0)
theorem badTo_mono (bs : List Int) {n m : Nat} (h : n ≤ m) (hb : badTo bs n = true) : badTo bs m = true := by
  induction m with
  | zero => obtain rfl : n = 0 := by omega
            exact hb
  | succ m ih =>
    by_cases e : n = m + 1
    · subst e; exact hb
    · unfold badTo; rw [ih (by omega)]; rfl
/-- What is wrong with bytes. -/
def mayC (bs : List Int) : Int := if bs.length < 32768 then 3 else if 32768 < bs.length then 2 else if badTo bs 32768 then 10 else 0

end Go.Proofs.Ythanmgejgmhccaa.C