/-
  The program's space in memory; the library's Index and Contains over its row, and how many are free from a number on.
-/
import Derived.Test.YtdjhlpllffakpaaQbase
set_option maxRecDepth 20000
namespace Go.Proofs.Ytdjhlpllffakpaa.Q
open Go.RowKit

/-- The program's space. -/
structure PS (w : World) (g tb h : Nat) (T : List Bool) : Prop where
  head : w.heap[g]? = some (.cells #[.slice (some ⟨tb, 0, none⟩) T.length T.length, .int .i64 (h : Int)] 109 (0, 0))
  row : w.heap[tb]? = some (.cells (bvals T) 4 (0, 0))
  ne : tb ≠ g
  le : h ≤ T.length
  few : T.length ≤ 4096
theorem PS.cells {w : World} {g tb h : Nat} {T : List Bool} (H : PS w g tb h T) : w.cell? ⟨g, 0, none⟩ = some (.slice (some ⟨tb, 0, none⟩) T.length T.length) ∧ w.cell? ⟨g, 1, none⟩ = some (.int .i64 (h : Int)) := by
  refine ⟨?_, ?_⟩
  · rw [cell_of_row w g 0 _ 109 (0, 0) H.head]; rfl
  · rw [cell_of_row w g 1 _ 109 (0, 0) H.head]; rfl
theorem row_at {w : World} {tb : Nat} {T : List Bool} (H : w.heap[tb]? = some (.cells (bvals T) 4 (0, 0))) {i : Nat} (hi : i < T.length) : w.cell? ⟨tb, i, none⟩ = some (.bool (T.getD i false)) := by
  rw [cell_of_row w tb i _ 4 (0, 0) H, List.getD_eq_getElem?_getD, List.getElem?_eq_getElem hi]
  simp [bvals, hi]
theorem PS.keep {w w' : World} {g tb h : Nat} {T : List Bool} (H : PS w g tb h T) (hg : w'.heap[g]? = w.heap[g]?) (ht : w'.heap[tb]? = w.heap[tb]?) : PS w' g tb h T :=
  ⟨hg.trans H.head, ht.trans H.row, H.ne, H.le, H.few⟩
theorem PS.on {w w' : World} {g tb h : Nat} {T : List Bool} (H : PS w g tb h T) (hb : Below w.heap.size w w') : PS w' g tb h T :=
  H.keep (hb.block g (Array.getElem?_eq_some_iff.1 H.head).1) (hb.block tb (Array.getElem?_eq_some_iff.1 H.row).1)
theorem PS.set {w : World} {g tb h : Nat} {T : List Bool} (H : PS w g tb h T) (i : Nat) (b : Bool) : PS (w.setCell ⟨tb, i, none⟩ (.bool b)) g tb h (T.set i b) := by
  refine ⟨?_, ?_, H.ne, by rw [List.length_set]; exact H.le, by rw [List.length_set]; exact H.few⟩
  · rw [List.length_set]
    exact (Below.heap_setCell w ⟨tb, i, none⟩ _ g (Ne.symm H.ne)).trans H.head
  · rw [heap_setCell_same w tb i _ 4 _ H.row]
    simp [bvals]

set_option maxHeartbeats 1000000 in
theorem index_c (tb o n c : Nat) (T : List Bool) (v : Bool) (w : World) (hrow : w.heap[tb]? = some (.cells (bvals T) 4 (0, 0))) (hle : o + n ≤ T.length) (hfew : T.length ≤ 4096) :
    Calls Try.prog 58 #[.slice (some ⟨tb, o, none⟩) n c, .bool v] w fun e w' => w' = w ∧ ∃ j, j ≤ n ∧ (∀ i, i < j → T.getD (o + i) false ≠ v) ∧ ((j = n ∧ e = .returned (.int .i64 (-1))) ∨ (j < n ∧ T.getD (o + j) false = v ∧ e = .returned (.int .i64 (j : Int)))) := by
  obtain ⟨Post, hPost⟩ : ∃ Post : Ending → World → Prop, Post = fun e w' => w' = w ∧ ∃ j, j ≤ n ∧ (∀ i, i < j → T.getD (o + i) false ≠ v) ∧ ((j = n ∧ e = .returned (.int .i64 (-1))) ∨ (j < n ∧ T.getD (o + j) false = v ∧ e = .returned (.int .i64 (j : Int)))) := ⟨_, rfl⟩
  rw [← hPost]
  have HN : Hid ((∀ i, i < n → T.getD (o + i) false ≠ v) → Post (.returned (.int .i64 (-1))) w) := fun h => by rw [hPost]; exact ⟨rfl, n, Nat.le_refl _, h, .inl ⟨rfl, rfl⟩⟩
  have HY : Hid (∀ j, j < n → (∀ i, i < j → T.getD (o + i) false ≠ v) → T.getD (o + j) false = v → Post (.returned (.int .i64 (j : Int))) w) := fun j hj h1 h2 => by rw [hPost]; exact ⟨rfl, j, by omega, h1, .inr ⟨hj, h2, rfl⟩⟩
  clear hPost
  have HR : Hid (w.heap[tb]? = some (.cells (bvals T) 4 (0, 0))) := hrow
  have HL : Hid (o + n ≤ T.length) := hle
  have hn : n ≤ 4096 := by omega
  clear hrow hle hfew
  go_enter Try.func58, Try.ntmps58
  go_wp2
  go_loopw [8] (fun x wr => ∃ (j : Nat), j ≤ n ∧ x = .int .i64 (j : Int) ∧ wr = w ∧ Hid (∀ i, i < j → T.getD (o + i) false ≠ v)) (fun x _ => n - (intOf x).toNat)
  case atStart => exact ⟨0, Nat.zero_le _, by go_num, rfl, fun i hi => by omega⟩
  case round =>
    obtain ⟨j, hj, rfl, rfl, HA⟩ := hrel
    by_cases hlt : j < n
    · have hlt' : (j : Int) < (n : Int) := by omega
      have hat := row_at HR.out (i := o + j) (by have := HL.out; omega)
      have Hyes : Hid (T.getD (o + j) false = v → Post (.returned (.int .i64 (j : Int))) wr) := fun h => HY.out j hlt HA.out h
      have Hmore : Hid (T.getD (o + j) false ≠ v → ∀ i, i < j + 1 → T.getD (o + i) false ≠ v) := fun h i hi => by
        by_cases hij : i = j
        · rw [hij]; exact h
        · exact HA.out i (by omega)
      generalize T.getD (o + j) false = t at hat Hyes Hmore
      by_cases ht : t = v
      · have R := Hyes.out ht
        have ebb : (v == t) = true := by simpa using ht.symm
        clear HN HY Hyes Hmore HA
        go_wp2
        exact R
      · have HA2 : Hid (∀ i, i < j + 1 → T.getD (o + i) false ≠ v) := Hmore.out ht
        have ebb : (v == t) = false := by simpa using fun h => ht h.symm
        clear HN HY Hyes Hmore HA
        go_wp2
        go_roundw
        case rel => exact ⟨j + 1, by omega, by go_num, trivial, HA2⟩
        case measure => simp [intOf]; omega
    · obtain rfl : j = n := by omega
      have hge : ¬ (j : Int) < (j : Int) := by omega
      have R := HN.out HA.out
      clear HN HY HA
      go_wp2
      exact R
end Go.Proofs.Ytdjhlpllffakpaa.Q
