/-
  The chapter's table, as the program lays it, and what each question about a kind answers, of the program, for every number; whatever lay is as it lay.
-/
import Derived.Test.YtdkmlhchfclpeaaDoorProg
import Derived.WalkKit
import Derived.WalkLawsBesides
import Derived.WalkSpells
import Derived.Below
import Derived.Deep.MidRow
namespace Go.Proofs.YtdkmlhchfclpeaaDoor
open Go.RowKit

theorem ret_int {k : IntKind} {a b : Int} (h : a = b) : Ending.returned (.int k a) = .returned (.int k b) := by rw [h]
theorem ret_bool {a b : Bool} (h : a = b) : Ending.returned (.bool a) = .returned (.bool b) := by rw [h]
theorem ret_string {a b : ByteArray} (h : a = b) : Ending.returned (.string a) = .returned (.string b) := by rw [h]

theorem str_ne {a b : ByteArray} (h : a ≠ b) : (a.toList == b.toList) = false := by
  rw [ByteArray.toList_eq, ByteArray.toList_eq]
  exact beq_false_of_ne fun e => h (by cases a; cases b; simp at e; rw [e])

/-- The table's columns: names, opaque, clear, loss, emits. -/
def nmL : List (List UInt8) := [[97, 105, 114], [115, 116, 111, 110, 101], [100, 105, 114, 116], [103, 114, 97, 115, 115], [115, 97, 110, 100], [119, 97, 116, 101, 114], [103, 114, 97, 118, 101, 108], [99, 111, 97, 108], [105, 114, 111, 110], [103, 111, 108, 100], [108, 111, 103], [108, 101, 97, 118, 101, 115], [98, 114, 105, 99, 107], [108, 97, 109, 112], [103, 108, 97, 115, 115], [98, 101, 100, 114, 111, 99, 107]]
def opL : List Bool := [false, true, true, true, true, false, true, true, true, true, true, false, true, false, false, true]
def clL : List Bool := [true, false, false, false, false, false, false, false, false, false, false, false, false, false, true, false]
def lsL : List Int := [1, 16, 16, 16, 16, 3, 16, 16, 16, 16, 16, 2, 16, 1, 1, 16]
def emL : List Int := [0, 0, 0, 0, 0, 0, 0, 0, 0, 3, 0, 0, 0, 14, 0, 0]
def nm (k : Nat) : ByteArray := ⟨(nmL.getD k []).toArray⟩
def op (k : Nat) : Bool := opL.getD k false
def cl (k : Nat) : Bool := clL.getD k false
def ls (k : Nat) : Int := lsL.getD k 0
def em (k : Nat) : Int := emL.getD k 0
/-- A number as a row of the table: 16 and more: none. -/
def rowOf (k : Int) : Nat := if k < 0 ∨ 15 < k then 16 else k.toNat
def rowCells (k : Nat) : List Value := [.string (nm k), .bool (op k), .bool (cl k), .int .i64 (ls k), .int .i64 (em k)]
noncomputable def tab : List Value := (List.range 16).flatMap rowCells
/-- The table lies in the first block. -/
def Tab (w : World) : Prop := ∃ t fr, w.heap[0]? = some (.cells tab.toArray t fr)
theorem Tab.on {w w' : World} (h : Tab w) (b : Below w.heap.size w w') : Tab w' := by
  obtain ⟨t, fr, h⟩ := h
  exact ⟨t, fr, (b.block 0 (Array.getElem?_eq_some_iff.1 h).1).trans h⟩
theorem tab_row {K : Nat} (hK : K < 16) (j : Nat) (hj : j < 5) : tab[K * 5 + j]? = (rowCells K)[j]? := by
  have h : ∀ K < 16, ∀ j < 5, tab[K * 5 + j]? = (rowCells K)[j]? := by
    intro K hK j hj
    iterate 16 (rcases K with _ | K; (iterate 5 (rcases j with _ | j; kernel_rfl)); omega)
    omega
  exact h K hK j hj
theorem Tab.range {w : World} (h : Tab w) {K : Nat} (hK : K < 16) : w.rangeAt 0 (K * 5) (rowCells K) := by
  obtain ⟨t, fr, h⟩ := h
  intro j v hv
  have hj : j < 5 := (List.getElem?_eq_some_iff.1 hv).1
  rw [cell_of_row w 0 _ _ t fr h, List.getElem?_toArray, tab_row hK j hj]
  exact hv
theorem info34 : (Tryd.prog.info? 34).map (·.size) = some 5 := by kernel_rfl
theorem Tab.load {w : World} (h : Tab w) {K : Nat} (hK : K < 16) : (Instr.loadAt 34 (.pointer (some ⟨0, K * 5, none⟩))).run Tryd.prog w = .ok (.agg #[.string (nm K), .bool (op K), .bool (cl K), .int .i64 (ls K), .int .i64 (em K)]) w :=
  run_loadAt_mid w 0 (K * 5) 34 (rowCells K) _ (h.range hK) Tryd.underlying34 rfl info34
end Go.Proofs.YtdkmlhchfclpeaaDoor
