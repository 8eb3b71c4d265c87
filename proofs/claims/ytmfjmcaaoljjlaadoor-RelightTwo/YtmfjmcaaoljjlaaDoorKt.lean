/-
  The program's table of kinds, as the program lays it; what the questions about a kind answer.
-/
import Derived.Test.YtmfjmcaaoljjlaaDoorLkin
import Derived.Test.YtmfjmcaaoljjlaaDoorCTops
import Derived.WalkKit
import Derived.WalkLawsBesides
import Derived.WalkSpells
import Derived.Below
import Derived.Deep.MidRow
set_option maxRecDepth 20000
namespace Go.Proofs.YtmfjmcaaoljjlaaDoor
open C Go.RowKit L

/-- The table's columns: names, shut, clear, loss, emits. -/
def nmL : List (List UInt8) := [[97, 105, 114], [115, 116, 111, 110, 101], [100, 105, 114, 116], [103, 114, 97, 115, 115], [115, 97, 110, 100], [119, 97, 116, 101, 114], [103, 114, 97, 118, 101, 108], [99, 111, 97, 108], [105, 114, 111, 110], [103, 111, 108, 100], [108, 111, 103], [108, 101, 97, 118, 101, 115], [98, 114, 105, 99, 107], [108, 97, 109, 112], [103, 108, 97, 115, 115], [98, 101, 100, 114, 111, 99, 107]]
def opL : List Bool := [false, true, true, true, true, false, true, true, true, true, true, false, true, false, false, true]
def clL : List Bool := [true, false, false, false, false, false, false, false, false, false, false, false, false, false, true, false]
def lsL : List Int := [1, 16, 16, 16, 16, 3, 16, 16, 16, 16, 16, 2, 16, 1, 1, 16]
def emL : List Int := [0, 0, 0, 0, 0, 0, 0, 0, 0, 3, 0, 0, 0, 14, 0, 0]
def nmK (k : Nat) : ByteArray := ⟨(nmL.getD k []).toArray⟩
def opK (k : Nat) : Bool := opL.getD k false
def clK (k : Nat) : Bool := clL.getD k false
def lsK (k : Nat) : Int := lsL.getD k 0
def emK (k : Nat) : Int := emL.getD k 0
def rowCells (k : Nat) : List Value := [.string (nmK k), .bool (opK k), .bool (clK k), .int .i64 (lsK k), .int .i64 (emK k)]
/-- The table of kinds lies in the first block. -/
structure Tabs (w : World) : Prop where
  kinds : ∃ t fr, w.heap[0]? = some (.cells ((List.range 16).flatMap rowCells).toArray t fr)
theorem Tabs.on {w w' : World} (h : Tabs w) (b : Below w.heap.size w w') : Tabs w' := by
  obtain ⟨t, fr, h1⟩ := h.kinds
  exact ⟨⟨t, fr, (b.block 0 (Array.getElem?_eq_some_iff.1 h1).1).trans h1⟩⟩
theorem Tabs.grown {w w' : World} {g : Nat} (h : Tabs w) (hg : w.grownBy w' (some g)) (hne : 0 < g) : Tabs w' := by
  obtain ⟨t, fr, h1⟩ := h.kinds
  exact ⟨⟨t, fr, (hg.block 0 (Array.getElem?_eq_some_iff.1 h1).1 (fun e => by cases e; omega)).trans h1⟩⟩
theorem tab_row {K : Nat} (hK : K < 16) (j : Nat) (hj : j < 5) : ((List.range 16).flatMap rowCells)[K * 5 + j]? = (rowCells K)[j]? := by
  have h : ∀ K < 16, ∀ j < 5, ((List.range 16).flatMap rowCells)[K * 5 + j]? = (rowCells K)[j]? := by
    intro K hK j hj
    iterate 16 (rcases K with _ | K; (iterate 5 (rcases j with _ | j; kernel_rfl)); omega)
    omega
  exact h K hK j hj
theorem Tabs.range {w : World} (h : Tabs w) {K : Nat} (hK : K < 16) : w.rangeAt 0 (K * 5) (rowCells K) := by
  obtain ⟨t, fr, h⟩ := h.kinds
  intro j v hv
  have hj : j < 5 := (List.getElem?_eq_some_iff.1 hv).1
  rw [cell_of_row w 0 _ _ t fr h, List.getElem?_toArray, tab_row hK j hj]
  exact hv
theorem isOpaque_c (s : ByteArray) (a b : Bool) (l e : Int) (w : World) : Calls Tryd.prog 46 #[.agg #[.string s, .bool a, .bool b, .int .i64 l, .int .i64 e]] w fun x w' => x = .returned (.bool a) ∧ Below w.heap.size w w' := by
  go_enter Tryd.func46, Tryd.ntmps46
  go_wp2
  go_ret
  exact ⟨rfl, (Below.refl _ _).alloc (Nat.le_refl _) _⟩
theorem ask_isOpaque (K : Nat) (hK : K < 16) (w : World) (T : Tabs w) : Calls Tryd.prog 45 #[.int .i64 (K : Int), .func (.func 46) #[] #[]] w fun x w' => x = .returned (.bool (opK K)) ∧ Below w.heap.size w w' := by
  have c0 := T.range hK 0 _ rfl
  have c1 := T.range hK 1 _ rfl
  have c2 := T.range hK 2 _ rfl
  have c3 := T.range hK 3 _ rfl
  have c4 := T.range hK 4 _ rfl
  rw [Nat.add_zero] at c0
  have h0 : ¬ (K : Int) < 0 := by omega
  have h2 : ¬ (16 : Int) ≤ K := by omega
  clear hK
  go_enter Tryd.func45, Tryd.ntmps45
  go_wp2_with fail
  refine (isOpaque_c _ _ _ _ _ _).mono ?_
  rintro _ w1 ⟨rfl, b⟩
  go_wp2
  go_ret
  exact ⟨rfl, b⟩
theorem ask_isOpaque16 (w : World) : Calls Tryd.prog 45 #[.int .i64 16, .func (.func 46) #[] #[]] w fun x w' => x = .returned (.bool (opK 16)) ∧ Below w.heap.size w w' := by
  go_enter Tryd.func45, Tryd.ntmps45
  go_wp2_with fail
  refine (isOpaque_c _ _ _ _ _ _).mono ?_
  rintro _ w1 ⟨rfl, b⟩
  go_wp2
  go_ret
  exact ⟨rfl, b⟩
theorem kind_isOpaque (K : Nat) (hK : K < 17) (w : World) (T : Tabs w) : Calls Tryd.prog 42 #[.int .i64 (K : Int)] w fun x w' => x = .returned (.bool (opK K)) ∧ Below w.heap.size w w' := by
  rcases Nat.lt_or_ge K 16 with h | h
  · have hc := ask_isOpaque K h w T
    clear h hK
    go_enter Tryd.func42, Tryd.ntmps42
    go_wp2_with fail
    refine hc.mono ?_
    rintro _ w1 ⟨rfl, b⟩
    clear hc
    go_wp2
    go_ret
    exact ⟨rfl, b⟩
  · obtain rfl : K = 16 := by omega
    have hc := ask_isOpaque16 w
    clear h hK
    go_enter Tryd.func42, Tryd.ntmps42
    go_wp2_with fail
    refine hc.mono ?_
    rintro _ w1 ⟨rfl, b⟩
    clear hc
    go_wp2
    go_ret
    exact ⟨rfl, b⟩
theorem isClear_c (s : ByteArray) (a b : Bool) (l e : Int) (w : World) : Calls Tryd.prog 66 #[.agg #[.string s, .bool a, .bool b, .int .i64 l, .int .i64 e]] w fun x w' => x = .returned (.bool b) ∧ Below w.heap.size w w' := by
  go_enter Tryd.func66, Tryd.ntmps66
  go_wp2
  go_ret
  exact ⟨rfl, (Below.refl _ _).alloc (Nat.le_refl _) _⟩
theorem ask_isClear (K : Nat) (hK : K < 16) (w : World) (T : Tabs w) : Calls Tryd.prog 45 #[.int .i64 (K : Int), .func (.func 66) #[] #[]] w fun x w' => x = .returned (.bool (clK K)) ∧ Below w.heap.size w w' := by
  have c0 := T.range hK 0 _ rfl
  have c1 := T.range hK 1 _ rfl
  have c2 := T.range hK 2 _ rfl
  have c3 := T.range hK 3 _ rfl
  have c4 := T.range hK 4 _ rfl
  rw [Nat.add_zero] at c0
  have h0 : ¬ (K : Int) < 0 := by omega
  have h2 : ¬ (16 : Int) ≤ K := by omega
  clear hK
  go_enter Tryd.func45, Tryd.ntmps45
  go_wp2_with fail
  refine (isClear_c _ _ _ _ _ _).mono ?_
  rintro _ w1 ⟨rfl, b⟩
  go_wp2
  go_ret
  exact ⟨rfl, b⟩
theorem ask_isClear16 (w : World) : Calls Tryd.prog 45 #[.int .i64 16, .func (.func 66) #[] #[]] w fun x w' => x = .returned (.bool (clK 16)) ∧ Below w.heap.size w w' := by
  go_enter Tryd.func45, Tryd.ntmps45
  go_wp2_with fail
  refine (isClear_c _ _ _ _ _ _).mono ?_
  rintro _ w1 ⟨rfl, b⟩
  go_wp2
  go_ret
  exact ⟨rfl, b⟩
theorem kind_isClear (K : Nat) (hK : K < 17) (w : World) (T : Tabs w) : Calls Tryd.prog 65 #[.int .i64 (K : Int)] w fun x w' => x = .returned (.bool (clK K)) ∧ Below w.heap.size w w' := by
  rcases Nat.lt_or_ge K 16 with h | h
  · have hc := ask_isClear K h w T
    clear h hK
    go_enter Tryd.func65, Tryd.ntmps65
    go_wp2_with fail
    refine hc.mono ?_
    rintro _ w1 ⟨rfl, b⟩
    clear hc
    go_wp2
    go_ret
    exact ⟨rfl, b⟩
  · obtain rfl : K = 16 := by omega
    have hc := ask_isClear16 w
    clear h hK
    go_enter Tryd.func65, Tryd.ntmps65
    go_wp2_with fail
    refine hc.mono ?_
    rintro _ w1 ⟨rfl, b⟩
    clear hc
    go_wp2
    go_ret
    exact ⟨rfl, b⟩
theorem loses_c (s : ByteArray) (a b : Bool) (l e : Int) (w : World) : Calls Tryd.prog 48 #[.agg #[.string s, .bool a, .bool b, .int .i64 l, .int .i64 e]] w fun x w' => x = .returned (.int .i64 l) ∧ Below w.heap.size w w' := by
  go_enter Tryd.func48, Tryd.ntmps48
  go_wp2
  go_ret
  exact ⟨rfl, (Below.refl _ _).alloc (Nat.le_refl _) _⟩
theorem ask_loses (K : Nat) (hK : K < 16) (w : World) (T : Tabs w) : Calls Tryd.prog 47 #[.int .i64 (K : Int), .func (.func 48) #[] #[]] w fun x w' => x = .returned (.int .i64 (lsK K)) ∧ Below w.heap.size w w' := by
  have c0 := T.range hK 0 _ rfl
  have c1 := T.range hK 1 _ rfl
  have c2 := T.range hK 2 _ rfl
  have c3 := T.range hK 3 _ rfl
  have c4 := T.range hK 4 _ rfl
  rw [Nat.add_zero] at c0
  have h0 : ¬ (K : Int) < 0 := by omega
  have h2 : ¬ (16 : Int) ≤ K := by omega
  clear hK
  go_enter Tryd.func47, Tryd.ntmps47
  go_wp2_with fail
  refine (loses_c _ _ _ _ _ _).mono ?_
  rintro _ w1 ⟨rfl, b⟩
  go_wp2
  go_ret
  exact ⟨rfl, b⟩
theorem ask_loses16 (w : World) : Calls Tryd.prog 47 #[.int .i64 16, .func (.func 48) #[] #[]] w fun x w' => x = .returned (.int .i64 (lsK 16)) ∧ Below w.heap.size w w' := by
  go_enter Tryd.func47, Tryd.ntmps47
  go_wp2_with fail
  refine (loses_c _ _ _ _ _ _).mono ?_
  rintro _ w1 ⟨rfl, b⟩
  go_wp2
  go_ret
  exact ⟨rfl, b⟩
theorem kind_loses (K : Nat) (hK : K < 17) (w : World) (T : Tabs w) : Calls Tryd.prog 43 #[.int .i64 (K : Int)] w fun x w' => x = .returned (.int .i64 (lsK K)) ∧ Below w.heap.size w w' := by
  rcases Nat.lt_or_ge K 16 with h | h
  · have hc := ask_loses K h w T
    clear h hK
    go_enter Tryd.func43, Tryd.ntmps43
    go_wp2_with fail
    refine hc.mono ?_
    rintro _ w1 ⟨rfl, b⟩
    clear hc
    go_wp2
    go_ret
    exact ⟨rfl, b⟩
  · obtain rfl : K = 16 := by omega
    have hc := ask_loses16 w
    clear h hK
    go_enter Tryd.func43, Tryd.ntmps43
    go_wp2_with fail
    refine hc.mono ?_
    rintro _ w1 ⟨rfl, b⟩
    clear hc
    go_wp2
    go_ret
    exact ⟨rfl, b⟩
theorem shines_c (s : ByteArray) (a b : Bool) (l e : Int) (w : World) : Calls Tryd.prog 69 #[.agg #[.string s, .bool a, .bool b, .int .i64 l, .int .i64 e]] w fun x w' => x = .returned (.int .i64 e) ∧ Below w.heap.size w w' := by
  go_enter Tryd.func69, Tryd.ntmps69
  go_wp2
  go_ret
  exact ⟨rfl, (Below.refl _ _).alloc (Nat.le_refl _) _⟩
theorem ask_shines (K : Nat) (hK : K < 16) (w : World) (T : Tabs w) : Calls Tryd.prog 47 #[.int .i64 (K : Int), .func (.func 69) #[] #[]] w fun x w' => x = .returned (.int .i64 (emK K)) ∧ Below w.heap.size w w' := by
  have c0 := T.range hK 0 _ rfl
  have c1 := T.range hK 1 _ rfl
  have c2 := T.range hK 2 _ rfl
  have c3 := T.range hK 3 _ rfl
  have c4 := T.range hK 4 _ rfl
  rw [Nat.add_zero] at c0
  have h0 : ¬ (K : Int) < 0 := by omega
  have h2 : ¬ (16 : Int) ≤ K := by omega
  clear hK
  go_enter Tryd.func47, Tryd.ntmps47
  go_wp2_with fail
  refine (shines_c _ _ _ _ _ _).mono ?_
  rintro _ w1 ⟨rfl, b⟩
  go_wp2
  go_ret
  exact ⟨rfl, b⟩
theorem ask_shines16 (w : World) : Calls Tryd.prog 47 #[.int .i64 16, .func (.func 69) #[] #[]] w fun x w' => x = .returned (.int .i64 (emK 16)) ∧ Below w.heap.size w w' := by
  go_enter Tryd.func47, Tryd.ntmps47
  go_wp2_with fail
  refine (shines_c _ _ _ _ _ _).mono ?_
  rintro _ w1 ⟨rfl, b⟩
  go_wp2
  go_ret
  exact ⟨rfl, b⟩
theorem kind_shines (K : Nat) (hK : K < 17) (w : World) (T : Tabs w) : Calls Tryd.prog 68 #[.int .i64 (K : Int)] w fun x w' => x = .returned (.int .i64 (emK K)) ∧ Below w.heap.size w w' := by
  rcases Nat.lt_or_ge K 16 with h | h
  · have hc := ask_shines K h w T
    clear h hK
    go_enter Tryd.func68, Tryd.ntmps68
    go_wp2_with fail
    refine hc.mono ?_
    rintro _ w1 ⟨rfl, b⟩
    clear hc
    go_wp2
    go_ret
    exact ⟨rfl, b⟩
  · obtain rfl : K = 16 := by omega
    have hc := ask_shines16 w
    clear h hK
    go_enter Tryd.func68, Tryd.ntmps68
    go_wp2_with fail
    refine hc.mono ?_
    rintro _ w1 ⟨rfl, b⟩
    clear hc
    go_wp2
    go_ret
    exact ⟨rfl, b⟩
theorem cl_is (K : Nat) (h : K < 17) : clK K = clearK K := by
  have : ∀ K < 17, clK K = clearK ((K : Nat) : Int) := by decide
  exact this K h
theorem em_is (K : Nat) (h : K < 17) : emK K = (emitsK K : Nat) := by
  have : ∀ K < 17, emK K = ((emitsK ((K : Nat) : Int) : Nat) : Int) := by decide
  exact this K h
/-- What light loses: more than there ever is, where none comes in. -/
def lossF (k : Int) : Nat := if passK k = true then lossK k else 16
theorem lossBd (k : Int) : 1 ≤ lossF k ∧ lossF k ≤ 16 := by
  unfold lossF
  by_cases h : passK k = true
  · have := pass_loss h
    rw [if_pos h]; omega
  · rw [if_neg h]; omega
theorem loss_is (K : Nat) (h : K < 16) : (if opK K = true then (16 : Int) else lsK K) = (lossF K : Nat) := by
  have : ∀ K < 16, (if opK K = true then (16 : Int) else lsK K) = ((lossF ((K : Nat) : Int) : Nat) : Int) := by decide
  exact this K h
end Go.Proofs.YtmfjmcaaoljjlaaDoor
