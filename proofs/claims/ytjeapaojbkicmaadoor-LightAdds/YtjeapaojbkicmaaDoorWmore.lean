/-
  What two laws share: a row of one's own out of another one; nine rows of which one cell is another one.
-/
import Derived.Test.YtjeapaojbkicmaaDoorLaw0
import Derived.Test.YtjeapaojbkicmaaDoorLred
import Derived.Test.YtjeapaojbkicmaaDoorLflood
set_option maxRecDepth 20000
namespace Go.Proofs.YtjeapaojbkicmaaDoor
open C Go.RowKit L

/-- A new row out of one that lies there. -/
theorem wpList_append_new {w : World} {ops : Array Oper} {rest : List Oper} {o : Oper} {a : Act} {Q : Exit → Act → World → Prop} (t e : TypeId) (z : Value) (by8 : Nat) (hu : Tryd.prog.underlying t = some (.slice e)) (hinfo : (Tryd.prog.info? e).map (fun i => (i.zero, i.size, i.bytes)) = some (some z, 1, by8)) (hz : z.cells.size = 1) (hb8 : by8 ≤ 100)
    (hgd : o.guard = none) (s x : Operand) (ho : o.op = .call { callee := .builtin .append, args := #[s, x], argTypes := #[t, t] }) (hs : a.eval s = .slice none 0 0) (g k cap : Nat) (xs : List Value) (hk : xs.length = k) (h0 : 0 < k) (hle : k ≤ 100000)
    (hx : a.eval x = .slice (some ⟨g, 0, none⟩) k cap) (hnews : ∀ j u, xs[j]? = some u → w.cell? ⟨g, j, none⟩ = some u) (hone : ∀ y ∈ xs, y.oneCell' = true)
    (h : ∀ g' c' w', k ≤ c' → w.heap.size ≤ g' → Hid (∃ cur : Array Value, w'.heap[g']? = some (.cells cur e (0, 0)) ∧ k ≤ cur.size ∧ ∀ j, j < k → cur[j]? = xs[j]?) → Hid (Below w.heap.size w w') → wpList Tryd.prog ops Q rest (a.put o.dst (.slice (some ⟨g', 0, none⟩) k c')) w') : wpList Tryd.prog ops Q (o :: rest) a w := by
  obtain ⟨i, hi, hz0, hz1, hz2⟩ := info_parts hinfo
  refine wpList_append_own_at w hgd s x t ho w.heap.size e i _ 1 by8 hu hi hz0 hz1 hz2 hz (by decide) _ 0 [] hs (World.ownsRow_nil _ _ _ _) ⟨g, 0, none⟩ k cap xs hx (by omega) (fun j u hj => by
    have e2 : Addr.add ⟨g, 0, none⟩ j = ⟨g, j, none⟩ := by cases j with
      | zero => rfl
      | succ j => simp [Addr.add]
    rw [e2]
    exact hnews j u hj) (by simpa using hone) (by unfold maxLen; omega) (by rw [Nat.zero_add]; have := Nat.mul_le_mul (show k ≤ 100001 by omega) hb8; omega) (Nat.le_refl _) ?_
  intro v' w' h1 h2 _ _
  rcases h1.2 with ⟨_, h3⟩ | ⟨g', cap', cur, hv, hlo, hh, hlen, hcap, _, ht⟩
  · omega
  · rw [Nat.zero_add] at hv
    subst hv
    refine h g' cap' w' ?_ hlo ⟨cur, hh, ?_, fun j hj => ?_⟩ ⟨h2.os, h2.tape, h2.output, h2.size, fun q hq => h2.block q hq (fun e' => by simp [Value.ownBlock] at e')⟩
    · omega
    · have e := congrArg List.length ht
      rw [List.length_take, Array.length_toList, List.nil_append, hk] at e
      omega
    · have e := congrArg (fun l => l[j]?) ht
      change (List.take ((0 + k) * 1) cur.toList)[j]? = ([] ++ xs)[j]? at e
      rw [List.getElem?_take, if_pos (by omega), List.nil_append] at e
      simpa using e
theorem info_u8 : (Tryd.prog.info? 5).map (fun i => (i.zero, i.size, i.bytes)) = some (some (.int .u8 0), 1, 1) := by kernel_rfl
theorem info_bytes : (Tryd.prog.info? 28).map (fun i => (i.zero, i.size, i.bytes)) = some (some (.slice none 0 0), 1, 24) := by kernel_rfl
/-- The rows' slices as values. -/
def rowV (gs : Nat → Nat) : List Value := (List.range 9).map fun j => .slice (some ⟨gs j, 0, none⟩) 32768 32768
theorem rowV_len (gs : Nat → Nat) : (rowV gs).length = 9 := by simp [rowV]
theorem rowV_at (gs : Nat → Nat) {j : Nat} (hj : j < 9) : (rowV gs)[j]? = some (.slice (some ⟨gs j, 0, none⟩) 32768 32768) := by
  unfold rowV
  rw [List.getElem?_map, List.getElem?_range hj]
  rfl
theorem rowV_cells {w : World} {b : Nat} {gs : Nat → Nat} {css : List (List Int)} (h : Nr w b gs (fun _ => 32768) css) : ∀ j u, (rowV gs)[j]? = some u → w.cell? ⟨b, j, none⟩ = some u := fun j u hu => by
  obtain ⟨hj, _⟩ := List.getElem?_eq_some_iff.1 hu
  rw [rowV_len] at hj
  rw [rowV_at gs hj] at hu
  cases hu
  exact h.out j hj
theorem rowV_one (gs : Nat → Nat) : ∀ y ∈ rowV gs, y.oneCell' = true := fun y hy => by
  unfold rowV at hy
  obtain ⟨j, _, rfl⟩ := List.mem_map.1 hy
  rfl
theorem bytes_cells {w : World} {g : Nat} {t : TypeId} {cs : List Int} (h : Pre w g t cs) : ∀ j u, (cs.map (Value.int .u8))[j]? = some u → w.cell? ⟨g, j, none⟩ = some u := fun j u hu => by
  obtain ⟨hj, _⟩ := List.getElem?_eq_some_iff.1 hu
  rw [List.length_map] at hj
  rw [List.getElem?_map, List.getElem?_eq_getElem hj] at hu
  have e : Value.int .u8 (cs[j]) = u := by simpa using hu
  rw [h.cell hj, ← e, List.getD_eq_getElem?_getD, List.getElem?_eq_getElem hj]
  rfl
theorem bytes_one (cs : List Int) : ∀ y ∈ cs.map (Value.int .u8), y.oneCell' = true := fun y hy => by
  obtain ⟨x, _, rfl⟩ := List.mem_map.1 hy
  rfl
/-- A copy of a row of bytes. -/
theorem copy_pre {w : World} {g k : Nat} {cs : List Int} (h : ∃ cur : Array Value, w.heap[g]? = some (.cells cur 5 (0, 0)) ∧ k ≤ cur.size ∧ ∀ j, j < k → cur[j]? = (cs.map (Value.int .u8))[j]?) (hl : cs.length = k) : Pre w g 5 cs := by
  obtain ⟨cur, h1, h2, h3⟩ := h
  refine ⟨cur, h1, by omega, fun j hj => ?_⟩
  rw [h3 j (by omega), List.getElem?_map, List.getElem?_eq_getElem hj, List.getD_eq_getElem?_getD, List.getElem?_eq_getElem hj]
  rfl
/-- The new nine rows: one of them is a row of its own. -/
structure NextG (w0 w : World) (gn gb cb : Nat) (gs : Nat → Nat) (css : List (List Int)) : Prop where
  row : ∀ j, j < 9 → j ≠ 4 → w.cell? ⟨gn, j, none⟩ = some (.slice (some ⟨gs j, 0, none⟩) 32768 32768)
  four : w.cell? ⟨gn, 4, none⟩ = some (.slice (some ⟨gb, 0, none⟩) 32768 cb)
  cap : 32768 ≤ cb
  own : Pre w gb 5 (css.getD 4 [])
  bel : Below w0.heap.size w0 w
  low : w0.heap.size ≤ gn ∧ w0.heap.size ≤ gb
theorem NextG.nr {w0 w : World} {gn gb cb I : Nat} {gs : Nat → Nat} {css : List (List Int)} {v : Int} {gn0 : Nat} (h : NextG w0 w gn gb cb gs css) (hn : Nr w0 gn0 gs (fun _ => 32768) css) (h9 : css.length = 9) (hne : gn ≠ gb) :
    Nr (w.setCell ⟨gb, I, none⟩ (.int .u8 v)) gn (fun j => if j = 4 then gb else gs j) (fun j => if j = 4 then cb else 32768) (setM css I v) := by
  have hat : ∀ j, j < 9 → (setM css I v).getD j [] = if j = 4 then (css.getD 4 []).set I v else css.getD j [] := fun j hj => by
    unfold setM
    by_cases q : j = 4
    · subst q
      rw [if_pos rfl, List.getD_eq_getElem?_getD, List.getElem?_set_self (by omega)]
      rfl
    · rw [if_neg q, List.getD_eq_getElem?_getD, List.getElem?_set_ne (fun e => q e.symm), ← List.getD_eq_getElem?_getD]
  refine ⟨fun j hj => ?_, fun j hj => ?_, fun j hj => ?_, fun j hj => ?_⟩
  · rw [World.cell?_setCell_other w _ _ _ (fun e => hne (by injection e with e1 _ _; exact e1.symm))]
    by_cases q : j = 4
    · subst q; simp only [if_true]; exact h.four
    · simp only [if_neg q]; exact h.row j hj q
  · by_cases q : j = 4
    · subst q; simp only [if_true]; exact h.cap
    · simp only [if_neg q]; omega
  · rw [hat j hj]
    by_cases q : j = 4
    · subst q; simp only [if_true]; exact h.own.set I v
    · simp only [if_neg q]
      have h1 := (hn.row j hj)
      exact (h1.below h.bel h1.lt).other (by have := h1.lt; have := h.low.2; omega)
  · rw [hat j hj]
    by_cases q : j = 4
    · subst q; simp only [if_true]; rw [List.length_set]; exact hn.len 4 (by omega)
    · simp only [if_neg q]; exact hn.len j hj
theorem NextG.make {w3 w4 w5 : World} {gn gb cb : Nat} {gs : Nat → Nat} {css : List (List Int)} (hN4 : ∃ cur : Array Value, w4.heap[gn]? = some (.cells cur 28 (0, 0)) ∧ 9 ≤ cur.size ∧ ∀ j, j < 9 → cur[j]? = (rowV gs)[j]?) (hb34 : Below w3.heap.size w3 w4) (hgn : w3.heap.size ≤ gn)
    (hN5 : Pre w5 gb 5 (css.getD 4 [])) (hb45 : Below w4.heap.size w4 w5) (hgb : w4.heap.size ≤ gb) (hcb : 32768 ≤ cb) : NextG w3 (w5.setCell ⟨gn, 4, none⟩ (.slice (some ⟨gb, 0, none⟩) 32768 cb)) gn gb cb gs css ∧ gn ≠ gb ∧ w5.cell? ⟨gn, 4, none⟩ = some (.slice (some ⟨gs 4, 0, none⟩) 32768 32768) ∧ w5.frozen? ⟨gn, 4, none⟩ = false := by
  obtain ⟨cur, h1, h2, h3⟩ := hN4
  have hlt : gn < w4.heap.size := (Array.getElem?_eq_some_iff.1 h1).1
  have h5 : w5.heap[gn]? = some (.cells cur 28 (0, 0)) := (hb45.block gn hlt).trans h1
  have hc : ∀ j, j < 9 → w5.cell? ⟨gn, j, none⟩ = some (.slice (some ⟨gs j, 0, none⟩) 32768 32768) := fun j hj => by
    rw [cell_of_row w5 gn j cur 28 (0, 0) h5, h3 j hj, rowV_at gs hj]
  have hne : gn ≠ gb := by omega
  refine ⟨⟨fun j hj hq => ?_, World.cell?_setCell_same w5 _ _ (hc 4 (by omega)), hcb, hN5.other (Ne.symm hne), ?_, hgn, by have := hb34.size; omega⟩, hne, hc 4 (by omega), frozen_of_row w5 gn 4 cur 28 h5⟩
  · rw [World.cell?_setCell_other w5 _ _ _ (fun e => hq (by injection e with _ e2 _; exact e2.symm))]
    exact hc j hj
  · exact (hb34.trans (hb45.mono hb34.size)).trans ⟨rfl, rfl, rfl, by simp [World.setCell], fun j hj => Below.heap_setCell w5 ⟨gn, 4, none⟩ _ j (by show j ≠ gn; omega)⟩
theorem setM_kinds {css : List (List Int)} {I : Nat} {v : Int} (h : ∀ j, j < 9 → Kinds (css.getD j [])) (h9 : css.length = 9) (hv : 0 ≤ v ∧ v ≤ 16) : ∀ j, j < 9 → Kinds ((setM css I v).getD j []) := fun j hj => by
  unfold setM
  by_cases q : j = 4
  · subst q
    rw [List.getD_eq_getElem?_getD, List.getElem?_set_self (by omega)]
    intro x hx
    rcases List.mem_or_eq_of_mem_set hx with h1 | h1
    · exact h 4 (by omega) x h1
    · rw [h1]; exact hv
  · rw [List.getD_eq_getElem?_getD, List.getElem?_set_ne (fun e => q e.symm), ← List.getD_eq_getElem?_getD]
    exact h j hj
end Go.Proofs.YtjeapaojbkicmaaDoor
