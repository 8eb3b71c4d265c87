/-
  Fields of bools in memory; the document's automaton once.
-/
import Derived.Test.YtajjaeaknonmfaaVbase
set_option maxRecDepth 20000
namespace Go.Proofs.Ytajjaeaknonmfaa
open C Go.RowKit

def BBlk (w : World) (b : Nat) (bs : List Bool) : Prop := w.heap[b]? = some (.cells (bs.map Value.bool).toArray 4 (0, 0))
theorem BBlk.lt {w : World} {b : Nat} {bs : List Bool} (h : BBlk w b bs) : b < w.heap.size := (Array.getElem?_eq_some_iff.1 h).1
theorem BBlk.cell {w : World} {b : Nat} {bs : List Bool} (h : BBlk w b bs) {k : Nat} (hk : k < bs.length) : w.cell? ⟨b, k, none⟩ = some (.bool (bs.getD k false)) := by
  rw [cell_of_row w b k _ 4 (0, 0) h]
  simp [List.getD_eq_getElem?_getD, hk]
theorem BBlk.free {w : World} {b : Nat} {bs : List Bool} (h : BBlk w b bs) (k : Nat) : w.frozen? ⟨b, k, none⟩ = false := frozen_of_row w b k _ 4 h
theorem BBlk.set {w : World} {b : Nat} {bs : List Bool} (h : BBlk w b bs) (k : Nat) (x : Bool) : BBlk (w.setCell ⟨b, k, none⟩ (.bool x)) b (bs.set k x) := by
  unfold BBlk
  rw [heap_setCell_same w b k _ 4 _ h]
  simp
theorem BBlk.on {w w' : World} {b : Nat} {bs : List Bool} (h : BBlk w b bs) (hb : Below w.heap.size w w') : BBlk w' b bs := (hb.block b h.lt).trans h
theorem getD_setB (zs : List Bool) (i j : Nat) (v : Bool) (hi : i < zs.length) : (zs.set i v).getD j false = if i = j then v else zs.getD j false := by
  rw [List.getD_eq_getElem?_getD, List.getD_eq_getElem?_getD, List.getElem?_set]
  by_cases h : i = j
  · rw [if_pos h, if_pos h, if_pos hi]
    rfl
  · rw [if_neg h, if_neg h]
theorem extB {l m : List Bool} (hl : l.length = m.length) (h : ∀ j, j < l.length → l.getD j false = m.getD j false) : l = m := by
  refine List.ext_getElem hl fun j h1 h2 => ?_
  have := h j h1
  rwa [List.getD_eq_getElem?_getD, List.getElem?_eq_getElem h1, List.getD_eq_getElem?_getD, List.getElem?_eq_getElem h2] at this
theorem info4 : (Try.prog.info? 4).map (fun i => (i.zero, i.size, i.bytes)) = some (some (.bool false), 1, 1) := by kernel_rfl
theorem made_bools (n : Nat) : madeCells #[.bool false] n = ((List.replicate n false).map Value.bool).toArray := by
  apply Array.ext'
  simp only [madeCells, Array.toList_map, Array.toList_range, List.size_toArray, List.length_cons, List.length_nil, Nat.zero_add, Nat.mod_one, List.map_replicate]
  rw [List.eq_replicate_iff]
  refine ⟨by simp, fun b hb => ?_⟩
  simp at hb
  exact hb.2.symm
theorem make_bools (w : World) : (Instr.makeSlice 67 (.int .i64 11200) (.int .i64 11200)).run Try.prog w = .ok (.slice (some ⟨w.heap.size, 0, none⟩) 11200 11200) (w.alloc (.cells ((List.replicate 11200 false).map Value.bool).toArray 4)) := by
  have := run_make_row' (P := Try.prog) 67 4 (.bool false) 1 Try.underlying67 info4 rfl .i64 .i64 11200 (by omega) (by omega) w
  rw [made_bools] at this
  exact this
/-! ### plain -/
def arrF (f : Fld) : List Bool := (List.range 11200).map fun (p : Nat) => f ((p : Int) % 20 - 2) ((p : Int) / 400 + 4) ((p : Int) / 20 % 20 - 2)
theorem range_getB (f : Nat → Bool) (n j : Nat) (h : j < n) : ((List.range n).map f).getD j false = f j := by
  rw [List.getD_eq_getElem?_getD, List.getElem?_map, List.getElem?_range h]
  rfl
theorem arrF_len (f : Fld) : (arrF f).length = 11200 := by simp [arrF]
theorem arrF_at (f : Fld) (p : Nat) (h : p < 11200) : (arrF f).getD p false = f ((p : Int) % 20 - 2) ((p : Int) / 400 + 4) ((p : Int) / 20 % 20 - 2) := range_getB _ 11200 p h
theorem pl_nat (x y z : Int) (hx : -2 ≤ x ∧ x ≤ 17) (hy : 4 ≤ y ∧ y ≤ 31) (hz : -2 ≤ z ∧ z ≤ 17) : ∃ P : Nat, plN x y z = (P : Int) ∧ P < 11200 ∧ (P : Int) % 20 - 2 = x ∧ (P : Int) / 400 + 4 = y ∧ (P : Int) / 20 % 20 - 2 = z := by
  unfold plN
  exact ⟨(((y - 4) * 20 + z + 2) * 20 + x + 2).toNat, by omega, by omega, by omega, by omega, by omega⟩
theorem arrF_pl (f : Fld) (x y z : Int) (hx : -2 ≤ x ∧ x ≤ 17) (hy : 4 ≤ y ∧ y ≤ 31) (hz : -2 ≤ z ∧ z ≤ 17) : ∃ P : Nat, plN x y z = (P : Int) ∧ P < 11200 ∧ (arrF f).getD P false = f x y z := by
  obtain ⟨P, h1, h2, h3, h4, h5⟩ := pl_nat x y z hx hy hz
  exact ⟨P, h1, h2, by rw [arrF_at f P h2, h3, h4, h5]⟩
/-- Up to a place the field is told, behind it all is shut. -/
def Told (G : Fld) (P : Int) (zs : List Bool) : Prop := zs.length = 11200 ∧ ∀ p, p < 11200 → zs.getD p false = (decide ((p : Int) < P) && G ((p : Int) % 20 - 2) ((p : Int) / 400 + 4) ((p : Int) / 20 % 20 - 2))
theorem Told.init {G : Fld} {P : Int} (h : ∀ p : Nat, p < 11200 → (p : Int) < P → G ((p : Int) % 20 - 2) ((p : Int) / 400 + 4) ((p : Int) / 20 % 20 - 2) = false) : Told G P (List.replicate 11200 false) :=
  ⟨List.length_replicate, fun p hp => by
    rw [List.getD_eq_getElem?_getD, List.getElem?_replicate, if_pos hp]
    by_cases e : (p : Int) < P
    · rw [h p hp e]; simp
    · rw [decide_eq_false e]; rfl⟩
theorem Told.jump {G : Fld} {P P' : Int} {zs : List Bool} (h : Told G P zs) (hle : P ≤ P') (hg : ∀ p : Nat, p < 11200 → P ≤ (p : Int) → (p : Int) < P' → G ((p : Int) % 20 - 2) ((p : Int) / 400 + 4) ((p : Int) / 20 % 20 - 2) = false) : Told G P' zs :=
  ⟨h.1, fun p hp => by
    rw [h.2 p hp]
    by_cases e : (p : Int) < P
    · rw [decide_eq_true e, decide_eq_true (by omega)]
    · rw [decide_eq_false e]
      by_cases e2 : (p : Int) < P'
      · rw [hg p hp (by omega) e2]; simp
      · rw [decide_eq_false e2]⟩
theorem Told.put {G : Fld} {x y z : Int} {zs : List Bool} (h : Told G (plN x y z) zs) (hx : -2 ≤ x ∧ x ≤ 17) (hy : 4 ≤ y ∧ y ≤ 31) (hz : -2 ≤ z ∧ z ≤ 17) (P : Nat) (hP : plN x y z = (P : Int)) : Told G (plN (x + 1) y z) (zs.set P (G x y z)) := by
  obtain ⟨P', e1, e2, e3, e4, e5⟩ := pl_nat x y z hx hy hz
  obtain rfl : P = P' := by omega
  have e6 : plN (x + 1) y z = (P : Int) + 1 := by unfold plN at *; omega
  refine ⟨by rw [List.length_set]; exact h.1, fun p hp => ?_⟩
  rw [getD_setB zs P p _ (by rw [h.1]; exact e2), e6]
  by_cases e : P = p
  · subst e
    rw [if_pos rfl, e3, e4, e5, decide_eq_true (by omega), Bool.true_and]
  · rw [if_neg e, h.2 p hp, e1]
    by_cases e7 : (p : Int) < P
    · rw [decide_eq_true e7, decide_eq_true (by omega)]
    · rw [decide_eq_false e7, decide_eq_false (by omega)]
/-- A cell that stays shut. -/
theorem Told.skip {G : Fld} {x y z : Int} {zs : List Bool} (h : Told G (plN x y z) zs) (hx : -2 ≤ x ∧ x ≤ 17) (hy : 4 ≤ y ∧ y ≤ 31) (hz : -2 ≤ z ∧ z ≤ 17) (hG : G x y z = false) : Told G (plN (x + 1) y z) zs := by
  obtain ⟨P, e1, e2, e3, e4, e5⟩ := pl_nat x y z hx hy hz
  have e6 : plN (x + 1) y z = (P : Int) + 1 := by unfold plN at *; omega
  refine h.jump (by omega) (fun p hp h1 h2 => ?_)
  obtain rfl : p = P := by omega
  rw [e3, e4, e5, hG]
theorem Told.done {G : Fld} {P : Int} {zs : List Bool} (h : Told G P zs) (hg : ∀ p : Nat, p < 11200 → P ≤ (p : Int) → G ((p : Int) % 20 - 2) ((p : Int) / 400 + 4) ((p : Int) / 20 % 20 - 2) = false) : zs = arrF G :=
  extB (by rw [h.1, arrF_len]) (fun p hp => by
    rw [h.1] at hp
    rw [h.2 p hp, arrF_at G p hp]
    by_cases e : (p : Int) < P
    · rw [decide_eq_true e, Bool.true_and]
    · rw [hg p hp (by omega)]; simp)
/-- The automaton within a width about the chunk. -/
def nearF (F : Int) (G : Fld) : Fld := fun x y z => decide (-F ≤ x ∧ x < 16 + F ∧ -F ≤ z ∧ z < 16 + F) && G x y z
theorem nearF_out {F : Int} {G : Fld} {x y z : Int} (h : ¬ (-F ≤ x ∧ x < 16 + F ∧ -F ≤ z ∧ z < 16 + F)) : nearF F G x y z = false := by unfold nearF; rw [decide_eq_false h]; rfl
theorem nearF_in {F : Int} {G : Fld} {x y z : Int} (h : -F ≤ x ∧ x < 16 + F ∧ -F ≤ z ∧ z < 16 + F) : nearF F G x y z = G x y z := by unfold nearF; rw [decide_eq_true h, Bool.true_and]
theorem near_y {F : Int} {css : List (List Int)} {f : Fld} {x y z : Int} (h : y < 6 ∨ 29 < y) : nearF F (stepF (fitN css) f) x y z = false := by
  have : fitN css x y z = false := by unfold fitN; rw [decide_eq_false (by omega)]; rfl
  unfold nearF stepF
  rw [this]
  simp
section
variable {F : Int} (h0 : 0 ≤ F) (h2 : F ≤ 2) {css : List (List Int)} {f : Fld}
include h0 h2
theorem near_start : Told (nearF F (stepF (fitN css) f)) (plN (-F) 6 (-F)) (List.replicate 11200 false) :=
  Told.init fun p _ hp => by
    unfold plN at hp
    by_cases hy : (p : Int) / 400 + 4 < 6
    · exact near_y (.inl hy)
    · exact nearF_out (by omega)
theorem near_nextz {y z : Int} {zs : List Bool} (h : Told (nearF F (stepF (fitN css) f)) (plN (16 + F) y z) zs) : Told (nearF F (stepF (fitN css) f)) (plN (-F) y (z + 1)) zs :=
  h.jump (by unfold plN; omega) (fun p _ h3 h4 => nearF_out (by unfold plN at h3 h4; omega))
theorem near_nexty {y : Int} {zs : List Bool} (h : Told (nearF F (stepF (fitN css) f)) (plN (-F) y (16 + F)) zs) : Told (nearF F (stepF (fitN css) f)) (plN (-F) (y + 1) (-F)) zs :=
  h.jump (by unfold plN; omega) (fun p _ h3 h4 => nearF_out (by unfold plN at h3 h4; omega))
theorem near_done {zs : List Bool} (h : Told (nearF F (stepF (fitN css) f)) (plN (-F) 30 (-F)) zs) : zs = arrF (nearF F (stepF (fitN css) f)) :=
  h.done fun p _ hp => by
    unfold plN at hp
    by_cases hy : 29 < (p : Int) / 400 + 4
    · exact near_y (.inr hy)
    · exact nearF_out (by omega)
end
end Go.Proofs.Ytajjaeaknonmfaa