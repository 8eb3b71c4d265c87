/-
  The document's Spread: one cell's light goes on in six ways.
-/
import Derived.Test.YtjeapaojbkicmabDoorLsp
import Derived.Deep.DeepCutAuto
set_option maxRecDepth 20000
namespace Go.Proofs.YtjeapaojbkicmabDoor
open C Go.RowKit L

/-- The code of a block, by its number. -/
def blkOf (k : Nat) : Code → Option Code
  | .block id c => if id = k then some c else blkOf k c
  | .loop c => blkOf k c
  | .scope c => blkOf k c
  | .seq a b => match blkOf k a with
    | some c => some c
    | none => blkOf k b
  | .cond _ a b => match blkOf k a with
    | some c => some c
    | none => blkOf k b
  | _ => none
theorem Wt.kept {B gw v Ln : Nat} {w w' : World} {av : Nat → Option Addr} {cv : Nat → Nat} {wt : Nat → List Int} (h : Wt B w gw av cv wt) (hv : v < 16) (hL : (wt v).length = Ln) (hg : w.grownBy w' (Value.ownBlock (.slice (av v) Ln (cv v)))) : w'.cell? ⟨gw, v, none⟩ = some (.slice (av v) Ln (cv v)) ∧ w'.frozen? ⟨gw, v, none⟩ = false := by
  subst hL
  obtain ⟨cs, hc, _⟩ := h.blk
  have hc' : w'.heap[gw]? = some (.cells cs 65 (0, 0)) := (hg.block gw h.lt (fun e => h.notw hv e.symm)).trans hc
  refine ⟨?_, frozen_of_row w' gw v cs 65 hc'⟩
  have := h.out v hv
  rw [cell_of_row w gw v cs 65 (0, 0) hc] at this
  rw [cell_of_row w' gw v cs 65 (0, 0) hc']
  exact this
def Sp6 (e : SpE) (s : L.Sys) (level k m X : Nat) (WL : List Nat) (W : World) : Prop := ∃ ls wait av cv, Sp e s level k ls wait av cv W ∧ wait level = WL ∧ (li ls m = level → Ways s (li ls) level m X)
end Go.Proofs.YtjeapaojbkicmabDoor
