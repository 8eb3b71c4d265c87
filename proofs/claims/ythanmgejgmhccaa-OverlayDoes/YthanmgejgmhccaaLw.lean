/-
  Overlays in the laws: how they stand behind one another's calls.
-/
import Derived.Test.YthanmgejgmhccaaLaw1
import Derived.Test.YthanmgejgmhccaaWo
set_option maxRecDepth 20000
namespace Go.Proofs.Ythanmgejgmhccaa
open C Go.RowKit Go.Shelf

/-- The document's overlay is told apart by its blocks' types. -/
theorem Ov.ronly {B B' : Nat} {w w' : World} {o e g r a ac b bc : Nat} {E G E' G' : List Int} {d d' : Bool} (h : Ov B w o e g E G d) (hr : Rv B' w r a ac b bc E' G' d') (h2 : Only2 r b w w') : Ov B w' o e g E G d :=
  h.only h2 (fun q => blk_ne hr.hd h.hd (by decide) q.symm) (hr.eb.ne h.hd (by decide)) (fun q => blk_ne hr.hd h.eb (by decide) q.symm) (hr.eb.ne h.eb (by decide)) (fun q => blk_ne hr.hd h.gb (by decide) q.symm) (hr.eb.ne h.gb (by decide))
/-- An overlay over a chunk, in a law. -/
structure Lo (w0 : World) (B D o e g : Nat) (E G : List Int) (d : Bool) (w : World) : Prop where
  ov : Ov B w o e g E G d
  c : Blk w D 67 G
  db : D < B
  wb : w0.heap.size ≤ D
  b : Below w0.heap.size w0 w
section
variable {w0 w w' : World} {B D o e g : Nat} {E G : List Int} {d : Bool}
theorem Lo.on (h : Lo w0 B D o e g E G d w) (hb : Below w.heap.size w w') : Lo w0 B D o e g E G d w' :=
  ⟨h.ov.on hb, h.c.on hb, h.db, h.wb, h.b.trans (hb.mono h.b.size)⟩
theorem Lo.set (h : Lo w0 B D o e g E G d w) {E' : List Int} {d' : Bool} (ho : Ov B w' o e g E' G d') (h2 : Only2 o e w w') : Lo w0 B D o e g E' G d' w' := by
  have h1 := h.db
  have h3 := h.wb
  have h4 := h.ov.bo
  have h5 := h.ov.be
  exact ⟨ho, (h2.block D (by omega) (by omega)).trans h.c, h1, h3, h.b.trans (h2.below (by omega) (by omega))⟩
end
theorem Ops.reads {w : World} {a : Option Addr} {n : Nat} {P : Nat → Nat → Int} (h : Ops w a n P) {i : Nat} (hi : i < n) : ∃ lb lo, a = some ⟨lb, lo, none⟩ ∧ ∀ u, Below w.heap.size w u → u.cell? ⟨lb, lo + i * 3, none⟩ = some (.int .i64 (P i 0)) ∧ u.cell? ⟨lb, lo + i * 3 + 1, none⟩ = some (.int .i64 (P i 1)) ∧ u.cell? ⟨lb, lo + i * 3 + 2, none⟩ = some (.int .i64 (P i 2)) := by
  obtain ⟨lb, lo, e, hlt, hc⟩ := h.at' i hi
  refine ⟨lb, lo, e, fun u hu => ⟨?_, ?_, ?_⟩⟩
  · exact (hu.cell (p := ⟨lb, _, none⟩) hlt).trans (hc 0 (by omega))
  · have := (hu.cell (p := ⟨lb, _, none⟩) hlt).trans (hc 1 (by omega))
    rw [← Nat.add_assoc] at this
    exact this
  · have := (hu.cell (p := ⟨lb, _, none⟩) hlt).trans (hc 2 (by omega))
    rw [← Nat.add_assoc] at this
    exact this
end Go.Proofs.Ythanmgejgmhccaa
