/-
  Bytes in a slice: out of rows, blocks, what Read answers.
-/
import Derived.Test.YtjkeejbfipmidaaPread
import Derived.Test.YtjkeejbfipmidaaRread
set_option maxRecDepth 20000
namespace Go.Proofs.Ytjkeejbfipmidaa
open Go.RowKit

theorem row_src {w : World} {g : Nat} {zs : List Int} (h : Row w g zs) (hf : ∀ z ∈ zs, 0 ≤ z ∧ z ≤ 255) : Src w (some ⟨g, 0, none⟩) zs.length zs :=
  ⟨rfl, fun k hk => ⟨g, 0, rfl, h.lt, by rw [Nat.zero_add, h.cell k hk, List.getD_eq_getElem?_getD, List.getElem?_eq_getElem hk]; rfl⟩, fun k => by
    rw [List.getD_eq_getElem?_getD]
    cases e : zs[k]? with
    | none => exact ⟨by decide, by decide⟩
    | some z => exact hf z (List.mem_of_getElem? e)⟩
theorem blk_src {w : World} {g t : Nat} {zs : List Int} (h : Blk w g t zs) (hf : ∀ z ∈ zs, 0 ≤ z ∧ z ≤ 255) : Src w (some ⟨g, 0, none⟩) zs.length zs :=
  ⟨rfl, fun k hk => ⟨g, 0, rfl, h.lt, by rw [Nat.zero_add]; exact h.cell hk⟩, fun k => by
    rw [List.getD_eq_getElem?_getD]
    cases e : zs[k]? with
    | none => exact ⟨by decide, by decide⟩
    | some z => exact hf z (List.mem_of_getElem? e)⟩
theorem Bytes.src {w : World} {a : Option Addr} {n : Nat} {xs : List Int} (h : Bytes w a n xs) : Src w a n xs :=
  ⟨h.n, fun k hk => by
    obtain ⟨b, off, z, e, hc, _, _, hl, hz⟩ := h.get k hk
    refine ⟨b, off, e, World.block_lt_of_cell? w _ hc, ?_⟩
    rw [hc, hz, List.getD_eq_getElem?_getD, List.getElem?_eq_getElem hl]
    rfl, fun k => by
    rw [List.getD_eq_getElem?_getD]
    cases e : xs[k]? with
    | none => exact ⟨by decide, by decide⟩
    | some z => exact h.fit z (List.mem_of_getElem? e)⟩

theorem read_src {R : Int × List Int} {w w' : World} {e : Ending} (h : PReadSay R w e w') : ∃ a c, e = .returned (.tuple #[.slice a R.2.length c, .int .i64 R.1]) ∧ Src w' a R.2.length R.2 ∧ Below w.heap.size w w' := by
  obtain ⟨hb, ⟨h0, he⟩ | ⟨p, hp, he, hB, hl, hf⟩⟩ := h
  · refine ⟨none, 0, by rw [he, h0]; rfl, ?_, hb⟩
    rw [h0]
    exact ⟨rfl, fun k hk => absurd hk (Nat.not_lt_zero _), fun k => by simp⟩
  · exact ⟨some ⟨p, 0, none⟩, 32, by rw [he, hl], blk_src hB hf, hb⟩
theorem Src.later {w w' : World} {a : Option Addr} {n : Nat} {bs : List Int} (h : Src w a n bs) (hb : Below w.heap.size w w') : Src w' a n bs := h.on hb (Nat.le_refl _)
/-- What the document's Read answers. -/
theorem rread_src {R : Int × List Int} {w w' : World} {e : Ending} (h : ReadSay R w e w') : ∃ a c, e = .returned (.tuple #[.slice a R.2.length c, .int .i64 R.1]) ∧ Src w' a R.2.length R.2 ∧ Below w.heap.size w w' := by
  obtain ⟨hb, a, c, he, hB⟩ := h
  exact ⟨a, c, he, hB.src, hb⟩
end Go.Proofs.Ytjkeejbfipmidaa
