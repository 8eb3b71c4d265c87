/-
  The laws' chunks and last: two rows held against one another; where a chunk stands last.
-/
import Derived.Test.YtpfhgkgkbefigaaAr
set_option maxRecDepth 20000
namespace Go.Proofs.Ytpfhgkgkbefigaa
open Go.RowKit Go.Maps

/-- Chunks that can be read, however they lie. -/
def Ats (w : World) (a : Option Addr) (l : List (Int × Int)) : Prop := ∀ k (h : k < l.length), ∃ b off, a = some ⟨b, off, none⟩ ∧ w.cell? ⟨b, off + k * 2, none⟩ = some (.int .i64 l[k].1) ∧ w.cell? ⟨b, off + k * 2 + 1, none⟩ = some (.int .i64 l[k].2)
theorem ARow.ats {B : Nat} {w : World} {a : Option Addr} {c : Nat} {l : List (Int × Int)} (h : ARow B w a c l) : Ats w a l := fun k hk => by
  rcases h.form with ⟨_, rfl⟩ | ⟨g, rfl⟩
  · simp at hk
  · have := h.cell hk
    exact ⟨g, 0, rfl, by rw [Nat.zero_add]; exact this.1, by rw [Nat.zero_add]; exact this.2⟩
theorem Ats.on {w w' : World} {a : Option Addr} {l : List (Int × Int)} (h : Ats w a l) (hb : Below w.heap.size w w') : Ats w' a l := fun k hk => by
  obtain ⟨b, off, e, h1, h2⟩ := h k hk
  exact ⟨b, off, e, (hb.cell (p := ⟨b, off + k * 2, none⟩) (World.block_lt_of_cell? w _ h1)).trans h1, (hb.cell (p := ⟨b, off + k * 2 + 1, none⟩) (World.block_lt_of_cell? w _ h2)).trans h2⟩
end Go.Proofs.Ytpfhgkgkbefigaa
