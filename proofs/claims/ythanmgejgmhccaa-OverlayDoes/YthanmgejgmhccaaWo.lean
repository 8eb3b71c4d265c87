/-
  Sets in a slice that came in.
-/
import Derived.Test.YthanmgejgmhccaaWf
set_option maxRecDepth 20000
namespace Go.Proofs.Ythanmgejgmhccaa
open C Go.ChangeShapes Go.WideShapes Go.ChangeAt Go.RowKit Go.Joins Go.Deep

/-- Sets that came in. -/
structure Ops (w : World) (a : Option Addr) (n : Nat) (P : Nat → Nat → Int) : Prop where
  at' : ∀ i, i < n → ∃ lb lo, a = some ⟨lb, lo, none⟩ ∧ lb < w.heap.size ∧ ∀ f, f < 3 → w.cell? ⟨lb, lo + (i * 3 + f), none⟩ = some (.int .i64 (P i f))
theorem Ops.on {w w' : World} {a : Option Addr} {n : Nat} {P : Nat → Nat → Int} (h : Ops w a n P) (hb : Below w.heap.size w w') : Ops w' a n P := ⟨fun i hi => by
  obtain ⟨lb, lo, e, hlt, hc⟩ := h.at' i hi
  exact ⟨lb, lo, e, Nat.lt_of_lt_of_le hlt hb.size, fun f hf => (hb.cell (p := ⟨lb, _, none⟩) hlt).trans (hc f hf)⟩⟩
section
variable {H : Type} {enc : TypeId × Value → H} {w : World} {base : Nat} {spare : Nat → Bool} {held : Bool}
theorem in_ops {a : Option Addr} {len cap : Nat} {d : DataW H} {p : List MemPlace} (h : DataW.Trod enc Try.prog w base spare held 23 (.slice a len cap) d p) : ∃ P : Nat → Nat → Int, Ops w a len P := by
  obtain ⟨fuel, hf⟩ := h
  rcases open_slice Try.underlying23 hf with ⟨hcs, _⟩ | ⟨x, len', cap', m, n, D, Pl, hcs, _, hl, hcap, hm, _, hx⟩
  · simp [Value.cells] at hcs
    obtain ⟨rfl, rfl, rfl⟩ := hcs
    exact ⟨fun _ _ => 0, ⟨fun i hi => absurd hi (Nat.not_lt_zero _)⟩⟩
  · simp [Value.cells] at hcs
    obtain ⟨rfl, rfl, rfl⟩ := hcs
    have hlm : len ≤ m := by rw [hm]; split <;> omega
    have each : ∀ i, i < len → ∀ f, f < 3 → ∃ z, w.cell? (x.add (i * 3 + f)) = some (.int .i64 z) := by
      intro i hi f hf2
      obtain ⟨cs', h1, h2⟩ := hx i (by omega)
      obtain ⟨z, hz⟩ := three_ints h2 f hf2
      rw [cells_op] at h1
      obtain ⟨_, _, hcell⟩ := World.cells?_some h1
      have e := hcell f hf2
      rw [add_add, hz] at e
      exact ⟨z, e⟩
    by_cases h0 : len = 0
    · subst h0
      exact ⟨fun _ _ => 0, ⟨fun i hi => absurd hi (Nat.not_lt_zero _)⟩⟩
    obtain ⟨b, off, spot⟩ := x
    have hs : spot = none := by
      obtain ⟨z, z0⟩ := each 0 (by omega) 0 (by omega)
      simpa [Addr.add] using World.cell?_spot z0
    subst hs
    refine ⟨fun i f => numAt w b (off + (i * 3 + f)), ⟨fun i hi => ⟨b, off, rfl, ?_, fun f hf2 => ?_⟩⟩⟩
    · obtain ⟨z, hz⟩ := each i hi 0 (by omega)
      rw [Addr.add_mid] at hz
      exact World.block_lt_of_cell? w _ hz
    · obtain ⟨z, hz⟩ := each i hi f hf2
      rw [Addr.add_mid] at hz
      show _ = some (Value.int .i64 (numAt w b (off + (i * 3 + f))))
      have e : numAt w b (off + (i * 3 + f)) = z := by unfold numAt; rw [hz]
      rw [e, hz]
end
end Go.Proofs.Ythanmgejgmhccaa
