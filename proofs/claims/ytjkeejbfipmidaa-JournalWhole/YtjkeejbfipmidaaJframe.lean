/-
  What comes in: blocks, groups, whole numbers in slices.
-/
import Derived.Test.YtjkeejbfipmidaaPuts
import Derived.Test.YtjkeejbfipmidaaJspec
import Derived.SizedLaws
set_option maxRecDepth 20000
namespace Go.Proofs.Ytjkeejbfipmidaa
open Go.ChangeShapes Go.WideShapes Go.ChangeAt Go.RowKit Go.Joins Go.Deep

section
variable {H : Type} {enc : TypeId × Value → H} {w : World} {base : Nat} {spare : Nat → Bool} {held : Bool}
theorem in_puts {a : Option Addr} {len cap : Nat} {d : DataW H} {p : List MemPlace} (h : DataW.Trod enc Try.prog w base spare held 33 (.slice a len cap) d p) (hz : ∀ m ∈ d.weights Try.prog 33, m ≤ reachBytes) : len ≤ maxLen ∧ ∃ l : List Pt, l.length = len ∧ Puts w a l := by
  obtain ⟨fuel, hf⟩ := h
  obtain ⟨a', len', cap', e, h1, l, h2, h3⟩ := open_puts (v := .slice a len cap) (y := (d, p)) hf hz
  cases e
  exact ⟨h1, l, h2, h3⟩
theorem in_gps {a : Option Addr} {len cap : Nat} {d : DataW H} {p : List MemPlace} (h : DataW.Trod enc Try.prog w base spare held 22 (.slice a len cap) d p) (hz : ∀ m ∈ d.weights Try.prog 22, m ≤ reachBytes) : len ≤ maxLen ∧ ∃ l : List Gp, l.length = len ∧ Gps w a l := by
  obtain ⟨fuel, hf⟩ := h
  obtain ⟨a', len', cap', e, h1, l, h2, h3⟩ := open_gps (v := .slice a len cap) (y := (d, p)) hf hz
  cases e
  exact ⟨h1, l, h2, h3⟩
theorem in_ints {a : Option Addr} {len cap : Nat} {d : DataW H} {p : List MemPlace} (h : DataW.Trod enc Try.prog w base spare held 44 (.slice a len cap) d p) : len ≤ maxLen ∧ Ints (fun _ => False) w a len := by
  obtain ⟨fuel, hf⟩ := h
  rcases open_slice1 Try.underlying44 (by kernel_rfl) hf with ⟨hcs, _⟩ | ⟨x, len', cap', m, n, V, D, Pl, hcs, _, hl, hcap, hm, hy, hx⟩
  · simp [Value.cells] at hcs
    obtain ⟨rfl, rfl, rfl⟩ := hcs
    exact ⟨Nat.zero_le _, fun k hk => absurd hk (Nat.not_lt_zero _)⟩
  · simp [Value.cells] at hcs
    obtain ⟨rfl, rfl, rfl⟩ := hcs
    have hlm : len ≤ m := by rw [hm]; split <;> omega
    refine ⟨by omega, fun k hk => ?_⟩
    obtain ⟨h1, h2⟩ := hx k (by omega)
    obtain ⟨q, e, hq⟩ := one_int h2
    rw [e] at h1
    obtain ⟨b, off, spot⟩ := x
    have hs : spot = none := by
      obtain ⟨z0, _⟩ := hx 0 (by omega)
      simpa [Addr.add] using World.cell?_spot z0
    subst hs
    rw [Addr.add_mid] at h1
    exact ⟨b, off, q, rfl, hq, fun h => h, h1⟩
end
end Go.Proofs.Ytjkeejbfipmidaa
