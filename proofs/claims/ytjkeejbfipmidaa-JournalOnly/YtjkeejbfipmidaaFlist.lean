/-
  Lists of files: the same?
-/
import Derived.Test.YtjkeejbfipmidaaRread
namespace Go.Proofs.Ytjkeejbfipmidaa
open Go.RowKit

/-- A slice of files. -/
structure Fls (w : World) (a : Option Addr) (n : Nat) (fs : List Fl) : Prop where
  n : fs.length = n
  cells : ∀ k (h : k < fs.length), ∃ b off, a = some ⟨b, off, none⟩ ∧ w.cell? ⟨b, off + k * 3, none⟩ = some (.int .i64 fs[k].1) ∧ w.cell? ⟨b, off + k * 3 + 1, none⟩ = some (.int .i64 fs[k].2.1) ∧ w.cell? ⟨b, off + k * 3 + 2, none⟩ = some (.int .i64 fs[k].2.2)
theorem Fls.later {w w' : World} {a : Option Addr} {n : Nat} {fs : List Fl} (h : Fls w a n fs) (hb : Below w.heap.size w w') : Fls w' a n fs :=
  ⟨h.n, fun k hk => by
    obtain ⟨b, off, e, c0, c1, c2⟩ := h.cells k hk
    have keep : ∀ m v, w.cell? ⟨b, m, none⟩ = some v → w'.cell? ⟨b, m, none⟩ = some v := fun m v hv => by
      rw [← hv]; exact hb.cell (p := ⟨b, m, none⟩) (World.block_lt_of_cell? w _ hv)
    exact ⟨b, off, e, keep _ _ c0, keep _ _ c1, keep _ _ c2⟩⟩
theorem Fls.drew {w : World} {a : Option Addr} {n : Nat} {fs : List Fl} (h : Fls w a n fs) (k : Nat) : Fls (w.drewN k) a n fs := ⟨h.n, h.cells⟩
theorem drewN_drewN (w : World) (t k : Nat) : (w.drewN t).drewN k = w.drewN (t + k) := by simp [World.drewN, Nat.add_assoc]
/-- The first k are the same. -/
def SameTo (xs ys : List Fl) (k : Nat) : Prop := ∀ m, m < k → xs[m]? = ys[m]?
theorem same_all {xs ys : List Fl} {k : Nat} (h : SameTo xs ys k) (h1 : xs.length = k) (h2 : ys.length = k) : xs = ys := by
  apply List.ext_getElem?
  intro m
  rcases Nat.lt_or_ge m k with hm | hm
  · exact h m hm
  · rw [List.getElem?_eq_none (by omega), List.getElem?_eq_none (by omega)]
theorem same_not {xs ys : List Fl} {k : Nat} (hx : k < xs.length) (hy : k < ys.length) (h : xs[k] ≠ ys[k]) : xs ≠ ys := fun e => by subst e; exact h rfl
theorem same_next {xs ys : List Fl} {k : Nat} (h : SameTo xs ys k) (hx : k < xs.length) (hy : k < ys.length) (e : xs[k] = ys[k]) : SameTo xs ys (k + 1) := fun m hm => by
  rcases Nat.lt_or_ge m k with h1 | h1
  · exact h m h1
  · obtain rfl : m = k := by omega
    rw [List.getElem?_eq_getElem hx, List.getElem?_eq_getElem hy, e]

end Go.Proofs.Ytjkeejbfipmidaa
