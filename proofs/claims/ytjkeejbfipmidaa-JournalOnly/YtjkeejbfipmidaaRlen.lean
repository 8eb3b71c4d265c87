/-
  The document's disk: less, Len.
-/
import Derived.Test.YtjkeejbfipmidaaRpower
namespace Go.Proofs.Ytjkeejbfipmidaa
open Go.RowKit

theorem rless_c (f1 f2 f3 g1 g2 g3 : Int) (w : World) : Calls Try.prog 49 #[.agg #[.int .i64 f1, .int .i64 f2, .int .i64 f3], .agg #[.int .i64 g1, .int .i64 g2, .int .i64 g3]] w fun e w' => e = .returned (.bool (ltF (f1, f2, f3) (g1, g2, g3))) ∧ Below w.heap.size w w' := by
  have HB : Hid (Below w.heap.size w ((w.alloc (.cells #[.int .i64 f1, .int .i64 f2, .int .i64 f3] 38)).alloc (.cells #[.int .i64 g1, .int .i64 g2, .int .i64 g3] 38))) := ((Below.refl _ _).alloc (Nat.le_refl _) _).alloc (by rw [World.size_alloc]; omega) _
  go_enter Try.func49, Try.ntmps49
  go_wp2
  · rename_i h
    go_ret
    refine ⟨?_, HB.out⟩
    have e : f1 ≠ g1 := by simpa using h
    have : ltF (f1, f2, f3) (g1, g2, g3) = decide (f1 < g1) := by unfold ltF; simp [e]
    rw [this]; rfl
  · rename_i h1 _ _ h2
    go_ret
    refine ⟨?_, HB.out⟩
    have e1 : f1 = g1 := by simpa using h1
    have e2 : f2 ≠ g2 := by simpa using h2
    have : ltF (f1, f2, f3) (g1, g2, g3) = decide (f2 < g2) := by unfold ltF; simp [e1, e2]
    rw [this]; rfl
  · rename_i h1 h2
    go_ret
    refine ⟨?_, HB.out⟩
    have e1 : f1 = g1 := by simpa using h1
    have e2 : f2 = g2 := by simpa using h2
    have : ltF (f1, f2, f3) (g1, g2, g3) = decide (f3 < g3) := by unfold ltF; simp [e1, e2]
    rw [this]; rfl

theorem lenOf_last (p : List (Fl × Int)) (q : Fl × Int) (f : Fl) : lenOf (p ++ [q]) f = if q.1 = f then max (q.2 + 1) (lenOf p f) else lenOf p f := by
  induction p with
  | nil => rfl
  | cons a r ih =>
    rw [List.cons_append, lenOf, ih, lenOf]
    split <;> split <;> omega
/-- One more than the greatest of the file's blocks among the first j. -/
def lenTo (l : List Bk) (f : Fl) (j : Nat) : Int := lenOf (at_ (l.take j)) f
theorem lenTo_succ (l : List Bk) (f : Fl) (j : Nat) (hj : j < l.length) : lenTo l f (j + 1) = if l[j].f = f then max (l[j].i + 1) (lenTo l f j) else lenTo l f j := by
  unfold lenTo
  rw [List.take_add_one, List.getElem?_eq_getElem hj]
  unfold at_
  rw [List.map_append]
  exact lenOf_last _ (l[j].f, l[j].i) f

end Go.Proofs.Ytjkeejbfipmidaa
