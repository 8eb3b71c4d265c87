/-
  The document's store: what it knows of chunks (plain).
-/
import Derived.Test.YtlllmmceoeihkaaGreatKAll
import Derived.Below
set_option maxRecDepth 20000
namespace Go.Proofs.YtlllmmceoeihkaaGreat.Z
open K
structure Km where
 x : Int
 z : Int
 a : Option Addr
 c : Nat
 b : List Int
 m : Nat
def noneB (b : List Int) : Bool := b.all fun y => decide (y = 16)
theorem noneB_take (b : List Int) {n : Nat} : (∀ j (h : j < b.length), j < n → b[j] = 16) → noneB (b.take n) = true := fun h => by
 unfold noneB
 rw [List.all_eq_true]
 intro y hy
 obtain ⟨j, hj, rfl⟩ := List.getElem_of_mem hy
 rw [List.length_take] at hj
 rw [List.getElem_take]
 exact decide_eq_true (h j (by omega) (by omega))
end Go.Proofs.YtlllmmceoeihkaaGreat.Z
