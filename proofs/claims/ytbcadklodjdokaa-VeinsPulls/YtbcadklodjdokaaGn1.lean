/-
  What all walks of this seat share: a class of worlds in which whatever lay is as it lay, and the law that a region which only reads, and whose callees only lay new blocks, may be walked once in the order of its text, in that class.
-/
import Derived.Test.YtbcadklodjdokaaProg
import Derived.WalkKit
import Derived.WalkLawsBesides
import Derived.WalkSpells
import Derived.Below
import Derived.BigQuiet
import Derived.StillTailTactics
set_option maxRecDepth 20000
namespace Go.Proofs.Ytbcadklodjdokaa.G
open Go.RowKit

theorem ret_int {k : IntKind} {a b : Int} (h : a = b) : Ending.returned (.int k a) = .returned (.int k b) := by rw [h]
theorem ret_bool {a b : Bool} (h : a = b) : Ending.returned (.bool a) = .returned (.bool b) := by rw [h]

/-- A world in which all that lay in w0 lies as it lay. -/
structure Since (w0 : World) where
  w : World
  bel : Below w0.heap.size w0 w
theorem since_made (w0 : World) : Nonempty (Since w0) := ⟨⟨w0, Below.refl _ _⟩⟩

theorem Since.cell {w0 : World} {p : Addr} {v : Value} (h : w0.cell? p = some v) (s : Since w0) : s.w.cell? p = some v := by
  refine (s.bel.cell ?_).trans h
  simp only [World.cell?] at h
  rcases hb : w0.heap[p.block]? with _ | o
  · simp [hb] at h
  · exact (Array.getElem?_eq_some_iff.1 hb).1

theorem Calls.since {P : Program} {f : FuncId} {args : Array Value} {w0 : World} {s : Since w0} {v : Value} (h : Calls P f args s.w fun e w' => e = .returned v ∧ Below s.w.heap.size s.w w') :
    Calls P f args s.w fun e w'' => e = .returned v ∧ ∃ s' : Since w0, w'' = s'.w :=
  h.mono fun _ w' ⟨he, hb⟩ => ⟨he, ⟨w', s.bel.trans (hb.mono s.bel.size)⟩, rfl⟩
theorem Calls.since_same {P : Program} {f : FuncId} {args : Array Value} {w0 : World} {s : Since w0} {v : Value} (h : Calls P f args s.w fun e w' => e = .returned v ∧ w' = s.w) :
    Calls P f args s.w fun e w'' => e = .returned v ∧ ∃ s' : Since w0, w'' = s'.w :=
  h.mono fun _ _ ⟨he, hb⟩ => ⟨he, s, hb⟩

theorem wp_region_since {P : Program} {id : Nat} {Q : Exit → Act → World → Prop} {a : Act} {w : World} {l : List Oper} (hm : P.follows .mixedOrders = true) (hB : Region.lexB .any l.toArray = true)
    (h : wpQuiet P l.toArray (fun w' => ∃ s : Since w, w' = s.w) (fun a' => ∀ w', (∃ s : Since w, w' = s.w) → Q .normal a' w') l a) : (Code.region id l.toArray true).wp P Q a w :=
  wp_region_quiet (C := fun w' => ∃ s : Since w, w' = s.w) hm hB ⟨⟨_, (Below.refl _ w).drew⟩, rfl⟩ (by simpa using h)

/-- A region that reads, calls what only reads, and writes at its end. -/
theorem wp_region_tail {P : Program} {id : Nat} {Q : Exit → Act → World → Prop} {a : Act} {w : World} {l : List Oper} (n : Nat) (hm : P.follows .mixedOrders = true) (hB : Region.lexTailB .any l.toArray n = true)
    (h : wpStill P l.toArray (w.drewN 1) (fun a' => wpList P l.toArray Q (l.drop n) a' (w.drewN 1)) (l.take n) a) : (Code.region id l.toArray true).wp P Q a w :=
  wp_region_still_tail n hm hB h
theorem below_drewN {B : Nat} {a w : World} (h : Below B a w) (n : Nat) : Below B a (w.drewN n) := ⟨h.os, h.tape, h.output, h.size, h.block⟩

theorem set_two {W : World} {B : Nat} {T : TypeId} {a b u v : Value} (h : W.heap[B]? = some (.cells #[a, b] T (0, 0))) : ((W.setCell ⟨B, 0, none⟩ u).setCell ⟨B, 1, none⟩ v).heap[B]? = some (.cells #[u, v] T (0, 0)) := by
  rw [heap_setCell_same _ B 1 _ T _ (heap_setCell_same W B 0 _ T _ h)]
  rfl
theorem set_three {W : World} {B : Nat} {T : TypeId} {a b c u v x : Value} (h : W.heap[B]? = some (.cells #[a, b, c] T (0, 0))) : (((W.setCell ⟨B, 0, none⟩ u).setCell ⟨B, 1, none⟩ v).setCell ⟨B, 2, none⟩ x).heap[B]? = some (.cells #[u, v, x] T (0, 0)) := by
  rw [heap_setCell_same _ B 2 _ T _ (heap_setCell_same _ B 1 _ T _ (heap_setCell_same W B 0 _ T _ h))]
  rfl
theorem new_two (w : World) (o1 o2 : Obj) : ((w.alloc o1).alloc o2).heap[w.heap.size + 1]? = some o2 := by
  have := heap_alloc_new (w.alloc o1) o2
  rwa [World.size_alloc] at this
theorem below_two (w : World) (o1 o2 : Obj) : Below w.heap.size w ((w.alloc o1).alloc o2) := ((Below.refl _ _).alloc (Nat.le_refl _) _).alloc (by simp) _
theorem below_set2 {B b : Nat} {a W : World} {u v : Value} (h : Below B a W) (hb : B ≤ b) : Below B a ((W.setCell ⟨b, 0, none⟩ u).setCell ⟨b, 1, none⟩ v) :=
  (h.setCell (p := ⟨b, 0, none⟩) hb _).setCell (p := ⟨b, 1, none⟩) hb _
theorem below_set3 {B b : Nat} {a W : World} {u v x : Value} (h : Below B a W) (hb : B ≤ b) : Below B a (((W.setCell ⟨b, 0, none⟩ u).setCell ⟨b, 1, none⟩ v).setCell ⟨b, 2, none⟩ x) :=
  (below_set2 h hb).setCell (p := ⟨b, 2, none⟩) hb _
end Go.Proofs.Ytbcadklodjdokaa.G