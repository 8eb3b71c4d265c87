/-
  Worlds in which all lies as it lay.
-/
import Derived.Test.YtmfjmcaaoljjlaaDoorLkin
set_option maxRecDepth 20000
namespace Go.Proofs.YtmfjmcaaoljjlaaDoor
open C Go.RowKit

/-- A world in which all that lay in w0 lies as it lay. -/
structure Since (w0 : World) where
  w : World
  bel : Below w0.heap.size w0 w
theorem since_some (w0 : World) : Nonempty (Since w0) := ⟨⟨w0, Below.refl _ _⟩⟩
theorem Since.cell {w0 : World} {p : Addr} {v : Value} (h : w0.cell? p = some v) (s : Since w0) : s.w.cell? p = some v := by
  refine (s.bel.cell ?_).trans h
  simp only [World.cell?] at h
  rcases hb : w0.heap[p.block]? with _ | o
  · simp [hb] at h
  · exact (Array.getElem?_eq_some_iff.1 hb).1
theorem Calls.since {P : Program} {f : FuncId} {args : Array Value} {w0 : World} {s : Since w0} {v : Value} (h : Calls P f args s.w fun e w' => e = .returned v ∧ Below s.w.heap.size s.w w') :
    Calls P f args s.w fun e w'' => e = .returned v ∧ ∃ s' : Since w0, w'' = s'.w :=
  h.mono fun _ w' ⟨he, hb⟩ => ⟨he, ⟨w', s.bel.trans (hb.mono s.bel.size)⟩, rfl⟩
theorem wp_region_since {P : Program} {id : Nat} {Q : Exit → Act → World → Prop} {a : Act} {w : World} {l : List Oper} (hm : P.follows .mixedOrders = true) (hB : Region.lexB .any l.toArray = true)
    (h : wpQuiet P l.toArray (fun w' => ∃ s : Since w, w' = s.w) (fun a' => ∀ w', (∃ s : Since w, w' = s.w) → Q .normal a' w') l a) : (Code.region id l.toArray true).wp P Q a w :=
  wp_region_quiet (C := fun w' => ∃ s : Since w, w' = s.w) hm hB ⟨⟨_, (Below.refl _ w).drew⟩, rfl⟩ (by simpa using h)
theorem wp_region_tail {P : Program} {id : Nat} {Q : Exit → Act → World → Prop} {a : Act} {w : World} {l : List Oper} (n : Nat) (hm : P.follows .mixedOrders = true) (hB : Region.lexTailB .any l.toArray n = true)
    (h : wpStill P l.toArray (w.drewN 1) (fun a' => wpList P l.toArray Q (l.drop n) a' (w.drewN 1)) (l.take n) a) : (Code.region id l.toArray true).wp P Q a w :=
  wp_region_still_tail n hm hB h
theorem below_drewN {B : Nat} {a w : World} (h : Below B a w) (n : Nat) : Below B a (w.drewN n) := ⟨h.os, h.tape, h.output, h.size, h.block⟩
theorem set_two {W : World} {B : Nat} {T : TypeId} {a b u v : Value} (h : W.heap[B]? = some (.cells #[a, b] T (0, 0))) : ((W.setCell ⟨B, 0, none⟩ u).setCell ⟨B, 1, none⟩ v).heap[B]? = some (.cells #[u, v] T (0, 0)) := by
  rw [heap_setCell_same _ B 1 _ T _ (heap_setCell_same W B 0 _ T _ h)]
  rfl
theorem new_two (w : World) (o1 o2 : Obj) : ((w.alloc o1).alloc o2).heap[w.heap.size + 1]? = some o2 := by
  have := heap_alloc_new (w.alloc o1) o2
  rwa [World.size_alloc] at this
theorem below_two (w : World) (o1 o2 : Obj) : Below w.heap.size w ((w.alloc o1).alloc o2) := ((Below.refl _ _).alloc (Nat.le_refl _) _).alloc (by simp) _
theorem heap_alloc_old (w : World) (o : Obj) {k : Nat} (h : k < w.heap.size) : (w.alloc o).heap[k]? = w.heap[k]? := ((Below.refl w.heap.size w).alloc (Nat.le_refl _) o).block k h
/-- A field: its sides, and its kinds. -/
def Fd (w : World) (g : Nat) (W D T : Int) (kv : Value) : Prop := w.heap[g]? = some (.cells #[.int .i64 W, .int .i64 D, .int .i64 T, kv] 34 (0, 0))
theorem Fd.on {w w' : World} {g : Nat} {W D T : Int} {kv : Value} (h : Fd w g W D T kv) (hb : Below w.heap.size w w') : Fd w' g W D T kv := (hb.block g (Array.getElem?_eq_some_iff.1 h).1).trans h
theorem Fd.c0 {w : World} {g : Nat} {W D T : Int} {kv : Value} (h : Fd w g W D T kv) : w.cell? ⟨g, 0, none⟩ = some (.int .i64 W) := (cell_of_row w g 0 _ 34 (0, 0) h).trans rfl
theorem Fd.c1 {w : World} {g : Nat} {W D T : Int} {kv : Value} (h : Fd w g W D T kv) : w.cell? ⟨g, 1, none⟩ = some (.int .i64 D) := (cell_of_row w g 1 _ 34 (0, 0) h).trans rfl
theorem Fd.c2 {w : World} {g : Nat} {W D T : Int} {kv : Value} (h : Fd w g W D T kv) : w.cell? ⟨g, 2, none⟩ = some (.int .i64 T) := (cell_of_row w g 2 _ 34 (0, 0) h).trans rfl
theorem Fd.c3 {w : World} {g : Nat} {W D T : Int} {kv : Value} (h : Fd w g W D T kv) : w.cell? ⟨g, 3, none⟩ = some kv := (cell_of_row w g 3 _ 34 (0, 0) h).trans rfl
end Go.Proofs.YtmfjmcaaoljjlaaDoor
