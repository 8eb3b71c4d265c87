/-
  A class of worlds in which whatever lay is as it lay; a region which only reads, and whose callees only lay new blocks, is walked once in the order of its text, in that class.
-/
import Derived.Test.YtpfhgkgkbefigaaLa
import Derived.BigQuiet
set_option maxRecDepth 20000
namespace Go.Proofs.Ytpfhgkgkbefigaa
open Go.RowKit

/-- A world in which all that lay in w0 lies as it lay. -/
structure Since (w0 : World) where
  w : World
  bel : Below w0.heap.size w0 w
theorem since_some (w0 : World) : Nonempty (Since w0) := ⟨⟨w0, Below.refl _ _⟩⟩

theorem Since.cell {w0 : World} {p : Addr} {v : Value} (h : w0.cell? p = some v) (s : Since w0) : s.w.cell? p = some v := by
  refine (s.bel.cell ?_).trans h
  simp only [World.cell?] at h
  rcases hb : w0.heap[p.block]? with _ | o
  · simp [hb] at h
  · exact (Array.getElem?_eq_some_iff.1 hb).1

theorem Calls.since {P : Program} {f : FuncId} {args : Array Value} {w0 : World} {s : Since w0} {v : Value} (h : Calls P f args s.w fun e w' => e = .returned v ∧ Below s.w.heap.size s.w w') :
    Calls P f args s.w fun e w'' => e = .returned v ∧ ∃ s' : Since w0, w'' = s'.w :=
  h.mono fun _ w' ⟨he, hb⟩ => ⟨he, ⟨w', s.bel.trans (hb.mono s.bel.size)⟩, rfl⟩
theorem Calls.since_same {P : Program} {f : FuncId} {args : Array Value} {w0 : World} {s : Since w0} {v : Value} (h : Calls P f args s.w fun e w' => e = .returned v ∧ w' = s.w) :
    Calls P f args s.w fun e w'' => e = .returned v ∧ ∃ s' : Since w0, w'' = s'.w :=
  h.mono fun _ _ ⟨he, hb⟩ => ⟨he, s, hb⟩

theorem wp_region_since {P : Program} {id : Nat} {Q : Exit → Act → World → Prop} {a : Act} {w : World} {l : List Oper} (hm : P.follows .mixedOrders = true) (hB : Region.lexB .any l.toArray = true)
    (h : wpQuiet P l.toArray (fun w' => ∃ s : Since w, w' = s.w) (fun a' => ∀ w', (∃ s : Since w, w' = s.w) → Q .normal a' w') l a) : (Code.region id l.toArray true).wp P Q a w :=
  wp_region_quiet (C := fun w' => ∃ s : Since w, w' = s.w) hm hB ⟨⟨_, (Below.refl _ w).drew⟩, rfl⟩ (by simpa using h)

end Go.Proofs.Ytpfhgkgkbefigaa