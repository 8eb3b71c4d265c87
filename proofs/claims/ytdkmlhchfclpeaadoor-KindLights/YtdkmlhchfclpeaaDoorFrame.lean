/-
  What the proofs of this seat's statements share: from the row's list to the table's cells; a world that meets the list.
-/
import Derived.Test.YtdkmlhchfclpeaaDoorCards
import Derived.Test.YtdkmlhchfclpeaaDoorTie
import Derived.Test.YtdkmlhchfclpeaaDoorBase
import Derived.ProofKit
import Derived.LaidMore
import Derived.OpenShut
import Derived.LaidLaws
namespace Go.Proofs.YtdkmlhchfclpeaaDoor
open Go.ChangeShapes Go.WideShapes Go.ChangeAt Go.RowKit

theorem own : ownKnob Tryd.prog.godebug = none := by kernel_rfl
theorem laidOut : laidOutB Tryd.prog = true := by kernel_rfl
theorem bd64 {x : Int} (h : (Lit.int .i64 x).wf = true) : -9223372036854775808 ≤ x ∧ x ≤ 9223372036854775807 := by
  simp [Lit.wf, IntKind.min, IntKind.max, IntKind.bits, IntKind.signed] at h
  omega
theorem gRows : Tryd.prog.globalNamed "outcrop/kind.rows" = some 0 := by kernel_rfl
theorem tRows : (Tryd.prog.globals[0]?).map (·.type) = some 43 := by kernel_rfl
theorem cells34 : Tryd.prog.cellsOf 34 = 5 := by kernel_rfl
theorem cells43 : Tryd.prog.cellsOf 43 = 80 := by kernel_rfl
theorem cells9 : Tryd.prog.cellsOf 9 = 1 := by kernel_rfl
theorem cells4 : Tryd.prog.cellsOf 4 = 1 := by kernel_rfl
theorem cells3 : Tryd.prog.cellsOf 3 = 1 := by kernel_rfl
/-- A row as data. -/
def rowD (k : Nat) : DataW Unit := .agg [.lit (.string (nmL.getD k [])), .lit (.bool (op k)), .lit (.bool (cl k)), .lit (.int .i64 (ls k)), .lit (.int .i64 (em k))]
theorem laid_rows : Rows.laid_outcrop_kind_rows = .agg ((List.range 16).map rowD) := by kernel_rfl
theorem chop {f : Nat → List Value} (hf : ∀ i, (f i).length = 5) : ∀ (n : Nat) (cs : List Value), cs.length = n * 5 → (∀ i, i < n → (cs.drop (i * 5)).take 5 = f i) → cs = (List.range n).flatMap f
  | 0, cs, h, _ => by simpa using h
  | n + 1, cs, h, hi => by
    rw [List.range_succ, List.flatMap_append, ← chop hf n (cs.take (n * 5)) (by rw [List.length_take]; omega) fun i hlt => by
      rw [← hi i (by omega), List.drop_take, List.take_take, Nat.min_eq_left (by omega)]]
    have := hi n (Nat.lt_succ_self n)
    rw [List.take_of_length_le (by rw [List.length_drop]; omega)] at this
    simp only [List.flatMap_cons, List.flatMap_nil, List.append_nil, ← this]
    exact (List.take_append_drop _ _).symm
section
variable {enc : TypeId × Value → Unit} {w : World} {base : Nat} {sp : Nat → Bool} {held : Bool}
theorem row_open {m : Nat} {l : List Value} {s : List UInt8} {a b : Bool} {x y : Int} {q : List MemPlace}
    (h : DataW.trod enc Tryd.prog w base sp held m 34 l = some (.agg [.lit (.string s), .lit (.bool a), .lit (.bool b), .lit (.int .i64 x), .lit (.int .i64 y)], q)) :
    l = [.string ⟨s.toArray⟩, .bool a, .bool b, .int .i64 x, .int .i64 y] := by
  obtain ⟨xs, n, rfl, hx, hl, hn, hf⟩ := DataW.trod_struct Tryd.underlying34 h
  rw [cells34] at hl
  have f0 : DataW.trod enc Tryd.prog w base sp held n 9 ((l.drop 0).take (Tryd.prog.cellsOf 9)) = xs[0]? := hf 0 _ rfl
  rw [cells9] at f0
  have f1 : DataW.trod enc Tryd.prog w base sp held n 4 ((l.drop 1).take (Tryd.prog.cellsOf 4)) = xs[1]? := hf 1 _ rfl
  rw [cells4] at f1
  have f2 : DataW.trod enc Tryd.prog w base sp held n 4 ((l.drop 2).take (Tryd.prog.cellsOf 4)) = xs[2]? := hf 2 _ rfl
  rw [cells4] at f2
  have f3 : DataW.trod enc Tryd.prog w base sp held n 3 ((l.drop 3).take (Tryd.prog.cellsOf 3)) = xs[3]? := hf 3 _ rfl
  rw [cells3] at f3
  have f4 : DataW.trod enc Tryd.prog w base sp held n 3 ((l.drop 4).take (Tryd.prog.cellsOf 3)) = xs[4]? := hf 4 _ rfl
  rw [cells3] at f4
  match xs, hn, l, hl with
  | [x0, x1, x2, x3, x4], _, [c0, c1, c2, c3, c4], _ =>
    simp only [List.map_cons, List.map_nil, Prod.mk.injEq, DataW.agg.injEq, List.cons.injEq, and_true] at hx
    obtain ⟨⟨e0, e1, e2, e3, e4⟩, _⟩ := hx
    obtain ⟨t0, g0, r0, _⟩ := DataW.trod_string Tryd.underlying9 f0
    obtain ⟨t1, g1, r1⟩ := DataW.trod_bool Tryd.underlying4 f1
    obtain ⟨t2, g2, r2⟩ := DataW.trod_bool Tryd.underlying4 f2
    obtain ⟨t3, g3, r3, _⟩ := DataW.trod_int Tryd.underlying3 f3
    obtain ⟨t4, g4, r4, _⟩ := DataW.trod_int Tryd.underlying3 f4
    subst r0 r1 r2 r3 r4
    simp at g0 g1 g2 g3 g4 e0 e1 e2 e3 e4
    subst g0 g1 g2 g3 g4 e0 e1 e2 e3 e4
    rfl
theorem tab_open {m : Nat} {cs : List Value} {q : List MemPlace} (h : DataW.trod enc Tryd.prog w base sp held m 43 cs = some (Rows.laid_outcrop_kind_rows, q)) : cs = tab := by
  obtain ⟨xs, n, rfl, hx, hl, hn, hf⟩ := DataW.trod_array Tryd.underlying43 h
  rw [cells43] at hl
  rw [laid_rows] at hx
  simp only [Prod.mk.injEq, DataW.agg.injEq] at hx
  refine chop (f := rowCells) (fun _ => rfl) 16 cs hl fun i hi => ?_
  have := hf i hi
  rw [cells34] at this
  have hlt : i < xs.length := by omega
  have e : xs[i].1 = rowD i := by
    have := congrArg (·[i]?) hx.1
    simpa [hi, hlt] using this.symm
  rw [List.getElem?_eq_getElem hlt, show xs[i] = (rowD i, xs[i].2) from Prod.ext e rfl] at this
  exact row_open this
end
theorem tab_of_laid {W : World} (h : laidMetH Tryd.prog [("outcrop/kind.rows", Rows.laid_outcrop_kind_rows)] W) : Tab W := by
  have h' : laidMet Tryd.prog [("outcrop/kind.rows", Rows.laid_outcrop_kind_rows)] W := h
  obtain ⟨ps, ⟨g, t, cs, fuel, p, q, hg, ht, hvar, hd, _, _⟩, _⟩ := h'
  obtain rfl := Option.some.inj (gRows.symm.trans hg)
  obtain rfl := Option.some.inj (tRows.symm.trans ht)
  have e := tab_open hd
  simp only [World.var?, gRows, Option.bind_some] at hvar
  split at hvar
  · rename_i c ty fr hb
    simp only [Option.some.injEq] at hvar
    subst hvar
    exact ⟨ty, fr, by rw [hb, ← e]⟩
  · cases hvar
/-- The door's own heap meets the list. -/
theorem door_met (os : Os) (args : Array Value) : laidMetH Tryd.prog [("outcrop/kind.rows", Rows.laid_outcrop_kind_rows)] ((World.doorLaid Tryd.prog 30 os).forCall (fun _ _ => 0) ⟨#[], args, []⟩).memory :=
  laidMetH_of_parts3 (fuel := 8) (laidMet_of_run' 8 (by kernel_rfl) (by kernel_rfl)) (by kernel_rfl) (by kernel_rfl)
end Go.Proofs.YtdkmlhchfclpeaaDoor
