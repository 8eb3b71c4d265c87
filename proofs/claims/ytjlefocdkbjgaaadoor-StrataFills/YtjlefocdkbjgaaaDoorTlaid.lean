/-
  From the row's list to the table's cells.
-/
import Derived.Test.YtjlefocdkbjgaaaDoorTframe
import Derived.Test.YtjlefocdkbjgaaaDoorTfill
set_option maxRecDepth 20000
namespace Go.Proofs.YtjlefocdkbjgaaaDoor
open C Go.ChangeShapes Go.WideShapes Go.ChangeAt Go.RowKit

theorem gSoils : Tryd.prog.globalNamed "outcrop/strata.soils" = some 0 := by kernel_rfl
theorem tSoils : (Tryd.prog.globals[0]?).map (·.type) = some 48 := by kernel_rfl
theorem cells47 : Tryd.prog.cellsOf 47 = 4 := by kernel_rfl
theorem cells48 : Tryd.prog.cellsOf 48 = 16 := by kernel_rfl
/-- A band's soil as data. -/
def soilD (k : Nat) : DataW Unit := .agg [.lit (.int .i64 (fr k)), .lit (.int .i64 (hi k)), .lit (.int .i64 (lo k)), .lit (.int .i64 (be k))]
theorem laid_soils : Rows.laid_outcrop_strata_soils = .agg ((List.range 4).map soilD) := by kernel_rfl
theorem chop {f : Nat → List Value} (hf : ∀ i, (f i).length = 4) : ∀ (n : Nat) (cs : List Value), cs.length = n * 4 → (∀ i, i < n → (cs.drop (i * 4)).take 4 = f i) → cs = (List.range n).flatMap f
  | 0, cs, h, _ => by simpa using h
  | n + 1, cs, h, hi => by
    rw [List.range_succ, List.flatMap_append, ← chop hf n (cs.take (n * 4)) (by rw [List.length_take]; omega) fun i hlt => by
      rw [← hi i (by omega), List.drop_take, List.take_take, Nat.min_eq_left (by omega)]]
    have := hi n (Nat.lt_succ_self n)
    rw [List.take_of_length_le (by rw [List.length_drop]; omega)] at this
    simp only [List.flatMap_cons, List.flatMap_nil, List.append_nil, ← this]
    exact (List.take_append_drop _ _).symm
section
variable {enc : TypeId × Value → Unit} {w : World} {base : Nat} {sp : Nat → Bool} {held : Bool}
theorem soil_open {m : Nat} {l : List Value} {x0 x1 x2 x3 : Int} {q : List MemPlace}
    (h : DataW.trod enc Tryd.prog w base sp held m 47 l = some (.agg [.lit (.int .i64 x0), .lit (.int .i64 x1), .lit (.int .i64 x2), .lit (.int .i64 x3)], q)) :
    l = [.int .i64 x0, .int .i64 x1, .int .i64 x2, .int .i64 x3] := by
  obtain ⟨xs, n, rfl, hx, hl, hn, hf⟩ := DataW.trod_struct Tryd.underlying47 h
  rw [cells47] at hl
  have f0 : DataW.trod enc Tryd.prog w base sp held n 3 ((l.drop 0).take (Tryd.prog.cellsOf 3)) = xs[0]? := hf 0 _ rfl
  rw [cells3] at f0
  have f1 : DataW.trod enc Tryd.prog w base sp held n 3 ((l.drop 1).take (Tryd.prog.cellsOf 3)) = xs[1]? := hf 1 _ rfl
  rw [cells3] at f1
  have f2 : DataW.trod enc Tryd.prog w base sp held n 3 ((l.drop 2).take (Tryd.prog.cellsOf 3)) = xs[2]? := hf 2 _ rfl
  rw [cells3] at f2
  have f3 : DataW.trod enc Tryd.prog w base sp held n 3 ((l.drop 3).take (Tryd.prog.cellsOf 3)) = xs[3]? := hf 3 _ rfl
  rw [cells3] at f3
  match xs, hn, l, hl with
  | [y0, y1, y2, y3], _, [c0, c1, c2, c3], _ =>
    simp only [List.map_cons, List.map_nil, Prod.mk.injEq, DataW.agg.injEq, List.cons.injEq, and_true] at hx
    obtain ⟨⟨e0, e1, e2, e3⟩, _⟩ := hx
    obtain ⟨t0, g0, r0, _⟩ := DataW.trod_int Tryd.underlying3 f0
    obtain ⟨t1, g1, r1, _⟩ := DataW.trod_int Tryd.underlying3 f1
    obtain ⟨t2, g2, r2, _⟩ := DataW.trod_int Tryd.underlying3 f2
    obtain ⟨t3, g3, r3, _⟩ := DataW.trod_int Tryd.underlying3 f3
    subst r0 r1 r2 r3
    simp at g0 g1 g2 g3 e0 e1 e2 e3
    subst g0 g1 g2 g3 e0 e1 e2 e3
    rfl
theorem tab_open {m : Nat} {cs : List Value} {q : List MemPlace} (h : DataW.trod enc Tryd.prog w base sp held m 48 cs = some (Rows.laid_outcrop_strata_soils, q)) : cs = soilTab := by
  obtain ⟨xs, n, rfl, hx, hl, hn, hf⟩ := DataW.trod_array Tryd.underlying48 h
  rw [cells48] at hl
  rw [laid_soils] at hx
  simp only [Prod.mk.injEq, DataW.agg.injEq] at hx
  refine chop (f := soilCells) (fun _ => rfl) 4 cs hl fun i hi => ?_
  have := hf i hi
  rw [cells47] at this
  have hlt : i < xs.length := by omega
  have e : xs[i].1 = soilD i := by
    have := congrArg (·[i]?) hx.1
    simpa [hi, hlt] using this.symm
  rw [List.getElem?_eq_getElem hlt, show xs[i] = (soilD i, xs[i].2) from Prod.ext e rfl] at this
  exact soil_open this
end
theorem tspec_laid {W : World} (h : laidMetH Tryd.prog [("outcrop/strata.soils", Rows.laid_outcrop_strata_soils)] W) : tspec.G W := by
  have h' : laidMet Tryd.prog [("outcrop/strata.soils", Rows.laid_outcrop_strata_soils)] W := h
  obtain ⟨ps, ⟨g, t, cs, fuel, p, q, hg, ht, hvar, hd, _, _⟩, _⟩ := h'
  obtain rfl := Option.some.inj (gSoils.symm.trans hg)
  obtain rfl := Option.some.inj (tSoils.symm.trans ht)
  have e := tab_open hd
  simp only [World.var?, gSoils, Option.bind_some] at hvar
  split at hvar
  · rename_i c ty f hb
    simp only [Option.some.injEq] at hvar
    subst hvar
    exact ⟨ty, f, by rw [hb, ← e]⟩
  · cases hvar
end Go.Proofs.YtjlefocdkbjgaaaDoor
