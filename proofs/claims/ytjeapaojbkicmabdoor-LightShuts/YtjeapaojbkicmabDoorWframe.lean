/-
  What comes in: numbers, the boxes of the ground; the tables that the program lays.
-/
import Derived.Test.YtjeapaojbkicmabDoorRows
import Derived.Test.YtjeapaojbkicmabDoorCards
import Derived.Test.YtjeapaojbkicmabDoorTie
import Derived.LaidMore
import Derived.LaidLaws
import Derived.Test.YtjeapaojbkicmabDoorKd
import Derived.SizedLaws
import Derived.ProofKit
import Derived.OpenShut
import Derived.ChangeOld
import Derived.Lib.SmallJoins
import Derived.Deep.Slices
import Derived.Deep.Strs
set_option maxRecDepth 20000
namespace Go.Proofs.YtjeapaojbkicmabDoor
open Go.ChangeShapes Go.WideShapes Go.ChangeAt Go.RowKit Go.Joins Go.Deep

theorem own : ownKnob Tryd.prog.godebug = none := by kernel_rfl
theorem laidOut : laidOutB Tryd.prog = true := by kernel_rfl
theorem cells_part : Tryd.prog.cellsOf 36 = 7 := by kernel_rfl
theorem cells_row : Tryd.prog.cellsOf 74 = 5 := by kernel_rfl
theorem cells_rows : Tryd.prog.cellsOf 85 = 80 := by kernel_rfl
theorem cells_steps : Tryd.prog.cellsOf 84 = 6 := by kernel_rfl
theorem cells9 : Tryd.prog.cellsOf 9 = 1 := by kernel_rfl
theorem cells4 : Tryd.prog.cellsOf 4 = 1 := by kernel_rfl
theorem cells3 : Tryd.prog.cellsOf 3 = 1 := by kernel_rfl
/-- The number in a cell. -/
def numAt (w : World) (b o : Nat) : Int := match w.cell? ⟨b, o, none⟩ with
  | some (.int _ x) => x
  | _ => 0
section
variable {H : Type} {enc : TypeId × Value → H} {w : World} {base : Nat} {spare : Nat → Bool} {held : Bool}
theorem one_int {n : Nat} {v : Value} {y : DataW H × List MemPlace} (h : DataW.trod enc Tryd.prog w base spare held n 3 [v] = some y) : ∃ x, v = .int .i64 x ∧ (Lit.int .i64 x).wf = true := by
  obtain ⟨a, e, _, hw⟩ := DataW.trod_int Tryd.underlying3 h
  simp at e
  exact ⟨a, e, hw⟩
theorem seven_ints {n : Nat} {cs : List Value} {y : DataW H × List MemPlace} (h : DataW.trod enc Tryd.prog w base spare held n 36 cs = some y) : ∀ f, f < 7 → ∃ x, cs[f]? = some (.int .i64 x) := by
  obtain ⟨xs, m, _, _, hl, hn, hf⟩ := DataW.trod_struct Tryd.underlying36 h
  rw [cells_part] at hl
  match xs, hn, cs, hl with
  | [x0, x1, x2, x3, x4, x5, x6], _, [c0, c1, c2, c3, c4, c5, c6], _ =>
    have f0 : DataW.trod enc Tryd.prog w base spare held m 3 (([c0, c1, c2, c3, c4, c5, c6].drop 0).take (Tryd.prog.cellsOf 3)) = some x0 := hf 0 _ rfl
    rw [cells3] at f0
    change DataW.trod enc Tryd.prog w base spare held m 3 [c0] = some x0 at f0
    obtain ⟨z0, r0, _⟩ := one_int f0
    have f1 : DataW.trod enc Tryd.prog w base spare held m 3 (([c0, c1, c2, c3, c4, c5, c6].drop 1).take (Tryd.prog.cellsOf 3)) = some x1 := hf 1 _ rfl
    rw [cells3] at f1
    change DataW.trod enc Tryd.prog w base spare held m 3 [c1] = some x1 at f1
    obtain ⟨z1, r1, _⟩ := one_int f1
    have f2 : DataW.trod enc Tryd.prog w base spare held m 3 (([c0, c1, c2, c3, c4, c5, c6].drop 2).take (Tryd.prog.cellsOf 3)) = some x2 := hf 2 _ rfl
    rw [cells3] at f2
    change DataW.trod enc Tryd.prog w base spare held m 3 [c2] = some x2 at f2
    obtain ⟨z2, r2, _⟩ := one_int f2
    have f3 : DataW.trod enc Tryd.prog w base spare held m 3 (([c0, c1, c2, c3, c4, c5, c6].drop 3).take (Tryd.prog.cellsOf 3)) = some x3 := hf 3 _ rfl
    rw [cells3] at f3
    change DataW.trod enc Tryd.prog w base spare held m 3 [c3] = some x3 at f3
    obtain ⟨z3, r3, _⟩ := one_int f3
    have f4 : DataW.trod enc Tryd.prog w base spare held m 3 (([c0, c1, c2, c3, c4, c5, c6].drop 4).take (Tryd.prog.cellsOf 3)) = some x4 := hf 4 _ rfl
    rw [cells3] at f4
    change DataW.trod enc Tryd.prog w base spare held m 3 [c4] = some x4 at f4
    obtain ⟨z4, r4, _⟩ := one_int f4
    have f5 : DataW.trod enc Tryd.prog w base spare held m 3 (([c0, c1, c2, c3, c4, c5, c6].drop 5).take (Tryd.prog.cellsOf 3)) = some x5 := hf 5 _ rfl
    rw [cells3] at f5
    change DataW.trod enc Tryd.prog w base spare held m 3 [c5] = some x5 at f5
    obtain ⟨z5, r5, _⟩ := one_int f5
    have f6 : DataW.trod enc Tryd.prog w base spare held m 3 (([c0, c1, c2, c3, c4, c5, c6].drop 6).take (Tryd.prog.cellsOf 3)) = some x6 := hf 6 _ rfl
    rw [cells3] at f6
    change DataW.trod enc Tryd.prog w base spare held m 3 [c6] = some x6 at f6
    obtain ⟨z6, r6, _⟩ := one_int f6
    intro f hf7
    match f, hf7 with
    | 0, _ => exact ⟨z0, congrArg some r0⟩
    | 1, _ => exact ⟨z1, congrArg some r1⟩
    | 2, _ => exact ⟨z2, congrArg some r2⟩
    | 3, _ => exact ⟨z3, congrArg some r3⟩
    | 4, _ => exact ⟨z4, congrArg some r4⟩
    | 5, _ => exact ⟨z5, congrArg some r5⟩
    | 6, _ => exact ⟨z6, congrArg some r6⟩
/-- The boxes that came in. -/
theorem in_parts {a : Option Addr} {len cap : Nat} {d : DataW H} {p : List MemPlace} (h : DataW.Trod enc Tryd.prog w base spare held 22 (.slice a len cap) d p) : ∃ (lb lo : Nat) (P : Nat → Nat → Int), len ≤ 9223372036854775807 ∧ (0 < len → a = some ⟨lb, lo, none⟩) ∧ ∀ i, i < len → ∀ f, f < 7 → w.cell? ⟨lb, lo + i * 7 + f, none⟩ = some (.int .i64 (P i f)) := by
  obtain ⟨fuel, hf⟩ := h
  rcases open_slice Tryd.underlying22 hf with ⟨hcs, _⟩ | ⟨x, len', cap', m, n, D, Pl, hcs, _, hl, hcap, hm, _, hx⟩
  · simp [Value.cells] at hcs
    obtain ⟨rfl, rfl, rfl⟩ := hcs
    exact ⟨0, 0, fun _ _ => 0, Nat.zero_le _, fun h => absurd h (Nat.lt_irrefl _), fun i hi => absurd hi (Nat.not_lt_zero _)⟩
  · simp [Value.cells] at hcs
    obtain ⟨rfl, rfl, rfl⟩ := hcs
    have hlm : len ≤ m := by rw [hm]; split <;> omega
    have each : ∀ i, i < len → ∀ f, f < 7 → ∃ z, w.cell? (x.add (i * 7 + f)) = some (.int .i64 z) := by
      intro i hi f hf7
      obtain ⟨cs', h1, h2⟩ := hx i (by omega)
      obtain ⟨z, hz⟩ := seven_ints h2 f hf7
      rw [cells_part] at h1
      obtain ⟨_, _, hcell⟩ := World.cells?_some h1
      have e := hcell f hf7
      rw [add_add, hz] at e
      exact ⟨z, e⟩
    have hmax : len ≤ 9223372036854775807 := by unfold maxLen at hcap; omega
    by_cases h0 : len = 0
    · subst h0
      exact ⟨0, 0, fun _ _ => 0, Nat.zero_le _, fun h => absurd h (Nat.lt_irrefl _), fun i hi => absurd hi (Nat.not_lt_zero _)⟩
    obtain ⟨b, off, spot⟩ := x
    have hs : spot = none := by
      obtain ⟨z, z0⟩ := each 0 (by omega) 0 (by omega)
      simpa [Addr.add] using World.cell?_spot z0
    subst hs
    refine ⟨b, off, fun i f => numAt w b (off + i * 7 + f), hmax, fun _ => rfl, fun i hi f hf7 => ?_⟩
    obtain ⟨z, hz⟩ := each i hi f hf7
    rw [Addr.add_mid, ← Nat.add_assoc] at hz
    show _ = some (Value.int .i64 (numAt w b (off + i * 7 + f)))
    have e : numAt w b (off + i * 7 + f) = z := by unfold numAt; rw [hz]
    rw [e, hz]
end
theorem gRows : Tryd.prog.globalNamed "outcrop/kind.rows" = some 1 := by kernel_rfl
theorem tRows : (Tryd.prog.globals[1]?).map (·.type) = some 85 := by kernel_rfl
theorem gSteps : Tryd.prog.globalNamed "outcrop/light.steps" = some 0 := by kernel_rfl
theorem tSteps : (Tryd.prog.globals[0]?).map (·.type) = some 84 := by kernel_rfl
/-- A row as data. -/
def rowD (k : Nat) : DataW Unit := .agg [.lit (.string (nmL.getD k [])), .lit (.bool (opK k)), .lit (.bool (clK k)), .lit (.int .i64 (lsK k)), .lit (.int .i64 (emK k))]
theorem laid_rows : Rows.laid_outcrop_kind_rows = .agg ((List.range 16).map rowD) := by kernel_rfl
theorem chop {f : Nat → List Value} (hf : ∀ i, (f i).length = 5) : ∀ (n : Nat) (cs : List Value), cs.length = n * 5 → (∀ i, i < n → (cs.drop (i * 5)).take 5 = f i) → cs = (List.range n).flatMap f
  | 0, cs, h, _ => by simpa using h
  | n + 1, cs, h, hi => by
    rw [List.range_succ, List.flatMap_append, ← chop hf n (cs.take (n * 5)) (by rw [List.length_take]; omega) fun i hlt => by
      rw [← hi i (by omega), List.drop_take, List.take_take, Nat.min_eq_left (by omega)]]
    have := hi n (Nat.lt_succ_self n)
    rw [List.take_of_length_le (by rw [List.length_drop]; omega)] at this
    simp only [List.flatMap_cons, List.flatMap_nil, List.append_nil, ← this]
    exact (List.take_append_drop _ _).symm
section
variable {enc : TypeId × Value → Unit} {w : World} {base : Nat} {sp : Nat → Bool} {held : Bool}
theorem row_open {m : Nat} {l : List Value} {s : List UInt8} {a b : Bool} {x y : Int} {q : List MemPlace}
    (h : DataW.trod enc Tryd.prog w base sp held m 74 l = some (.agg [.lit (.string s), .lit (.bool a), .lit (.bool b), .lit (.int .i64 x), .lit (.int .i64 y)], q)) :
    l = [.string ⟨s.toArray⟩, .bool a, .bool b, .int .i64 x, .int .i64 y] := by
  obtain ⟨xs, n, rfl, hx, hl, hn, hf⟩ := DataW.trod_struct Tryd.underlying74 h
  rw [cells_row] at hl
  have f0 : DataW.trod enc Tryd.prog w base sp held n 9 ((l.drop 0).take (Tryd.prog.cellsOf 9)) = xs[0]? := hf 0 _ rfl
  rw [cells9] at f0
  have f1 : DataW.trod enc Tryd.prog w base sp held n 4 ((l.drop 1).take (Tryd.prog.cellsOf 4)) = xs[1]? := hf 1 _ rfl
  rw [cells4] at f1
  have f2 : DataW.trod enc Tryd.prog w base sp held n 4 ((l.drop 2).take (Tryd.prog.cellsOf 4)) = xs[2]? := hf 2 _ rfl
  rw [cells4] at f2
  have f3 : DataW.trod enc Tryd.prog w base sp held n 3 ((l.drop 3).take (Tryd.prog.cellsOf 3)) = xs[3]? := hf 3 _ rfl
  rw [cells3] at f3
  have f4 : DataW.trod enc Tryd.prog w base sp held n 3 ((l.drop 4).take (Tryd.prog.cellsOf 3)) = xs[4]? := hf 4 _ rfl
  rw [cells3] at f4
  match xs, hn, l, hl with
  | [x0, x1, x2, x3, x4], _, [c0, c1, c2, c3, c4], _ =>
    simp only [List.map_cons, List.map_nil, Prod.mk.injEq, DataW.agg.injEq, List.cons.injEq, and_true] at hx
    obtain ⟨⟨e0, e1, e2, e3, e4⟩, _⟩ := hx
    obtain ⟨t0, g0, r0, _⟩ := DataW.trod_string Tryd.underlying9 f0
    obtain ⟨t1, g1, r1⟩ := DataW.trod_bool Tryd.underlying4 f1
    obtain ⟨t2, g2, r2⟩ := DataW.trod_bool Tryd.underlying4 f2
    obtain ⟨t3, g3, r3, _⟩ := DataW.trod_int Tryd.underlying3 f3
    obtain ⟨t4, g4, r4, _⟩ := DataW.trod_int Tryd.underlying3 f4
    subst r0 r1 r2 r3 r4
    simp at g0 g1 g2 g3 g4 e0 e1 e2 e3 e4
    subst g0 g1 g2 g3 g4 e0 e1 e2 e3 e4
    rfl
theorem tab_open {m : Nat} {cs : List Value} {q : List MemPlace} (h : DataW.trod enc Tryd.prog w base sp held m 85 cs = some (Rows.laid_outcrop_kind_rows, q)) : cs = (List.range 16).flatMap rowCells := by
  obtain ⟨xs, n, rfl, hx, hl, hn, hf⟩ := DataW.trod_array Tryd.underlying85 h
  rw [cells_rows] at hl
  rw [laid_rows] at hx
  simp only [Prod.mk.injEq, DataW.agg.injEq] at hx
  refine chop (f := rowCells) (fun _ => rfl) 16 cs hl fun i hi => ?_
  have := hf i hi
  rw [cells_row] at this
  have hlt : i < xs.length := by omega
  have e : xs[i].1 = rowD i := by
    have := congrArg (·[i]?) hx.1
    simpa [hi, hlt] using this.symm
  rw [List.getElem?_eq_getElem hlt, show xs[i] = (rowD i, xs[i].2) from Prod.ext e rfl] at this
  exact row_open this
theorem steps_open {m : Nat} {cs : List Value} {q : List MemPlace} (h : DataW.trod enc Tryd.prog w base sp held m 84 cs = some (Rows.laid_outcrop_light_steps, q)) : cs = stepsV := by
  obtain ⟨xs, n, rfl, hx, hl, hn, hf⟩ := DataW.trod_array Tryd.underlying84 h
  rw [cells_steps] at hl
  unfold Rows.laid_outcrop_light_steps at hx
  match xs, hn, cs, hl with
  | [x0, x1, x2, x3, x4, x5], _, [c0, c1, c2, c3, c4, c5], _ =>
    have f0 : DataW.trod enc Tryd.prog w base sp held n 3 (([c0, c1, c2, c3, c4, c5].drop (0 * Tryd.prog.cellsOf 3)).take (Tryd.prog.cellsOf 3)) = some x0 := hf 0 (by omega)
    rw [cells3] at f0
    change DataW.trod enc Tryd.prog w base sp held n 3 [c0] = some x0 at f0
    obtain ⟨z0, g0, r0, _⟩ := DataW.trod_int Tryd.underlying3 f0
    have f1 : DataW.trod enc Tryd.prog w base sp held n 3 (([c0, c1, c2, c3, c4, c5].drop (1 * Tryd.prog.cellsOf 3)).take (Tryd.prog.cellsOf 3)) = some x1 := hf 1 (by omega)
    rw [cells3] at f1
    change DataW.trod enc Tryd.prog w base sp held n 3 [c1] = some x1 at f1
    obtain ⟨z1, g1, r1, _⟩ := DataW.trod_int Tryd.underlying3 f1
    have f2 : DataW.trod enc Tryd.prog w base sp held n 3 (([c0, c1, c2, c3, c4, c5].drop (2 * Tryd.prog.cellsOf 3)).take (Tryd.prog.cellsOf 3)) = some x2 := hf 2 (by omega)
    rw [cells3] at f2
    change DataW.trod enc Tryd.prog w base sp held n 3 [c2] = some x2 at f2
    obtain ⟨z2, g2, r2, _⟩ := DataW.trod_int Tryd.underlying3 f2
    have f3 : DataW.trod enc Tryd.prog w base sp held n 3 (([c0, c1, c2, c3, c4, c5].drop (3 * Tryd.prog.cellsOf 3)).take (Tryd.prog.cellsOf 3)) = some x3 := hf 3 (by omega)
    rw [cells3] at f3
    change DataW.trod enc Tryd.prog w base sp held n 3 [c3] = some x3 at f3
    obtain ⟨z3, g3, r3, _⟩ := DataW.trod_int Tryd.underlying3 f3
    have f4 : DataW.trod enc Tryd.prog w base sp held n 3 (([c0, c1, c2, c3, c4, c5].drop (4 * Tryd.prog.cellsOf 3)).take (Tryd.prog.cellsOf 3)) = some x4 := hf 4 (by omega)
    rw [cells3] at f4
    change DataW.trod enc Tryd.prog w base sp held n 3 [c4] = some x4 at f4
    obtain ⟨z4, g4, r4, _⟩ := DataW.trod_int Tryd.underlying3 f4
    have f5 : DataW.trod enc Tryd.prog w base sp held n 3 (([c0, c1, c2, c3, c4, c5].drop (5 * Tryd.prog.cellsOf 3)).take (Tryd.prog.cellsOf 3)) = some x5 := hf 5 (by omega)
    rw [cells3] at f5
    change DataW.trod enc Tryd.prog w base sp held n 3 [c5] = some x5 at f5
    obtain ⟨z5, g5, r5, _⟩ := DataW.trod_int Tryd.underlying3 f5
    simp only [List.map_cons, List.map_nil, Prod.mk.injEq, DataW.agg.injEq, List.cons.injEq, and_true] at hx
    obtain ⟨⟨e0, e1, e2, e3, e4, e5⟩, _⟩ := hx
    subst r0 r1 r2 r3 r4 r5
    simp at g0 g1 g2 g3 g4 g5 e0 e1 e2 e3 e4 e5
    subst g0 g1 g2 g3 g4 g5 e0 e1 e2 e3 e4 e5
    rfl
end
theorem tabs_laid {W : World} (h : laidMetH Tryd.prog [("outcrop/kind.rows", Rows.laid_outcrop_kind_rows), ("outcrop/light.steps", Rows.laid_outcrop_light_steps)] W) : Tabs W := by
  have h' : laidMet Tryd.prog [("outcrop/kind.rows", Rows.laid_outcrop_kind_rows), ("outcrop/light.steps", Rows.laid_outcrop_light_steps)] W := h
  obtain ⟨ps, ⟨g, t, cs, fuel, p, q, hg, ht, hvar, hd, ⟨g2, t2, cs2, fuel2, p2, q2, hg2, ht2, hvar2, hd2, _, _⟩, _⟩, _⟩ := h'
  obtain rfl := Option.some.inj (gRows.symm.trans hg)
  obtain rfl := Option.some.inj (tRows.symm.trans ht)
  obtain rfl := Option.some.inj (gSteps.symm.trans hg2)
  obtain rfl := Option.some.inj (tSteps.symm.trans ht2)
  have e := tab_open hd
  have e2 := steps_open hd2
  simp only [World.var?, gRows, Option.bind_some] at hvar
  simp only [World.var?, gSteps, Option.bind_some] at hvar2
  refine ⟨?_, ?_⟩
  · split at hvar
    · rename_i c ty f hb
      simp only [Option.some.injEq] at hvar
      subst hvar
      exact ⟨ty, f, by rw [hb, ← e]⟩
    · cases hvar
  · split at hvar2
    · rename_i c ty f hb
      simp only [Option.some.injEq] at hvar2
      subst hvar2
      exact ⟨ty, f, by rw [hb, ← e2]⟩
    · cases hvar2
/-- The door's own heap meets the list. -/
theorem door_met (os : Os) (args : Array Value) : laidMetH Tryd.prog [("outcrop/kind.rows", Rows.laid_outcrop_kind_rows), ("outcrop/light.steps", Rows.laid_outcrop_light_steps)] ((World.doorLaid Tryd.prog 35 os).forCall (fun _ _ => 0) ⟨#[], args, []⟩).memory :=
  laidMetH_of_parts3 (fuel := 8) (laidMet_of_run' 8 (by kernel_rfl) (by kernel_rfl)) (by kernel_rfl) (by kernel_rfl)
end Go.Proofs.YtjeapaojbkicmabDoor
