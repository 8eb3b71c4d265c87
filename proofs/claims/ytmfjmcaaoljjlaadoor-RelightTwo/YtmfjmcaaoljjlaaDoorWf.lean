/-
  What comes in: numbers, rows of bytes, Sets; the table that the program lays.
-/
import Derived.Test.YtmfjmcaaoljjlaaDoorRows
import Derived.Test.YtmfjmcaaoljjlaaDoorCards
import Derived.Test.YtmfjmcaaoljjlaaDoorTie
import Derived.LaidMore
import Derived.LaidLaws
import Derived.Test.YtmfjmcaaoljjlaaDoorKt
import Derived.Test.YtmfjmcaaoljjlaaDoorMsrc
import Derived.SizedLaws
import Derived.ProofKit
import Derived.OpenShut
import Derived.ChangeOld
import Derived.Lib.SmallJoins
import Derived.Deep.Slices
import Derived.Deep.Strs
set_option maxRecDepth 20000
namespace Go.Proofs.YtmfjmcaaoljjlaaDoor
open Go.ChangeShapes Go.WideShapes Go.ChangeAt Go.RowKit Go.Joins Go.Deep C

theorem own : ownKnob Tryd.prog.godebug = none := by kernel_rfl
theorem laidOut : laidOutB Tryd.prog = true := by kernel_rfl
theorem cells_op : Tryd.prog.cellsOf 39 = 2 := by kernel_rfl
theorem cells_row : Tryd.prog.cellsOf 82 = 5 := by kernel_rfl
theorem cells_rows : Tryd.prog.cellsOf 85 = 80 := by kernel_rfl
theorem cells9 : Tryd.prog.cellsOf 9 = 1 := by kernel_rfl
theorem cells5 : Tryd.prog.cellsOf 5 = 1 := by kernel_rfl
theorem cells4 : Tryd.prog.cellsOf 4 = 1 := by kernel_rfl
theorem cells3 : Tryd.prog.cellsOf 3 = 1 := by kernel_rfl
/-- The number in a cell. -/
def numAt (w : World) (b o : Nat) : Int := match w.cell? ⟨b, o, none⟩ with
  | some (.int _ x) => x
  | _ => 0
section
variable {H : Type} {enc : TypeId × Value → H} {w : World} {base : Nat} {spare : Nat → Bool} {held : Bool}
theorem one_int {n : Nat} {v : Value} {y : DataW H × List MemPlace} (h : DataW.trod enc Tryd.prog w base spare held n 3 [v] = some y) : ∃ x, v = .int .i64 x ∧ (Lit.int .i64 x).wf = true := by
  obtain ⟨a, e, _, hw⟩ := DataW.trod_int Tryd.underlying3 h
  simp at e
  exact ⟨a, e, hw⟩
theorem one_byte {n : Nat} {v : Value} {y : DataW H × List MemPlace} (h : DataW.trod enc Tryd.prog w base spare held n 5 [v] = some y) : ∃ x, v = .int .u8 x ∧ 0 ≤ x ∧ x ≤ 255 := by
  obtain ⟨a, e, _, hw⟩ := DataW.trod_int Tryd.underlying5 h
  simp at e
  refine ⟨a, e, ?_⟩
  simp [Lit.wf, IntKind.min, IntKind.max] at hw
  have h1 : (0 : Int) ≤ a := of_decide_eq_true hw.1
  have h2 : a ≤ (255 : Int) := of_decide_eq_true hw.2
  exact ⟨h1, h2⟩
theorem two_ints {n : Nat} {cs : List Value} {y : DataW H × List MemPlace} (h : DataW.trod enc Tryd.prog w base spare held n 39 cs = some y) : ∀ f, f < 2 → ∃ x, cs[f]? = some (.int .i64 x) := by
  obtain ⟨xs, m, _, _, hl, hn, hf⟩ := DataW.trod_struct Tryd.underlying39 h
  rw [cells_op] at hl
  match xs, hn, cs, hl with
  | [x0, x1], _, [c0, c1], _ =>
    have f0 : DataW.trod enc Tryd.prog w base spare held m 3 (([c0, c1].drop 0).take (Tryd.prog.cellsOf 3)) = some x0 := hf 0 _ rfl
    rw [cells3] at f0
    change DataW.trod enc Tryd.prog w base spare held m 3 [c0] = some x0 at f0
    obtain ⟨z0, r0, _⟩ := one_int f0
    have f1 : DataW.trod enc Tryd.prog w base spare held m 3 (([c0, c1].drop 1).take (Tryd.prog.cellsOf 3)) = some x1 := hf 1 _ rfl
    rw [cells3] at f1
    change DataW.trod enc Tryd.prog w base spare held m 3 [c1] = some x1 at f1
    obtain ⟨z1, r1, _⟩ := one_int f1
    intro f hf2
    match f, hf2 with
    | 0, _ => exact ⟨z0, congrArg some r0⟩
    | 1, _ => exact ⟨z1, congrArg some r1⟩
/-- Sets that came in. -/
structure Ops (w : World) (a : Option Addr) (n : Nat) (P : Nat → Nat → Int) : Prop where
  at' : ∀ i, i < n → ∃ lb lo, a = some ⟨lb, lo, none⟩ ∧ lb < w.heap.size ∧ ∀ f, f < 2 → w.cell? ⟨lb, lo + (i * 2 + f), none⟩ = some (.int .i64 (P i f))
theorem in_ops {a : Option Addr} {len cap : Nat} {d : DataW H} {p : List MemPlace} (h : DataW.Trod enc Tryd.prog w base spare held 36 (.slice a len cap) d p) : ∃ P : Nat → Nat → Int, len ≤ 9223372036854775807 ∧ Ops w a len P := by
  obtain ⟨fuel, hf⟩ := h
  rcases open_slice Tryd.underlying36 hf with ⟨hcs, _⟩ | ⟨x, len', cap', m, n, D, Pl, hcs, _, hl, hcap, hm, _, hx⟩
  · simp [Value.cells] at hcs
    obtain ⟨rfl, rfl, rfl⟩ := hcs
    exact ⟨fun _ _ => 0, Nat.zero_le _, ⟨fun i hi => absurd hi (Nat.not_lt_zero _)⟩⟩
  · simp [Value.cells] at hcs
    obtain ⟨rfl, rfl, rfl⟩ := hcs
    have hlm : len ≤ m := by rw [hm]; split <;> omega
    have each : ∀ i, i < len → ∀ f, f < 2 → ∃ z, w.cell? (x.add (i * 2 + f)) = some (.int .i64 z) := by
      intro i hi f hf2
      obtain ⟨cs', h1, h2⟩ := hx i (by omega)
      obtain ⟨z, hz⟩ := two_ints h2 f hf2
      rw [cells_op] at h1
      obtain ⟨_, _, hcell⟩ := World.cells?_some h1
      have e := hcell f hf2
      rw [add_add, hz] at e
      exact ⟨z, e⟩
    have hmax : len ≤ 9223372036854775807 := by unfold maxLen at hcap; omega
    by_cases h0 : len = 0
    · subst h0
      exact ⟨fun _ _ => 0, Nat.zero_le _, ⟨fun i hi => absurd hi (Nat.not_lt_zero _)⟩⟩
    obtain ⟨b, off, spot⟩ := x
    have hs : spot = none := by
      obtain ⟨z, z0⟩ := each 0 (by omega) 0 (by omega)
      simpa [Addr.add] using World.cell?_spot z0
    subst hs
    refine ⟨fun i f => numAt w b (off + (i * 2 + f)), hmax, ⟨fun i hi => ⟨b, off, rfl, ?_, fun f hf2 => ?_⟩⟩⟩
    · obtain ⟨z, hz⟩ := each i hi 0 (by omega)
      rw [Addr.add_mid] at hz
      exact World.block_lt_of_cell? w _ hz
    · obtain ⟨z, hz⟩ := each i hi f hf2
      rw [Addr.add_mid] at hz
      show _ = some (Value.int .i64 (numAt w b (off + (i * 2 + f))))
      have e : numAt w b (off + (i * 2 + f)) = z := by unfold numAt; rw [hz]
      rw [e, hz]
/-- Bytes that came in. -/
theorem in_bytes {a : Option Addr} {len cap : Nat} {d : DataW H} {p : List MemPlace} (h : DataW.Trod enc Tryd.prog w base spare held 22 (.slice a len cap) d p) : ∃ bs : List Int, len ≤ 9223372036854775807 ∧ Src w a len bs := by
  obtain ⟨fuel, hf⟩ := h
  rcases open_slice Tryd.underlying22 hf with ⟨hcs, _⟩ | ⟨x, len', cap', m, n, D, Pl, hcs, _, hl, hcap, hm, _, hx⟩
  · simp [Value.cells] at hcs
    obtain ⟨rfl, rfl, rfl⟩ := hcs
    exact ⟨[], Nat.zero_le _, ⟨rfl, fun i hi => absurd hi (Nat.not_lt_zero _), fun k => by simp⟩⟩
  · simp [Value.cells] at hcs
    obtain ⟨rfl, rfl, rfl⟩ := hcs
    have hlm : len ≤ m := by rw [hm]; split <;> omega
    have each : ∀ i, i < len → ∃ z, w.cell? (x.add i) = some (.int .u8 z) ∧ 0 ≤ z ∧ z ≤ 255 := by
      intro i hi
      obtain ⟨cs', h1, h2⟩ := hx i (by omega)
      rw [cells5] at h1
      obtain ⟨hlen, _, hcell⟩ := World.cells?_some h1
      match cs', hlen with
      | [c0], _ =>
        obtain ⟨z, rfl, hz⟩ := one_byte h2
        have e := hcell 0 (by omega)
        rw [add_add, Nat.mul_one, Nat.add_zero] at e
        exact ⟨z, e, hz⟩
    have hmax : len ≤ 9223372036854775807 := by unfold maxLen at hcap; omega
    by_cases h0 : len = 0
    · subst h0
      exact ⟨[], Nat.zero_le _, ⟨rfl, fun i hi => absurd hi (Nat.not_lt_zero _), fun k => by simp⟩⟩
    obtain ⟨b, off, spot⟩ := x
    have hs : spot = none := by
      obtain ⟨z, z0, _⟩ := each 0 (by omega)
      simpa [Addr.add] using World.cell?_spot z0
    subst hs
    have hg : ∀ k, k < len → ((List.range len).map fun i => numAt w b (off + i)).getD k 0 = numAt w b (off + k) := fun k hk => by
      rw [List.getD_eq_getElem?_getD, List.getElem?_map, List.getElem?_range hk]; rfl
    refine ⟨(List.range len).map fun i => numAt w b (off + i), hmax, ⟨by simp, fun k hk => ⟨b, off, rfl, ?_, ?_⟩, fun k => ?_⟩⟩
    · obtain ⟨z, hz, _⟩ := each k hk
      rw [Addr.add_mid] at hz
      exact World.block_lt_of_cell? w _ hz
    · obtain ⟨z, hz, _⟩ := each k hk
      rw [Addr.add_mid] at hz
      have e : numAt w b (off + k) = z := by unfold numAt; rw [hz]
      rw [hg k hk, e, hz]
    · rcases Nat.lt_or_ge k len with hk | hk
      · obtain ⟨z, hz, h1, h2⟩ := each k hk
        rw [Addr.add_mid] at hz
        have e : numAt w b (off + k) = z := by unfold numAt; rw [hz]
        rw [hg k hk, e]
        exact ⟨h1, h2⟩
      · rw [List.getD_eq_getElem?_getD, List.getElem?_eq_none (by simpa using hk)]
        simp
end
theorem gRows : Tryd.prog.globalNamed "outcrop/kind.rows" = some 0 := by kernel_rfl
theorem tRows : (Tryd.prog.globals[0]?).map (·.type) = some 85 := by kernel_rfl
/-- A row as data. -/
def rowD (k : Nat) : DataW Unit := .agg [.lit (.string (nmL.getD k [])), .lit (.bool (opK k)), .lit (.bool (clK k)), .lit (.int .i64 (lsK k)), .lit (.int .i64 (emK k))]
theorem laid_rows : Rows.laid_outcrop_kind_rows = .agg ((List.range 16).map rowD) := by kernel_rfl
theorem chop {f : Nat → List Value} (hf : ∀ i, (f i).length = 5) : ∀ (n : Nat) (cs : List Value), cs.length = n * 5 → (∀ i, i < n → (cs.drop (i * 5)).take 5 = f i) → cs = (List.range n).flatMap f
  | 0, cs, h, _ => by simpa using h
  | n + 1, cs, h, hi => by
    rw [List.range_succ, List.flatMap_append, ← chop hf n (cs.take (n * 5)) (by rw [List.length_take]; omega) fun i hlt => by
      rw [← hi i (by omega), List.drop_take, List.take_take, Nat.min_eq_left (by omega)]]
    have := hi n (Nat.lt_succ_self n)
    rw [List.take_of_length_le (by rw [List.length_drop]; omega)] at this
    simp only [List.flatMap_cons, List.flatMap_nil, List.append_nil, ← this]
    exact (List.take_append_drop _ _).symm
section
variable {enc : TypeId × Value → Unit} {w : World} {base : Nat} {sp : Nat → Bool} {held : Bool}
theorem row_open {m : Nat} {l : List Value} {s : List UInt8} {a b : Bool} {x y : Int} {q : List MemPlace}
    (h : DataW.trod enc Tryd.prog w base sp held m 82 l = some (.agg [.lit (.string s), .lit (.bool a), .lit (.bool b), .lit (.int .i64 x), .lit (.int .i64 y)], q)) :
    l = [.string ⟨s.toArray⟩, .bool a, .bool b, .int .i64 x, .int .i64 y] := by
  obtain ⟨xs, n, rfl, hx, hl, hn, hf⟩ := DataW.trod_struct Tryd.underlying82 h
  rw [cells_row] at hl
  have f0 : DataW.trod enc Tryd.prog w base sp held n 9 ((l.drop 0).take (Tryd.prog.cellsOf 9)) = xs[0]? := hf 0 _ rfl
  rw [cells9] at f0
  have f1 : DataW.trod enc Tryd.prog w base sp held n 4 ((l.drop 1).take (Tryd.prog.cellsOf 4)) = xs[1]? := hf 1 _ rfl
  rw [cells4] at f1
  have f2 : DataW.trod enc Tryd.prog w base sp held n 4 ((l.drop 2).take (Tryd.prog.cellsOf 4)) = xs[2]? := hf 2 _ rfl
  rw [cells4] at f2
  have f3 : DataW.trod enc Tryd.prog w base sp held n 3 ((l.drop 3).take (Tryd.prog.cellsOf 3)) = xs[3]? := hf 3 _ rfl
  rw [cells3] at f3
  have f4 : DataW.trod enc Tryd.prog w base sp held n 3 ((l.drop 4).take (Tryd.prog.cellsOf 3)) = xs[4]? := hf 4 _ rfl
  rw [cells3] at f4
  match xs, hn, l, hl with
  | [x0, x1, x2, x3, x4], _, [c0, c1, c2, c3, c4], _ =>
    simp only [List.map_cons, List.map_nil, Prod.mk.injEq, DataW.agg.injEq, List.cons.injEq, and_true] at hx
    obtain ⟨⟨e0, e1, e2, e3, e4⟩, _⟩ := hx
    obtain ⟨t0, g0, r0, _⟩ := DataW.trod_string Tryd.underlying9 f0
    obtain ⟨t1, g1, r1⟩ := DataW.trod_bool Tryd.underlying4 f1
    obtain ⟨t2, g2, r2⟩ := DataW.trod_bool Tryd.underlying4 f2
    obtain ⟨t3, g3, r3, _⟩ := DataW.trod_int Tryd.underlying3 f3
    obtain ⟨t4, g4, r4, _⟩ := DataW.trod_int Tryd.underlying3 f4
    subst r0 r1 r2 r3 r4
    simp at g0 g1 g2 g3 g4 e0 e1 e2 e3 e4
    subst g0 g1 g2 g3 g4 e0 e1 e2 e3 e4
    rfl
theorem tab_open {m : Nat} {cs : List Value} {q : List MemPlace} (h : DataW.trod enc Tryd.prog w base sp held m 85 cs = some (Rows.laid_outcrop_kind_rows, q)) : cs = (List.range 16).flatMap rowCells := by
  obtain ⟨xs, n, rfl, hx, hl, hn, hf⟩ := DataW.trod_array Tryd.underlying85 h
  rw [cells_rows] at hl
  rw [laid_rows] at hx
  simp only [Prod.mk.injEq, DataW.agg.injEq] at hx
  refine chop (f := rowCells) (fun _ => rfl) 16 cs hl fun i hi => ?_
  have := hf i hi
  rw [cells_row] at this
  have hlt : i < xs.length := by omega
  have e : xs[i].1 = rowD i := by
    have := congrArg (·[i]?) hx.1
    simpa [hi, hlt] using this.symm
  rw [List.getElem?_eq_getElem hlt, show xs[i] = (rowD i, xs[i].2) from Prod.ext e rfl] at this
  exact row_open this
end
theorem tabs_laid {W : World} (h : laidMetH Tryd.prog [("outcrop/kind.rows", Rows.laid_outcrop_kind_rows)] W) : Tabs W := by
  have h' : laidMet Tryd.prog [("outcrop/kind.rows", Rows.laid_outcrop_kind_rows)] W := h
  obtain ⟨ps, ⟨g, t, cs, fuel, p, q, hg, ht, hvar, hd, _⟩, _⟩ := h'
  obtain rfl := Option.some.inj (gRows.symm.trans hg)
  obtain rfl := Option.some.inj (tRows.symm.trans ht)
  have e := tab_open hd
  simp only [World.var?, gRows, Option.bind_some] at hvar
  refine ⟨?_⟩
  split at hvar
  · rename_i c ty f hb
    simp only [Option.some.injEq] at hvar
    subst hvar
    exact ⟨ty, f, by rw [hb, ← e]⟩
  · cases hvar
/-- The door's own heap meets the list. -/
theorem door_met (os : Os) (args : Array Value) : laidMetH Tryd.prog [("outcrop/kind.rows", Rows.laid_outcrop_kind_rows)] ((World.doorLaid Tryd.prog 30 os).forCall (fun _ _ => 0) ⟨#[], args, []⟩).memory :=
  laidMetH_of_parts3 (fuel := 8) (laidMet_of_run' 8 (by kernel_rfl) (by kernel_rfl)) (by kernel_rfl) (by kernel_rfl)
end Go.Proofs.YtmfjmcaaoljjlaaDoor
