/-
  GridCells: a cell's chunk, its place there and whether it is in the world are as the document says.
-/
import Derived.Test.YtbodopfghejoiaaFrame
namespace Go.Proofs.Ytbodopfghejoiaa
open Go.ChangeShapes Go.WideShapes Go.ChangeAt Go.RowKit Go.BigFrame

set_option maxRecDepth 100000 in
set_option maxHeartbeats 4000000 in
theorem gridCells_any (x y z : Int) (bx : B64 x) (bz : B64 z) (w : World) : Calls Try.prog 3 #[.agg #[.int .i64 x, .int .i64 y, .int .i64 z]] w fun e w' => e = .returned (.bool true) ∧ Below w.heap.size w w' := by
  have x0 := bx.1
  have x1 := bx.2
  have z0 := bz.1
  have z1 := bz.2
  go_enter Try.func3, Try.ntmps3
  go_wp2_with fail
  refine (awake_c _).mono ?_
  rintro e w1 ⟨rfl, hw1⟩
  have hB1 : Hid (Below w.heap.size w w1) := ((Below.refl _ w).alloc (Nat.le_refl _) _).trans (hw1.mono (by simp))
  have hP := (hw1.block w.heap.size (by simp)).trans (heap_alloc_new w _)
  have p0 := (cell_of_row w1 w.heap.size 0 _ 23 (0, 0) hP).trans rfl
  have p1 := (cell_of_row w1 w.heap.size 1 _ 23 (0, 0) hP).trans rfl
  have p2 := (cell_of_row w1 w.heap.size 2 _ 23 (0, 0) hP).trans rfl
  clear hw1 hP
  go_wp2_with fail
  have t0 := fun s : Since w1 => Since.cell p0 s
  have t1 := fun s : Since w1 => Since.cell p1 s
  have t2 := fun s : Since w1 => Since.cell p2 s
  refine wp_region_since (by kernel_rfl) (by kernel_rfl) ?_
  repeat (go_big_quiet_step (first
    | (go_at_call 10; exact Calls.since (in_c _ _ _ _))
    | (go_at_call 11; exact Calls.since (rin_c _ _ _ _))
    | (go_at_call 12; exact Calls.since (chunk_c _ _ _ (by assumption) (by assumption) (by assumption) (by assumption) _))
    | (go_at_call 13; exact Calls.since (rchunk_c _ _ _ (by assumption) (by assumption) (by assumption) (by assumption) _))
    | (go_at_call 14; exact Calls.since (index_c _ _ _ (by assumption) (by assumption) (by assumption) (by assumption) _))
    | (go_at_call 15; exact Calls.since (rindex_c _ _ _ (by assumption) (by assumption) (by assumption) (by assumption) _))))
  refine wpQuiet_nil ?_
  rintro _ ⟨s, rfl⟩
  go_wp2
  go_ret
  exact ⟨rfl, hB1.out.trans (s.bel.mono hB1.out.size)⟩

set_option maxRecDepth 100000 in
theorem gridCells_lifted (os : Os) (started : os.Started) (H : Type) (enc : TypeId × Value → H) :
    ReturnsInHanded {} Try.checked os 3 .any (Rows.gridCellsSpec.pre6 enc Try.prog Try.f3 Rows.gridCellsRow.domain false) (Rows.gridCellsSpec.post enc Try.prog Try.f3 false true false false) := by
  refine returnsInHanded_of_change (C := Try.checked) own started (by kernel_rfl) Try.func3
    (ChangeSpec.witness6 (enc := enc) (C := Try.checked) false ⟨#[], #[.agg #[.int .i64 0, .int .i64 0, .int .i64 0]], []⟩ 8 (by kernel_rfl) (by kernel_rfl) (by kernel_rfl) (by kernel_rfl)) ?_
  intro W base args ds gs before hval0 hW _ _
  have hval : ∀ (j : Nat) t v, Try.f3.params[j]? = some t → args[j]? = some v → Value.okWide Try.prog W .any base t v := hval0
  have hW' := hW
  obtain ⟨p, q, hA0, hV, rfl, hfz, hnd⟩ := hW
  have hA : DataW.TrodAll enc Try.prog W 0 (fun _ => true) true Try.f3.params.toList args.toList ds p := hA0
  rw [Try.params3] at hA hval
  obtain ⟨v0, vs0, d0, ds0, p0, q0, hargs, rfl, rfl, h0, r0⟩ := trodAll_cons hA
  obtain ⟨rfl, rfl, rfl⟩ := trodAll_nil r0
  obtain rfl : args = #[v0] := by cases args; simp_all
  obtain ⟨rfl, rfl⟩ := trodVars_none hV
  have lt0 : ∀ x ∈ p0, x.block < W.heap.size := by obtain ⟨m, hm⟩ := h0; exact DataW.trod_lt m _ _ _ hm
  obtain ⟨x, y, z, rfl, B_x, B_y, B_z⟩ := open_pos (hval 0 23 v0 rfl rfl) h0
  clear hA0 hval0
  refine (gridCells_any x y z B_x B_z W).mono fun e W' ⟨he, bel⟩ => ?_
  subst he
  exact ⟨_, rfl, _, _, _, [], _, [], hW', trodAll_mk1 (shut_bool Try.underlying4 _), (trodAll_cons_mk (Below.trod laidOut (by kernel_rfl) (of_decide_eq_true (by kernel_rfl)) h0 bel lt0) trodAll_mk0), rfl, bel.frame _, fun h => by cases h⟩

theorem gridCells_holds : Rows.GridCellsSaid :=
  OpenClaim.holds_of_wide 3 Try.f3 rfl rfl rfl rfl rfl rfl rfl ⟨rfl, rfl, rfl, rfl, rfl⟩ rfl rfl rfl rfl rfl (by kernel_rfl) Try.func3 (by kernel_rfl)
    (of_decide_eq_true (by kernel_rfl)) (by unfold Func.isWrapper; rw [if_neg (of_decide_eq_false (by kernel_rfl))]; exact ⟨rfl, rfl⟩)
    (fun os started H enc _ => gridCells_lifted os started H enc)
#print axioms gridCells_holds
end Go.Proofs.Ytbodopfghejoiaa
