/-
  GridBoxes: a box's number of cells and whether it is in the world are as the document says.
-/
import Derived.Test.YtbodopfghejoiaaFrame
import Derived.Test.YtbodopfghejoiaaRboxes
namespace Go.Proofs.Ytbodopfghejoiaa
open Go.ChangeShapes Go.WideShapes Go.ChangeAt Go.RowKit Go.BigFrame

set_option maxRecDepth 100000 in
set_option maxHeartbeats 4000000 in
theorem gridBoxes_any (a1 a2 a3 b1 b2 b3 : Int) (w : World) : Calls Try.prog 5 #[.agg #[.int .i64 a1, .int .i64 a2, .int .i64 a3, .int .i64 b1, .int .i64 b2, .int .i64 b3]] w fun e w' => e = .returned (.bool true) ∧ Below w.heap.size w w' := by
  go_enter Try.func5, Try.ntmps5
  go_wp2_with fail
  refine (awake_c _).mono ?_
  rintro e w1 ⟨rfl, hw1⟩
  have hB1 : Hid (Below w.heap.size w w1) := ((Below.refl _ w).alloc (Nat.le_refl _) _).trans (hw1.mono (by simp))
  have hP : Six w1 w.heap.size a1 a2 a3 b1 b2 b3 := (hw1.block w.heap.size (by simp)).trans (heap_alloc_new w _)
  obtain ⟨p0, p1, p2, p3, p4, p5⟩ := hP.cells
  clear hw1 hP
  go_wp2_with fail
  have t0 := fun s : Since w1 => Since.cell p0 s
  have t1 := fun s : Since w1 => Since.cell p1 s
  have t2 := fun s : Since w1 => Since.cell p2 s
  have t3 := fun s : Since w1 => Since.cell p3 s
  have t4 := fun s : Since w1 => Since.cell p4 s
  have t5 := fun s : Since w1 => Since.cell p5 s
  refine wp_region_since (by kernel_rfl) (by kernel_rfl) ?_
  repeat (go_big_quiet_step (first
    | (go_at_call 18; exact Calls.since (count_c _ _ _ _ _ _ _))
    | (go_at_call 19; exact Calls.since (rcount_c _ _ _ _ _ _ _))
    | (go_at_call 20; exact Calls.since (inside_c _ _ _ _ _ _ _))
    | (go_at_call 21; exact Calls.since (rinside_c _ _ _ _ _ _ _))))
  refine wpQuiet_nil ?_
  rintro _ ⟨s, rfl⟩
  go_wp2
  go_ret
  exact ⟨rfl, hB1.out.trans (s.bel.mono hB1.out.size)⟩

set_option maxRecDepth 100000 in
theorem gridBoxes_lifted (os : Os) (started : os.Started) (H : Type) (enc : TypeId × Value → H) :
    ReturnsInHanded {} Try.checked os 5 .any (Rows.gridBoxesSpec.pre6 enc Try.prog Try.f5 Rows.gridBoxesRow.domain false) (Rows.gridBoxesSpec.post enc Try.prog Try.f5 false true false false) := by
  refine returnsInHanded_of_change (C := Try.checked) own started (by kernel_rfl) Try.func5
    (ChangeSpec.witness6 (enc := enc) (C := Try.checked) false ⟨#[], #[.agg #[.int .i64 0, .int .i64 0, .int .i64 0, .int .i64 0, .int .i64 0, .int .i64 0]], []⟩ 8 (by kernel_rfl) (by kernel_rfl) (by kernel_rfl) (by kernel_rfl)) ?_
  intro W base args ds gs before hval0 hW _ _
  have hval : ∀ (j : Nat) t v, Try.f5.params[j]? = some t → args[j]? = some v → Value.okWide Try.prog W .any base t v := hval0
  have hW' := hW
  obtain ⟨p, q, hA0, hV, rfl, hfz, hnd⟩ := hW
  have hA : DataW.TrodAll enc Try.prog W 0 (fun _ => true) true Try.f5.params.toList args.toList ds p := hA0
  rw [Try.params5] at hA hval
  obtain ⟨v0, vs0, d0, ds0, p0, q0, hargs, rfl, rfl, h0, r0⟩ := trodAll_cons hA
  obtain ⟨rfl, rfl, rfl⟩ := trodAll_nil r0
  obtain rfl : args = #[v0] := by cases args; simp_all
  obtain ⟨rfl, rfl⟩ := trodVars_none hV
  have lt0 : ∀ x ∈ p0, x.block < W.heap.size := by obtain ⟨m, hm⟩ := h0; exact DataW.trod_lt m _ _ _ hm
  obtain ⟨a1, a2, a3, b1, b2, b3, rfl, B_a1, B_a2, B_a3, B_b1, B_b2, B_b3⟩ := open_box (hval 0 33 v0 rfl rfl) h0
  clear hA0 hval0
  refine (gridBoxes_any a1 a2 a3 b1 b2 b3 W).mono fun e W' ⟨he, bel⟩ => ?_
  subst he
  exact ⟨_, rfl, _, _, _, [], _, [], hW', trodAll_mk1 (shut_bool Try.underlying4 _), (trodAll_cons_mk (Below.trod laidOut (by kernel_rfl) (of_decide_eq_true (by kernel_rfl)) h0 bel lt0) trodAll_mk0), rfl, bel.frame _, fun h => by cases h⟩

theorem gridBoxes_holds : Rows.GridBoxesSaid :=
  OpenClaim.holds_of_wide 5 Try.f5 rfl rfl rfl rfl rfl rfl rfl ⟨rfl, rfl, rfl, rfl, rfl⟩ rfl rfl rfl rfl rfl (by kernel_rfl) Try.func5 (by kernel_rfl)
    (of_decide_eq_true (by kernel_rfl)) (by unfold Func.isWrapper; rw [if_neg (of_decide_eq_false (by kernel_rfl))]; exact ⟨rfl, rfl⟩)
    (fun os started H enc _ => gridBoxes_lifted os started H enc)
#print axioms gridBoxes_holds
end Go.Proofs.Ytbodopfghejoiaa
