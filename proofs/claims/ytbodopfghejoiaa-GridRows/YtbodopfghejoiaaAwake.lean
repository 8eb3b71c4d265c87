/-
  The chapter's examples hold; whatever lay is as it lay.
-/
import Derived.Test.YtbodopfghejoiaaNear
namespace Go.Proofs.Ytbodopfghejoiaa
open Go.RowKit Go.BigFrame

theorem near_one : nearN 1 = 9 ∧ (flatN 0 0 (nearL 1))[0]? = some (.int .i64 (-1)) ∧ (flatN 0 0 (nearL 1))[1]? = some (.int .i64 (-1)) := by
  have e : wrap64 (-1) = -1 := by unfold wrap64; omega
  refine ⟨by decide, ?_, ?_⟩
  · have t : (flatN 0 0 (nearL 1))[0]? = some (.int .i64 (wrap64 (-1))) := rfl
    rw [t, e]
  · have t : (flatN 0 0 (nearL 1))[1]? = some (.int .i64 (wrap64 (-1))) := rfl
    rw [t, e]

/-- A slice that owns a row: its cells, one by one. -/
theorem ownsRow_cell {W : World} {b e size k cap : Nat} {g : Nat} {xs : List Value} (h : W.ownsRow b e size (.slice (some ⟨g, 0, none⟩) k cap) k xs) (j : Nat) (hj : j < k * size) : W.cell? ⟨g, j, none⟩ = xs[j]? := by
  rcases h.2 with ⟨h0, _⟩ | ⟨g', cap', cur, hv, _, hb, hk, _, hc, ht⟩
  · cases h0
  · cases hv
    rw [cell_of_row W g j cur e (0, 0) hb, ← ht, List.getElem?_take_of_lt hj]
    simp

set_option maxRecDepth 100000 in
set_option maxHeartbeats 4000000 in
theorem awake_c (w : World) : Calls Try.prog 9 #[] w fun e w' => e = .returned (.bool true) ∧ Below w.heap.size w w' := by
  have e1 : indexN (-1) 5 16 = 1295 := by decide
  have e2 : cellX (-1) 1295 = -1 := by unfold cellX; rw [if_pos (by decide)]; unfold wrap64; omega
  have e3 : cellY 1295 = 5 := by decide
  have e4 : cellZ 1 1295 = 16 := by unfold cellZ; rw [if_pos (by decide)]; unfold wrap64; omega
  have e5 : countN 0 0 0 1 2 3 = 24 := by decide
  have e6 : countN 1 0 0 0 0 0 = 0 := by decide
  have e7 : inW (-1) 5 16 := by decide
  go_enter Try.func9, Try.ntmps9
  go_wp2_with fail
  refine (near_c 0 0 1 (by decide) (by decide) _).mono ?_
  rintro e w1 ⟨v, rfl, hrow, hw1⟩
  rw [near_one.1] at hrow
  obtain ⟨g, cap, rfl⟩ := ownsRow_succ hrow
  have hB1 : Hid (Below w.heap.size w w1) := ((Below.refl _ w).alloc (Nat.le_refl _) _).trans (hw1.mono (by simp))
  have r0 := (ownsRow_cell hrow 0 (by decide)).trans near_one.2.1
  have r1 := (ownsRow_cell hrow 1 (by decide)).trans near_one.2.2
  have hP := (hw1.block w.heap.size (by simp)).trans (heap_alloc_new w _)
  have p0 := (cell_of_row w1 w.heap.size 0 _ 23 (0, 0) hP).trans rfl
  have p1 := (cell_of_row w1 w.heap.size 1 _ 23 (0, 0) hP).trans rfl
  have p2 := (cell_of_row w1 w.heap.size 2 _ 23 (0, 0) hP).trans rfl
  clear hw1 hP hrow
  go_wp2_with fail
  have s0 := fun s : Since w1 => Since.cell r0 s
  have s1 := fun s : Since w1 => Since.cell r1 s
  have t0 := fun s : Since w1 => Since.cell p0 s
  have t1 := fun s : Since w1 => Since.cell p1 s
  have t2 := fun s : Since w1 => Since.cell p2 s
  refine wp_region_since (by kernel_rfl) (by kernel_rfl) ?_
  repeat (go_big_quiet_step (first
    | (go_at_call 12; exact Calls.since (chunk_c _ _ _ (by decide) (by decide) (by decide) (by decide) _))
    | (go_at_call 14; exact Calls.since (index_c _ _ _ (by decide) (by decide) (by decide) (by decide) _))
    | (go_at_call 16; exact Calls.since (cell_c _ _ _ _))
    | (go_at_call 18; exact Calls.since (count_c _ _ _ _ _ _ _))
    | (go_at_call 10; exact Calls.since (in_c _ _ _ _))))
  refine wpQuiet_nil ?_
  rintro _ ⟨s, rfl⟩
  go_wp2
  go_ret
  exact ⟨rfl, hB1.out.trans (s.bel.mono hB1.out.size)⟩
end Go.Proofs.Ytbodopfghejoiaa
