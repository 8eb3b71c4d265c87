/-
  Near.
-/
import Derived.Test.YtjeapaojbkicmabDoorGn6
set_option maxRecDepth 20000
namespace Go.Proofs.YtjeapaojbkicmabDoor.G
open Go.RowKit Go.Shelf

attribute [local go_sem] Oper.semAt_some

set_option maxRecDepth 100000 in
set_option maxHeartbeats 2000000 in
theorem near_c (cx cz r : Int) (h0 : 0 ≤ r) (h8 : r ≤ 8) (w : World) : Calls Tryd.prog 24 #[.agg #[.int .i64 cx, .int .i64 cz], .int .i64 r] w fun e w' =>
    ∃ v, e = .returned v ∧ w'.ownsRow w.heap.size 58 2 v (nearN r) (flatN cx cz (nearL r)) ∧ Below w.heap.size w w' := by
  obtain ⟨hcnt, _, hb⟩ := near_count r h0 h8
  obtain ⟨i0, hi, hz0, hz1, hz2⟩ := info_parts info58
  generalize hC0 : nearN r = C at hcnt hb
  have hC : Hid (nearN r = C) := hC0
  clear hC0
  have hmk : ∀ w, (Instr.makeSlice 55 (.int .i64 0) (.int .i64 (C : Int))).run Tryd.prog w = .ok (.slice (some ⟨w.heap.size, 0, none⟩) 0 C) (w.alloc (.cells (madeCells #[.int .i64 0, .int .i64 0] (C * 2)) 58)) := fun w => by
    have := run_makeSlice (P := Tryd.prog) w 55 58 i0 _ Tryd.underlying55 hi hz0 .i64 .i64 0 C (by omega) (by omega) (by rw [hz1]; omega) (by rw [hz2]; omega) (by omega)
    rw [hz1] at this
    simpa [Value.cells] using this
  refine (callsIn_wide (n := 6)).1 ?_
  refine callsIn_of_wp_marks Tryd.func24 rfl trivial ?_ rfl
  simp only [Tryd.ntmps24, List.size_toArray, List.length_cons, List.length_nil, Nat.reduceAdd, Nat.reduceSub, Array.replicate_succ, Array.replicate_zero, List.push_toArray, List.append_toArray, List.nil_append, List.cons_append]
  gi_wp2_with (fail)
  refine ⟨trivial, ?_⟩
  refine (callsIn_wide.2 (count_c _ _ _ _ _ _ _)).mono ?_
  rintro e w1 ⟨rfl, hw1⟩
  have hS1 : Six w1 (w.heap.size + 1) (-r) 0 (-r) r 0 r := (hw1.block (w.heap.size + 1) (by simp)).trans (new_two w _ _)
  have hX1 : w1.heap[w.heap.size]? = some (.cells #[.int .i64 cx, .int .i64 cz] 58 (0, 0)) := (hw1.block w.heap.size (by simp; omega)).trans ((Below.heap_alloc _ _ _ (by simp)).trans (heap_alloc_new w _))
  have hz1' : w.heap.size + 1 < w1.heap.size := (Array.getElem?_eq_some_iff.1 hS1).1
  obtain ⟨k0, k1, k2, k3, k4, k5⟩ := (Six.alloc (Six.alloc hS1 (.cells (madeCells #[.int .i64 0, .int .i64 0] (C * 2)) 58)) (.cells #[.slice (some ⟨w1.heap.size, 0, none⟩) 0 C] 55)).cells
  gi_wp2_with (fail)
  refine ⟨trivial, ?_⟩
  refine (callsIn_wide.2 (each_c _ _ _ _ _ _ _)).mono ?_
  rintro e w2 ⟨rfl, rfl⟩
  clear k0 k1 k2 k3 k4 k5
  gi_wp2_with (fail)
  have hS3 : Six (((w1.alloc (.cells (madeCells #[.int .i64 0, .int .i64 0] (C * 2)) 58)).alloc (.cells #[.slice (some ⟨w1.heap.size, 0, none⟩) 0 C] 55)).alloc (.cells #[.int .i64 (-r), .int .i64 0, .int .i64 (-r), .int .i64 r, .int .i64 0, .int .i64 r] 76)) (w1.heap.size + 1 + 1) (-r) 0 (-r) r 0 r := by
    have := Six.new ((w1.alloc (.cells (madeCells #[.int .i64 0, .int .i64 0] (C * 2)) 58)).alloc (.cells #[.slice (some ⟨w1.heap.size, 0, none⟩) 0 C] 55)) (-r) 0 (-r) r 0 r
    simpa only [World.size_alloc] using this
  have bN := (Boxed.new (w1.alloc (.cells (madeCells #[.int .i64 0, .int .i64 0] (C * 2)) 58)) 55 (.slice (some ⟨w1.heap.size, 0, none⟩) 0 C)).alloc (.cells #[.int .i64 (-r), .int .i64 0, .int .i64 (-r), .int .i64 r, .int .i64 0, .int .i64 r] 76)
  simp only [World.size_alloc] at bN
  have hO3 : (((w1.alloc (.cells (madeCells #[.int .i64 0, .int .i64 0] (C * 2)) 58)).alloc (.cells #[.slice (some ⟨w1.heap.size, 0, none⟩) 0 C] 55)).alloc (.cells #[.int .i64 (-r), .int .i64 0, .int .i64 (-r), .int .i64 r, .int .i64 0, .int .i64 r] 76)).ownsRow w1.heap.size 58 2 (.slice (some ⟨w1.heap.size, 0, none⟩) 0 C) 0 [] :=
    (World.ownsRow.alloc (World.ownsRow.alloc (World.ownsRow_made w1 (madeCells #[.int .i64 0, .int .i64 0] (C * 2)) C (Nat.le_refl _) (by simp [maxLen]; omega) (size_madeCells _ _)) _) _)
  have hB3 : Below w1.heap.size w1 (((w1.alloc (.cells (madeCells #[.int .i64 0, .int .i64 0] (C * 2)) 58)).alloc (.cells #[.slice (some ⟨w1.heap.size, 0, none⟩) 0 C] 55)).alloc (.cells #[.int .i64 (-r), .int .i64 0, .int .i64 (-r), .int .i64 r, .int .i64 0, .int .i64 r] 76)) := (((Below.refl _ w1).alloc (Nat.le_refl _) _).alloc (by simp) _).alloc (by simp; omega) _
  have hsz : (((w1.alloc (.cells (madeCells #[.int .i64 0, .int .i64 0] (C * 2)) 58)).alloc (.cells #[.slice (some ⟨w1.heap.size, 0, none⟩) 0 C] 55)).alloc (.cells #[.int .i64 (-r), .int .i64 0, .int .i64 (-r), .int .i64 r, .int .i64 0, .int .i64 r] 76)).heap.size = w1.heap.size + 3 := by simp
  generalize ((w1.alloc (.cells (madeCells #[.int .i64 0, .int .i64 0] (C * 2)) 58)).alloc (.cells #[.slice (some ⟨w1.heap.size, 0, none⟩) 0 C] 55)).alloc (.cells #[.int .i64 (-r), .int .i64 0, .int .i64 (-r), .int .i64 r, .int .i64 0, .int .i64 r] 76) = W0 at hS3 bN hO3 hB3 hsz ⊢
  have hbel : Hid (Below w.heap.size w w1) := (below_two w _ _).trans (hw1.mono (by simp; omega))
  clear hw1 hcnt hmk
  have hst := each_stops 5 (by omega) (w1.heap.size + 1 + 1) W0.heap.size (-r) 0 (-r) r 0 r W0 (by omega) (Nat.le_refl _) hS3
  rw [show boxN (-r) 0 (-r) r 0 r = C from hC.out, show boxL (-r) 0 (-r) r 0 r = nearL r from rfl] at hst
  refine wpIn_rangeFunc_ownH rfl (by decide) (gf := 46) (lb := #[.pointer (some ⟨w1.heap.size + 1 + 1, 0, none⟩)]) rfl trivial (enters_of Tryd.func46 (by kernel_rfl) rfl)
    hst (fun h k => Kp.trans h k) (fun W l o o' _ h ho _ => Kp.book W l o o' h ho) (Below.refl _ _) (fun _ => rfl)
    (fun pre W => (∃ v, Boxed W (w1.heap.size + 1) 55 v ∧ W.ownsRow w1.heap.size 58 2 v pre.length (flatN cx cz pre) ∧ True) ∧ Below w1.heap.size w1 W)
    (fun _ _ _ => False)
    (OwnFrom.and (Own.from (holdsRow_own w1.heap.size (w1.heap.size + 1) 55 58 2 (fun pre : List P3 => pre.length) (fun pre => flatN cx cz pre) (fun _ _ => True)) _) (ownFrom_below (Nat.le_refl _) (by omega)))
    (fun _ _ _ _ _ hs _ _ => hs)
    ⟨⟨_, bN, hO3, trivial⟩, hB3⟩
    (fun x a' W => ∃ Bx, W.heap[Bx]? = some (.cells #[.int .i64 x.x, .int .i64 x.y, .int .i64 x.z] 62 (0, 0)) ∧ a' = { tmps := #[Value.agg #[Value.int IntKind.i64 cx, Value.int IntKind.i64 cz], Value.int IntKind.i64 r, Value.pointer (some { block := w.heap.size, off := 0 }), undef, Value.slice none 0 0, Value.pointer (some { block := w.heap.size + 1, off := 0 }), Value.pointer (some { block := w1.heap.size + 1, off := 0 }), .pointer (some ⟨Bx, 0, none⟩), Value.int IntKind.i64 r, Value.bool (decide (r < 0)), Value.bool (decide (r < 0)), Value.int IntKind.i64 r, Value.bool (decide (8 < r)), Value.bool (decide (r < 0) || decide (8 < r)), Value.int IntKind.i64 r, Value.int IntKind.i64 (-r), Value.int IntKind.i64 r, Value.int IntKind.i64 (-r), Value.agg #[Value.int IntKind.i64 (-r), Value.int IntKind.i64 0, Value.int IntKind.i64 (-r)], Value.int IntKind.i64 r, Value.int IntKind.i64 r, Value.agg #[Value.int IntKind.i64 r, Value.int IntKind.i64 0, Value.int IntKind.i64 r], Value.agg #[Value.int IntKind.i64 (-r), Value.int IntKind.i64 0, Value.int IntKind.i64 (-r), Value.int IntKind.i64 r, Value.int IntKind.i64 0, Value.int IntKind.i64 r], Value.agg #[Value.int IntKind.i64 (-r), Value.int IntKind.i64 0, Value.int IntKind.i64 (-r), Value.int IntKind.i64 r, Value.int IntKind.i64 0, Value.int IntKind.i64 r], Value.int IntKind.i64 (C : Int), Value.slice (some { block := w1.heap.size, off := 0 }) 0 C, Value.agg #[Value.int IntKind.i64 (-r), Value.int IntKind.i64 0, Value.int IntKind.i64 (-r), Value.int IntKind.i64 r, Value.int IntKind.i64 0, Value.int IntKind.i64 r], Value.func (Fn.func 46) #[] #[Value.pointer (some { block := w1.heap.size + 1 + 1, off := 0 })], .agg #[.int .i64 x.x, .int .i64 x.y, .int .i64 x.z], undef, undef, undef, undef, undef, undef, undef, undef, undef, undef, undef, undef, undef, undef, undef], defers := [] })
    (fun x a' _ X Y row hs hg hr => by
      obtain ⟨Bx, h1, h2⟩ := hs
      refine ⟨Bx, (hg.block Bx (Array.getElem?_eq_some_iff.1 h1).1 (fun e => ?_)).trans h1, h2⟩
      obtain ⟨_, o, ho, hc⟩ := hr Bx e.symm
      rw [h1] at ho
      cases ho
      cases hc)
    ?assign ?body ?done ?stop
  case assign =>
    rintro l pre x W K ⟨⟨v, hv, hrow, _⟩, hB⟩ hK
    gi_wp2
    exact hK _ _ ((KeepsOthers.alloc _ _).from _) (Kp.grow (World.grownBy_alloc W _ none)) ⟨⟨v, hv.alloc _, hrow.alloc _, trivial⟩, hB.alloc hB.size _⟩ ⟨W.heap.size, heap_alloc_new W _, rfl⟩
  case body =>
    rintro l pre x a' W _ _ ⟨⟨v, hv, hrow, _⟩, hB⟩ ⟨Bx, hP, rfl⟩ hlt
    have hc := hv.cell
    have x0 : W.cell? ⟨Bx, 0, none⟩ = some (.int .i64 x.x) := (cell_of_row W _ 0 _ 62 (0, 0) hP).trans rfl
    have x2 : W.cell? ⟨Bx, 2, none⟩ = some (.int .i64 x.z) := (cell_of_row W _ 2 _ 62 (0, 0) hP).trans rfl
    have hX := (hB.block w.heap.size (by omega)).trans hX1
    have y0 : W.cell? ⟨w.heap.size, 0, none⟩ = some (.int .i64 cx) := (cell_of_row W _ 0 _ 58 (0, 0) hX).trans rfl
    have y1 : W.cell? ⟨w.heap.size, 1, none⟩ = some (.int .i64 cz) := (cell_of_row W _ 1 _ 58 (0, 0) hX).trans rfl
    gi_wp2_with (gi_at_builtin; refine wpListIn_append_own _ rfl _ _ 55 rfl w1.heap.size 58 i0 (.agg #[.int .i64 0, .int .i64 0]) 2 16 Tryd.underlying55 hi hz0 hz1 hz2 rfl (by decide) _ _ _ rfl (hrow.alloc _) ⟨W.heap.size, 0, none⟩ 1 1 [.int .i64 (wrap64 (cx + x.x)), .int .i64 (wrap64 (cz + x.z))] rfl rfl (cell_two_new _ _ _ _) (by simp [Value.oneCell']) (by simp [maxLen]; omega) (by omega) (by have := hB.size; simp; omega) ?_; intro v' w3 hown' hgrow _; obtain ⟨g', cap', rfl⟩ := ownsRow_succ hown'; obtain ⟨hv1, hv2, hr2, hk2, hb2⟩ := hv.appended (by decide) hrow hB.size (by omega) hown' hgrow; have hc1 := hv1.cell; have hf1 := hv1.frozen)
    refine ⟨hk2.from _, ((Kp.grow (World.grownBy_alloc W _ none)).trans (Kp.row hgrow (ownsRow_apart (hrow.alloc _)))).trans (Kp.set (by omega) (by omega)), ⟨_, hv2, ?_, trivial⟩, hB.trans hb2⟩
    rw [flatN_snoc, List.length_append]
    exact hr2
  case done =>
    rintro D ys W hD rfl ⟨⟨v, hv, hrow, _⟩, hB⟩ hK
    have hc := hv.cell
    gi_wp2
    refine ⟨by simp, .inl ⟨_, _, rfl, run_takeDeferred hK, ?_⟩⟩
    have hlen : (nearL r).length = nearN r := boxL_length _ _ _ _ _ _
    rw [hlen, hC.out] at hrow
    have hlow : w.heap.size ≤ w1.heap.size := by omega
    exact ⟨_, results_tmp rfl _ _ _, v, rfl, ownsRow_base (ownsRow_putObj hrow _ hK rfl) hlow, hbel.out.trans ((hB.mono (by omega)).trans (belowK_b (w := w1) (by omega) W D _ _ (by omega) hK rfl rfl))⟩
  case stop =>
    rintro D c pre W _ _ h _
    exact h.elim
end Go.Proofs.YtjeapaojbkicmabDoor.G
