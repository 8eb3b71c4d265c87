/-
  The landed veins: whether a vein has a cell; an origin's vein; the veins about cells.
-/
import Derived.Test.YtbcadklodjdokaaPsml
set_option maxRecDepth 20000
namespace Go.Proofs.Ytbcadklodjdokaa
open C Go.RowKit

theorem awayN_flip (a b c x y z : Int) : absI (a - x) + absI (b - y) + absI (c - z) = awayN a b c x y z := rfl
set_option maxHeartbeats 1000000 in
theorem vhas_c (o mx my mz r x y z : Int) (w : World) (h1 : Far 4503599627370496 mx) (h2 : Far 4503599627370496 my) (h3 : Far 4503599627370496 mz) (h4 : Far 4503599627370496 x) (h5 : Far 4503599627370496 y) (h6 : Far 4503599627370496 z) :
    Calls Try.prog 23 #[.agg #[.int .i64 o, .int .i64 mx, .int .i64 my, .int .i64 mz, .int .i64 r], .agg #[.int .i64 x, .int .i64 y, .int .i64 z]] w fun e w' => e = .returned (.bool (decide (awayN mx my mz x y z ≤ r))) ∧ Below w.heap.size w w' := by
  have b1 : 0 ≤ absI (mx - x) ∧ absI (mx - x) ≤ 9007199254740992 := by unfold Far at *; unfold absI; split <;> omega
  have b2 : 0 ≤ absI (my - y) ∧ absI (my - y) ≤ 9007199254740992 := by unfold Far at *; unfold absI; split <;> omega
  have b3 : 0 ≤ absI (mz - z) ∧ absI (mz - z) ≤ 9007199254740992 := by unfold Far at *; unfold absI; split <;> omega
  rw [← awayN_flip]
  obtain ⟨b1, c1⟩ := b1
  obtain ⟨b2, c2⟩ := b2
  obtain ⟨b3, c3⟩ := b3
  go_enter Try.func23, Try.ntmps23
  go_wp2
  have hv := heap_alloc_new w (.cells #[.int .i64 o, .int .i64 mx, .int .i64 my, .int .i64 mz, .int .i64 r] 55)
  have hv2 := (heap_alloc_old (w.alloc (.cells #[.int .i64 o, .int .i64 mx, .int .i64 my, .int .i64 mz, .int .i64 r] 55)) (.cells #[.int .i64 x, .int .i64 y, .int .i64 z] 24) (by simp)).trans hv
  have hp := new_two w (.cells #[.int .i64 o, .int .i64 mx, .int .i64 my, .int .i64 mz, .int .i64 r] 55) (.cells #[.int .i64 x, .int .i64 y, .int .i64 z] 24)
  have HB : Hid (Below w.heap.size w ((w.alloc (.cells #[.int .i64 o, .int .i64 mx, .int .i64 my, .int .i64 mz, .int .i64 r] 55)).alloc (.cells #[.int .i64 x, .int .i64 y, .int .i64 z] 24))) := below_two w _ _
  clear hv
  generalize (w.alloc (.cells #[.int .i64 o, .int .i64 mx, .int .i64 my, .int .i64 mz, .int .i64 r] 55)).alloc (.cells #[.int .i64 x, .int .i64 y, .int .i64 z] 24) = W at *
  have hsome := since_some W
  have k0 := fun s : Since W => Since.cell ((cell_of_row W (w.heap.size + 1) 0 _ 24 (0, 0) hp).trans rfl) s
  have k1 := fun s : Since W => Since.cell ((cell_of_row W (w.heap.size + 1) 1 _ 24 (0, 0) hp).trans rfl) s
  have k2 := fun s : Since W => Since.cell ((cell_of_row W (w.heap.size + 1) 2 _ 24 (0, 0) hp).trans rfl) s
  have v1 := fun s : Since W => Since.cell ((cell_of_row W w.heap.size 1 _ 55 (0, 0) hv2).trans rfl) s
  have v2 := fun s : Since W => Since.cell ((cell_of_row W w.heap.size 2 _ 55 (0, 0) hv2).trans rfl) s
  have v3 := fun s : Since W => Since.cell ((cell_of_row W w.heap.size 3 _ 55 (0, 0) hv2).trans rfl) s
  have v4 := fun s : Since W => Since.cell ((cell_of_row W w.heap.size 4 _ 55 (0, 0) hv2).trans rfl) s
  clear hp hv2
  refine wp_region_since (by kernel_rfl) (by kernel_rfl) ?_
  have same : ∀ {f : FuncId} {args : Array Value} {s : Since W} {v : Value}, (Calls Try.prog f args s.w fun e w' => e = .returned v ∧ w' = s.w) → Calls Try.prog f args s.w fun e w'' => e = .returned v ∧ ∃ s' : Since W, w'' = s'.w := fun h => h.mono fun _ w' ⟨he, hb⟩ => ⟨he, _, hb⟩
  repeat (go_big_quiet_step (first | (go_at_call 41; exact same (away_c _ _ _ (by assumption) (by assumption)))))
  refine wpQuiet_nil ?_
  rintro _ ⟨s, rfl⟩
  have R := HB.out.trans (s.bel.mono HB.out.size)
  go_wp2
  go_ret
  exact ⟨rfl, R⟩
end Go.Proofs.Ytbcadklodjdokaa
