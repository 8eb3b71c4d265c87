/-
  The landed build's claim: what a feature puts into a cell.
  The landed build's features, and what they claim.
  Plain: a chunk on which features are put up one behind the other, cell by cell.
-/
import Derived.Test.YtbdjgaagafnfaaaPpart
import Derived.Test.YtbdjgaagafnfaaaPsit
set_option maxRecDepth 20000
namespace Go.Proofs.Ytbdjgaagafnfaaa
section
open C Go.RowKit Go.Shelf

set_option maxRecDepth 100000 in
set_option maxHeartbeats 4000000 in
theorem claim_ruin (X Z H Bd x y z k : Int) (w : World) (bx : Far 1000 x) (by_ : Far 1000 y) (bz : Far 1000 z) (bX : Far 1000 X) (bZ : Far 1000 Z) (bH : Far 1000 H) : Calls Try.prog 47 #[.iface 126 (soilV X Z H Bd), posV x y z, .int .i64 k] w fun e w' => e = .returned (.int .i64 ((clV 0 (absI (x - X)) (absI (z - Z)) (y - H) 0 0 0).getD 16)) ∧ Below w.heap.size w w' := by
  obtain ⟨Post, hPost⟩ : ∃ Post : Ending → World → Prop, Post = fun e w' => e = .returned (.int .i64 ((clV 0 (absI (x - X)) (absI (z - Z)) (y - H) 0 0 0).getD 16)) ∧ Below w.heap.size w w' := ⟨_, rfl⟩
  rw [← hPost]
  have HP : Hid (∀ v w', (clV 0 (absI (x - X)) (absI (z - Z)) (y - H) 0 0 0).getD 16 = v → Below w.heap.size w w' → Post (.returned (.int .i64 v)) w') := fun v w' h1 h2 => by rw [hPost, h1]; exact ⟨rfl, h2⟩
  clear hPost
  have hm : ∀ w, (method 281 126 (soilV X Z H Bd) "outcrop/build.foot").run Try.prog w = .ok (123, soilV X Z H Bd) w := fun _ => by kernel_rfl
  have hf := fun w => foot_c X Z H Bd w
  have ax := fun w => away_c x X w (by unfold Far at *; omega) (by unfold Far at *; omega)
  have az := fun w => away_c z Z w (by unfold Far at *; omega) (by unfold Far at *; omega)
  unfold Far at bx by_ bz bX bZ bH
  have wY : IntKind.i64.wrap (y - H) = y - H := by rw [IntKind.wrap_i64]; omega
  have rx : 0 ≤ absI (x - X) ∧ absI (x - X) ≤ 2000 := by unfold absI; split <;> omega
  have rz : 0 ≤ absI (z - Z) ∧ absI (z - Z) ≤ 2000 := by unfold absI; split <;> omega
  have ry : Far 1000000 (y - H) := by unfold Far; omega
  clear bx by_ bz bX bZ bH
  generalize absI (x - X) = dx at *
  generalize absI (z - Z) = dz at *
  obtain ⟨dy, hdy⟩ : ∃ d, y - H = d := ⟨_, rfl⟩
  rw [hdy] at wY HP ry
  have wY' : IntKind.i64.wrap (y - H) = dy := by rw [hdy]; exact wY
  clear hdy wY
  have hp := fun w => ruin_c X Z H Bd dx dy dz w
  clear rx rz ry
  go_enter Try.func47, Try.ntmps47
  go_wp2_with (go_at_call 123; refine (hf _).mono ?_; rintro _ W1 ⟨rfl, hb1⟩)
  obtain ⟨W2, hW2⟩ : ∃ W2, W2 = W1.alloc (.cells #[.int .i64 X, .int .i64 H, .int .i64 Z] 52) := ⟨_, rfl⟩
  have hb0 : Below w.heap.size w (w.alloc (.cells #[.int .i64 x, .int .i64 y, .int .i64 z] 52)) := (Below.refl _ _).alloc (Nat.le_refl _) _
  have hbW : Below w.heap.size w W1 := hb0.trans (hb1.mono hb0.size)
  have HB : Hid (Below w.heap.size w W2) := by rw [hW2]; exact hbW.alloc hbW.size _
  have p0 : W1.heap[w.heap.size]? = some (.cells #[.int .i64 x, .int .i64 y, .int .i64 z] 52 (0, 0)) := (hb1.block _ (by simp)).trans (heap_alloc_new w _)
  have p0' : W2.heap[w.heap.size]? = some (.cells #[.int .i64 x, .int .i64 y, .int .i64 z] 52 (0, 0)) := by rw [hW2]; exact (heap_alloc_old _ _ (Array.getElem?_eq_some_iff.1 p0).1).trans p0
  have p1 : W2.heap[W1.heap.size]? = some (.cells #[.int .i64 X, .int .i64 H, .int .i64 Z] 52 (0, 0)) := by rw [hW2]; exact heap_alloc_new W1 _
  rw [← hW2]
  clear hW2 hb0 hbW hb1 p0 hm hf
  generalize W1.heap.size = gf at *
  have c00 : W2.cell? ⟨w.heap.size, 0, none⟩ = some (.int .i64 x) := (cell_of_row W2 _ 0 _ 52 (0, 0) p0').trans rfl
  have c01 : W2.cell? ⟨w.heap.size, 1, none⟩ = some (.int .i64 y) := (cell_of_row W2 _ 1 _ 52 (0, 0) p0').trans rfl
  have c02 : W2.cell? ⟨w.heap.size, 2, none⟩ = some (.int .i64 z) := (cell_of_row W2 _ 2 _ 52 (0, 0) p0').trans rfl
  have c10 : W2.cell? ⟨gf, 0, none⟩ = some (.int .i64 X) := (cell_of_row W2 _ 0 _ 52 (0, 0) p1).trans rfl
  have c11 : W2.cell? ⟨gf, 1, none⟩ = some (.int .i64 H) := (cell_of_row W2 _ 1 _ 52 (0, 0) p1).trans rfl
  have c12 : W2.cell? ⟨gf, 2, none⟩ = some (.int .i64 Z) := (cell_of_row W2 _ 2 _ 52 (0, 0) p1).trans rfl
  clear p0' p1
  refine wp_mono (Q := onlyN fun a' w' => ∃ gs, W2.heap.size ≤ gs ∧ Below W2.heap.size W2 w' ∧ w'.heap[gs]? = some (.cells #[.int .i64 dx, .int .i64 dy, .int .i64 dz] 122 (0, 0)) ∧ ∃ u14 u15 u16 u17 u18 u19 u20 u21 u22 u23 u24 u25 u26 u27 u28 u29, a' = { tmps := #[.iface 126 (soilV X Z H Bd), posV x y z, .int .i64 k, undef, Value.pointer (some { block := w.heap.size, off := 0 }), undef, .int .i64 0, Value.pointer (some { block := gf, off := 0 }), Value.pointer (some { block := gs, off := 0 }), undef, undef, undef, .iface 126 (soilV X Z H Bd), posV X H Z, u14, u15, u16, u17, u18, u19, u20, u21, u22, u23, u24, u25, u26, u27, u28, u29, undef, undef, undef, undef, undef, undef, undef, undef, undef, undef, undef, undef, undef, undef, undef, undef, undef, undef, undef, undef, undef], defers := [] }) ?_ ?_
  · clear HP HB hp
    refine region_L (fun w' => Below W2.heap.size W2 w') 30 (by kernel_rfl) ?_
    have h_v0 : (fun w' => Below W2.heap.size W2 w') W2.drew := (Below.refl _ W2).drew
    generalize W2.drew = v0 at *
    have hne : Nonempty (Sub (fun w' => Below W2.heap.size W2 w')) := ⟨⟨_, h_v0⟩⟩
    have k00 : ∀ s : Sub (fun w' => Below W2.heap.size W2 w'), s.w.cell? ⟨w.heap.size, 0, none⟩ = some (.int .i64 x) := fun s => cell_below c00 s.ok
    have k01 : ∀ s : Sub (fun w' => Below W2.heap.size W2 w'), s.w.cell? ⟨w.heap.size, 1, none⟩ = some (.int .i64 y) := fun s => cell_below c01 s.ok
    have k02 : ∀ s : Sub (fun w' => Below W2.heap.size W2 w'), s.w.cell? ⟨w.heap.size, 2, none⟩ = some (.int .i64 z) := fun s => cell_below c02 s.ok
    have k10 : ∀ s : Sub (fun w' => Below W2.heap.size W2 w'), s.w.cell? ⟨gf, 0, none⟩ = some (.int .i64 X) := fun s => cell_below c10 s.ok
    have k11 : ∀ s : Sub (fun w' => Below W2.heap.size W2 w'), s.w.cell? ⟨gf, 1, none⟩ = some (.int .i64 H) := fun s => cell_below c11 s.ok
    have k12 : ∀ s : Sub (fun w' => Below W2.heap.size W2 w'), s.w.cell? ⟨gf, 2, none⟩ = some (.int .i64 Z) := fun s => cell_below c12 s.ok
    clear c00 c01 c02 c10 c11 c12
    refine take_L (i := 0) rfl (by kernel_rfl) (by kernel_rfl) (by kernel_rfl) (by kernel_rfl) (fun _ _ _ _ h => h) (by exact h_v0) (fun K hK => ?_)
    go_simp
    refine hK _ ?_
    clear hK K
    refine take_L (i := 1) rfl (by kernel_rfl) (by kernel_rfl) (by kernel_rfl) (by kernel_rfl) (fun _ _ _ _ h => h) (by exact h_v0) (fun K hK => ?_)
    go_simp
    refine hK _ ?_
    clear hK K
    refine take_L (i := 2) rfl (by kernel_rfl) (by kernel_rfl) (by kernel_rfl) (by kernel_rfl) (fun _ _ _ _ h => h) (by exact h_v0) (fun K hK => ?_)
    go_simp
    refine hK _ ?_
    clear hK K
    refine take_L (i := 3) rfl (by kernel_rfl) (by kernel_rfl) (by kernel_rfl) (by kernel_rfl) (fun _ _ _ _ h => h) (by exact h_v0) (fun K hK => ?_)
    go_simp
    refine hK _ ?_
    clear hK K
    refine take_L (i := 5) rfl (by kernel_rfl) (by kernel_rfl) (by kernel_rfl) (by kernel_rfl) (fun _ _ _ _ h => h) (by exact h_v0) (fun K hK => ?_)
    go_simp
    refine hK _ ?_
    clear hK K
    refine take_L (i := 6) rfl (by kernel_rfl) (by kernel_rfl) (by kernel_rfl) (by kernel_rfl) (fun _ _ _ _ h => h) (by exact h_v0) (fun K hK => ?_)
    go_simp
    refine hK _ ?_
    clear hK K
    refine take_L (i := 7) rfl (by kernel_rfl) (by kernel_rfl) (by kernel_rfl) (by kernel_rfl) (fun _ _ _ _ h => h) (by exact h_v0) (fun K hK => ?_)
    go_simp
    refine hK _ ?_
    clear hK K
    refine take_L (i := 8) rfl (by kernel_rfl) (by kernel_rfl) (by kernel_rfl) (by kernel_rfl) (fun _ _ _ _ h => h) (by exact h_v0) (fun K hK => ?_)
    go_simp
    refine hK _ ?_
    clear hK K
    refine take_L (i := 9) rfl (by kernel_rfl) (by kernel_rfl) (by kernel_rfl) (by kernel_rfl) (fun _ _ _ _ h => h) (by exact h_v0) (fun K hK => ?_)
    go_simp
    refine hK _ ?_
    clear hK K
    refine take_L (i := 10) rfl (by kernel_rfl) (by kernel_rfl) (by kernel_rfl) (by kernel_rfl) (fun _ _ _ _ h => h) (by exact h_v0) (fun K hK => ?_)
    go_simp
    refine hK _ ?_
    clear hK K
    refine take_L (i := 11) rfl (by kernel_rfl) (by kernel_rfl) (by kernel_rfl) (by kernel_rfl) (fun _ _ _ _ h => h) (by exact h_v0) (fun K hK => ?_)
    go_simp
    refine hK _ ?_
    clear hK K
    refine take_L (i := 12) rfl (by kernel_rfl) (by kernel_rfl) (by kernel_rfl) (by kernel_rfl) (fun _ _ _ _ h => h) (by exact h_v0) (fun K hK => ?_)
    go_simp
    refine hK _ ?_
    clear hK K
    refine take_L (i := 13) rfl (by kernel_rfl) (by kernel_rfl) (by kernel_rfl) (by kernel_rfl) (fun _ _ _ _ h => h) (by exact h_v0) (fun K hK => ?_)
    go_simp
    refine hK _ ?_
    clear hK K
    refine two_L (i := 4) (j := 16) (by kernel_rfl) rfl rfl (fun K hK => ?_) (fun K hK => ?_)
    · go_simp
      refine (ax v0).mono ?_
      rintro _ w' ⟨rfl, hw'⟩
      subst w'
      refine hK.out _ _ (fun _ => h_v0) ?_
      clear hK K
      refine two_L (i := 14) (j := 16) (by kernel_rfl) rfl rfl (fun K hK => ?_) (fun K hK => ?_)
      · go_simp
        refine (az v0).mono ?_
        rintro _ w' ⟨rfl, hw'⟩
        subst w'
        refine hK.out _ _ (fun _ => h_v0) ?_
        clear hK K
        refine take_L (i := 15) rfl (by kernel_rfl) (by kernel_rfl) (by kernel_rfl) (by kernel_rfl) (fun _ _ _ _ h => h) (by exact h_v0) (fun K hK => ?_)
        go_simp
        refine hK _ ?_
        clear hK K
        refine one_L (i := 16) (by kernel_rfl) rfl (fun K hK => ?_)
        go_simp
        have h_v1 : (fun w' => Below W2.heap.size W2 w') (v0.alloc (.cells #[.int .i64 0, .int .i64 0, .int .i64 0] 122)) := h_v0.alloc h_v0.size _
        have Hz_v1_16 : Hid ((v0.alloc (.cells #[.int .i64 0, .int .i64 0, .int .i64 0] 122)).heap[v0.heap.size]? = some (.cells #[.int .i64 0, .int .i64 0, .int .i64 0] 122 (0, 0))) := heap_alloc_new v0 _
        have Hl_v1_16 : Hid (W2.heap.size ≤ v0.heap.size) := h_v0.size
        refine hK.out _ _ (fun _ => h_v1) ?_
        clear hK K
        generalize v0.alloc (.cells #[.int .i64 0, .int .i64 0, .int .i64 0] 122) = v1 at *
        clear h_v0
        generalize v0.heap.size = g1 at *
        refine one_L (i := 17) (by kernel_rfl) rfl (fun K hK => ?_)
        have s2 : v1.cell? ⟨g1, 2, none⟩ = some (.int .i64 0) := (cell_of_row v1 _ 2 _ 122 (0, 0) Hz_v1_16.out).trans rfl
        have f2 : v1.frozen? ⟨g1, 2, none⟩ = false := frozen_of_row v1 _ 2 _ 122 Hz_v1_16.out
        have s1 : v1.cell? ⟨g1, 1, none⟩ = some (.int .i64 0) := (cell_of_row v1 _ 1 _ 122 (0, 0) Hz_v1_16.out).trans rfl
        have f1 : v1.frozen? ⟨g1, 1, none⟩ = false := frozen_of_row v1 _ 1 _ 122 Hz_v1_16.out
        have s0 : v1.cell? ⟨g1, 0, none⟩ = some (.int .i64 0) := (cell_of_row v1 _ 0 _ 122 (0, 0) Hz_v1_16.out).trans rfl
        have f0 : v1.frozen? ⟨g1, 0, none⟩ = false := frozen_of_row v1 _ 0 _ 122 Hz_v1_16.out
        go_simp
        have h_v2 : (fun w' => Below W2.heap.size W2 w') (((v1.setCell ⟨g1, 0, none⟩ (.int .i64 dx)).setCell ⟨g1, 1, none⟩ (.int .i64 dy)).setCell ⟨g1, 2, none⟩ (.int .i64 dz)) := G.below_set3 h_v1 Hl_v1_16.out
        have Hz_v2_16 : Hid ((((v1.setCell ⟨g1, 0, none⟩ (.int .i64 dx)).setCell ⟨g1, 1, none⟩ (.int .i64 dy)).setCell ⟨g1, 2, none⟩ (.int .i64 dz)).heap[g1]? = some (.cells #[.int .i64 dx, .int .i64 dy, .int .i64 dz] 122 (0, 0))) := G.set_three Hz_v1_16.out
        refine hK.out _ _ (fun _ => h_v2) ?_
        clear hK K s0 s1 s2 f0 f1 f2
        generalize ((v1.setCell ⟨g1, 0, none⟩ (.int .i64 dx)).setCell ⟨g1, 1, none⟩ (.int .i64 dy)).setCell ⟨g1, 2, none⟩ (.int .i64 dz) = v2 at *
        refine done_L (by kernel_rfl) ?_ _
        exact ⟨_, Hl_v1_16.out, h_v2, Hz_v2_16.out, ⟨_, _, _, _, _, _, _, _, _, _, _, _, _, _, _, _, rfl⟩⟩
      · go_simp
        have h_v3 : (fun w' => Below W2.heap.size W2 w') (v0.alloc (.cells #[.int .i64 0, .int .i64 0, .int .i64 0] 122)) := h_v0.alloc h_v0.size _
        have Hz_v3_16 : Hid ((v0.alloc (.cells #[.int .i64 0, .int .i64 0, .int .i64 0] 122)).heap[v0.heap.size]? = some (.cells #[.int .i64 0, .int .i64 0, .int .i64 0] 122 (0, 0))) := heap_alloc_new v0 _
        have Hl_v3_16 : Hid (W2.heap.size ≤ v0.heap.size) := h_v0.size
        refine hK.out _ _ (fun _ => h_v3) ?_
        clear hK K
        generalize v0.alloc (.cells #[.int .i64 0, .int .i64 0, .int .i64 0] 122) = v3 at *
        clear h_v0
        generalize v0.heap.size = g3 at *
        refine one_L (i := 14) (by kernel_rfl) rfl (fun K hK => ?_)
        go_simp
        refine (az v3).mono ?_
        rintro _ w' ⟨rfl, hw'⟩
        subst w'
        refine hK.out _ _ (fun _ => h_v3) ?_
        clear hK K
        refine take_L (i := 15) rfl (by kernel_rfl) (by kernel_rfl) (by kernel_rfl) (by kernel_rfl) (fun _ _ _ _ h => h) (by exact h_v3) (fun K hK => ?_)
        go_simp
        refine hK _ ?_
        clear hK K
        refine one_L (i := 17) (by kernel_rfl) rfl (fun K hK => ?_)
        have s2 : v3.cell? ⟨g3, 2, none⟩ = some (.int .i64 0) := (cell_of_row v3 _ 2 _ 122 (0, 0) Hz_v3_16.out).trans rfl
        have f2 : v3.frozen? ⟨g3, 2, none⟩ = false := frozen_of_row v3 _ 2 _ 122 Hz_v3_16.out
        have s1 : v3.cell? ⟨g3, 1, none⟩ = some (.int .i64 0) := (cell_of_row v3 _ 1 _ 122 (0, 0) Hz_v3_16.out).trans rfl
        have f1 : v3.frozen? ⟨g3, 1, none⟩ = false := frozen_of_row v3 _ 1 _ 122 Hz_v3_16.out
        have s0 : v3.cell? ⟨g3, 0, none⟩ = some (.int .i64 0) := (cell_of_row v3 _ 0 _ 122 (0, 0) Hz_v3_16.out).trans rfl
        have f0 : v3.frozen? ⟨g3, 0, none⟩ = false := frozen_of_row v3 _ 0 _ 122 Hz_v3_16.out
        go_simp
        have h_v4 : (fun w' => Below W2.heap.size W2 w') (((v3.setCell ⟨g3, 0, none⟩ (.int .i64 dx)).setCell ⟨g3, 1, none⟩ (.int .i64 dy)).setCell ⟨g3, 2, none⟩ (.int .i64 dz)) := G.below_set3 h_v3 Hl_v3_16.out
        have Hz_v4_16 : Hid ((((v3.setCell ⟨g3, 0, none⟩ (.int .i64 dx)).setCell ⟨g3, 1, none⟩ (.int .i64 dy)).setCell ⟨g3, 2, none⟩ (.int .i64 dz)).heap[g3]? = some (.cells #[.int .i64 dx, .int .i64 dy, .int .i64 dz] 122 (0, 0))) := G.set_three Hz_v3_16.out
        refine hK.out _ _ (fun _ => h_v4) ?_
        clear hK K s0 s1 s2 f0 f1 f2
        generalize ((v3.setCell ⟨g3, 0, none⟩ (.int .i64 dx)).setCell ⟨g3, 1, none⟩ (.int .i64 dy)).setCell ⟨g3, 2, none⟩ (.int .i64 dz) = v4 at *
        refine done_L (by kernel_rfl) ?_ _
        exact ⟨_, Hl_v3_16.out, h_v4, Hz_v4_16.out, ⟨_, _, _, _, _, _, _, _, _, _, _, _, _, _, _, _, rfl⟩⟩
    · go_simp
      have h_v5 : (fun w' => Below W2.heap.size W2 w') (v0.alloc (.cells #[.int .i64 0, .int .i64 0, .int .i64 0] 122)) := h_v0.alloc h_v0.size _
      have Hz_v5_16 : Hid ((v0.alloc (.cells #[.int .i64 0, .int .i64 0, .int .i64 0] 122)).heap[v0.heap.size]? = some (.cells #[.int .i64 0, .int .i64 0, .int .i64 0] 122 (0, 0))) := heap_alloc_new v0 _
      have Hl_v5_16 : Hid (W2.heap.size ≤ v0.heap.size) := h_v0.size
      refine hK.out _ _ (fun _ => h_v5) ?_
      clear hK K
      generalize v0.alloc (.cells #[.int .i64 0, .int .i64 0, .int .i64 0] 122) = v5 at *
      clear h_v0
      generalize v0.heap.size = g5 at *
      refine one_L (i := 4) (by kernel_rfl) rfl (fun K hK => ?_)
      go_simp
      refine (ax v5).mono ?_
      rintro _ w' ⟨rfl, hw'⟩
      subst w'
      refine hK.out _ _ (fun _ => h_v5) ?_
      clear hK K
      refine one_L (i := 14) (by kernel_rfl) rfl (fun K hK => ?_)
      go_simp
      refine (az v5).mono ?_
      rintro _ w' ⟨rfl, hw'⟩
      subst w'
      refine hK.out _ _ (fun _ => h_v5) ?_
      clear hK K
      refine take_L (i := 15) rfl (by kernel_rfl) (by kernel_rfl) (by kernel_rfl) (by kernel_rfl) (fun _ _ _ _ h => h) (by exact h_v5) (fun K hK => ?_)
      go_simp
      refine hK _ ?_
      clear hK K
      refine one_L (i := 17) (by kernel_rfl) rfl (fun K hK => ?_)
      have s2 : v5.cell? ⟨g5, 2, none⟩ = some (.int .i64 0) := (cell_of_row v5 _ 2 _ 122 (0, 0) Hz_v5_16.out).trans rfl
      have f2 : v5.frozen? ⟨g5, 2, none⟩ = false := frozen_of_row v5 _ 2 _ 122 Hz_v5_16.out
      have s1 : v5.cell? ⟨g5, 1, none⟩ = some (.int .i64 0) := (cell_of_row v5 _ 1 _ 122 (0, 0) Hz_v5_16.out).trans rfl
      have f1 : v5.frozen? ⟨g5, 1, none⟩ = false := frozen_of_row v5 _ 1 _ 122 Hz_v5_16.out
      have s0 : v5.cell? ⟨g5, 0, none⟩ = some (.int .i64 0) := (cell_of_row v5 _ 0 _ 122 (0, 0) Hz_v5_16.out).trans rfl
      have f0 : v5.frozen? ⟨g5, 0, none⟩ = false := frozen_of_row v5 _ 0 _ 122 Hz_v5_16.out
      go_simp
      have h_v6 : (fun w' => Below W2.heap.size W2 w') (((v5.setCell ⟨g5, 0, none⟩ (.int .i64 dx)).setCell ⟨g5, 1, none⟩ (.int .i64 dy)).setCell ⟨g5, 2, none⟩ (.int .i64 dz)) := G.below_set3 h_v5 Hl_v5_16.out
      have Hz_v6_16 : Hid ((((v5.setCell ⟨g5, 0, none⟩ (.int .i64 dx)).setCell ⟨g5, 1, none⟩ (.int .i64 dy)).setCell ⟨g5, 2, none⟩ (.int .i64 dz)).heap[g5]? = some (.cells #[.int .i64 dx, .int .i64 dy, .int .i64 dz] 122 (0, 0))) := G.set_three Hz_v5_16.out
      refine hK.out _ _ (fun _ => h_v6) ?_
      clear hK K s0 s1 s2 f0 f1 f2
      generalize ((v5.setCell ⟨g5, 0, none⟩ (.int .i64 dx)).setCell ⟨g5, 1, none⟩ (.int .i64 dy)).setCell ⟨g5, 2, none⟩ (.int .i64 dz) = v6 at *
      refine done_L (by kernel_rfl) ?_ _
      exact ⟨_, Hl_v5_16.out, h_v6, Hz_v6_16.out, ⟨_, _, _, _, _, _, _, _, _, _, _, _, _, _, _, _, rfl⟩⟩
  rintro e a' W3 h
  cases e with
  | normal =>
    obtain ⟨gs, hgs, hb3, hz3, u14, u15, u16, u17, u18, u19, u20, u21, u22, u23, u24, u25, u26, u27, u28, u29, rfl⟩ := h
    have HB3 : Hid (Below w.heap.size w W3) := HB.out.trans (hb3.mono HB.out.size)
    have c0 : W3.cell? ⟨gs, 0, none⟩ = some (.int .i64 dx) := (cell_of_row W3 _ 0 _ 122 (0, 0) hz3).trans rfl
    have c1 : W3.cell? ⟨gs, 1, none⟩ = some (.int .i64 dy) := (cell_of_row W3 _ 1 _ 122 (0, 0) hz3).trans rfl
    have c2 : W3.cell? ⟨gs, 2, none⟩ = some (.int .i64 dz) := (cell_of_row W3 _ 2 _ 122 (0, 0) hz3).trans rfl
    have hlt := (Array.getElem?_eq_some_iff.1 hz3).1
    clear HB hgs hb3 hz3 c00 c01 c02 c10 c11 c12 ax az wY'
    have ta0 : ∀ w, (Instr.typeAssert (.iface 126 (soilV X Z H Bd)) 70 126 true).run Try.prog w = .ok (.tuple #[soilV X Z H Bd, .bool true]) w := fun _ => by kernel_rfl
    have HB4 : Hid (Below w.heap.size w (W3.alloc (.cells #[.int .i64 X, .int .i64 Z, .int .i64 H, .int .i64 Bd] 126))) := HB3.out.alloc HB3.out.size _
    go_wp2_with (go_at_call 66; refine (hp _).mono ?_; rintro _ W4 ⟨rfl, hb4⟩)
    exact HP.out _ _ rfl (HB4.out.trans (hb4.mono HB4.out.size))
  | ret => exact h.elim
  | exit id => exact h.elim
  | goto t => exact h.elim
  | panic ch => exact h.elim
  | outgrown => exact h.elim

set_option maxRecDepth 100000 in
set_option maxHeartbeats 4000000 in
theorem claim_lamp (X Z H Bd x y z k : Int) (w : World) (bx : Far 1000 x) (by_ : Far 1000 y) (bz : Far 1000 z) (bX : Far 1000 X) (bZ : Far 1000 Z) (bH : Far 1000 H) : Calls Try.prog 47 #[.iface 128 (soilV X Z H Bd), posV x y z, .int .i64 k] w fun e w' => e = .returned (.int .i64 ((clV 1 (absI (x - X)) (absI (z - Z)) (y - H) 0 0 0).getD 16)) ∧ Below w.heap.size w w' := by
  obtain ⟨Post, hPost⟩ : ∃ Post : Ending → World → Prop, Post = fun e w' => e = .returned (.int .i64 ((clV 1 (absI (x - X)) (absI (z - Z)) (y - H) 0 0 0).getD 16)) ∧ Below w.heap.size w w' := ⟨_, rfl⟩
  rw [← hPost]
  have HP : Hid (∀ v w', (clV 1 (absI (x - X)) (absI (z - Z)) (y - H) 0 0 0).getD 16 = v → Below w.heap.size w w' → Post (.returned (.int .i64 v)) w') := fun v w' h1 h2 => by rw [hPost, h1]; exact ⟨rfl, h2⟩
  clear hPost
  have hm : ∀ w, (method 281 128 (soilV X Z H Bd) "outcrop/build.foot").run Try.prog w = .ok (123, soilV X Z H Bd) w := fun _ => by kernel_rfl
  have hf := fun w => foot_c X Z H Bd w
  have ax := fun w => away_c x X w (by unfold Far at *; omega) (by unfold Far at *; omega)
  have az := fun w => away_c z Z w (by unfold Far at *; omega) (by unfold Far at *; omega)
  unfold Far at bx by_ bz bX bZ bH
  have wY : IntKind.i64.wrap (y - H) = y - H := by rw [IntKind.wrap_i64]; omega
  have rx : 0 ≤ absI (x - X) ∧ absI (x - X) ≤ 2000 := by unfold absI; split <;> omega
  have rz : 0 ≤ absI (z - Z) ∧ absI (z - Z) ≤ 2000 := by unfold absI; split <;> omega
  have ry : Far 1000000 (y - H) := by unfold Far; omega
  clear bx by_ bz bX bZ bH
  generalize absI (x - X) = dx at *
  generalize absI (z - Z) = dz at *
  obtain ⟨dy, hdy⟩ : ∃ d, y - H = d := ⟨_, rfl⟩
  rw [hdy] at wY HP ry
  have wY' : IntKind.i64.wrap (y - H) = dy := by rw [hdy]; exact wY
  clear hdy wY
  have hp := fun w => lamp_c X Z H Bd dx dy dz w
  clear rx rz ry
  go_enter Try.func47, Try.ntmps47
  go_wp2_with (go_at_call 123; refine (hf _).mono ?_; rintro _ W1 ⟨rfl, hb1⟩)
  obtain ⟨W2, hW2⟩ : ∃ W2, W2 = W1.alloc (.cells #[.int .i64 X, .int .i64 H, .int .i64 Z] 52) := ⟨_, rfl⟩
  have hb0 : Below w.heap.size w (w.alloc (.cells #[.int .i64 x, .int .i64 y, .int .i64 z] 52)) := (Below.refl _ _).alloc (Nat.le_refl _) _
  have hbW : Below w.heap.size w W1 := hb0.trans (hb1.mono hb0.size)
  have HB : Hid (Below w.heap.size w W2) := by rw [hW2]; exact hbW.alloc hbW.size _
  have p0 : W1.heap[w.heap.size]? = some (.cells #[.int .i64 x, .int .i64 y, .int .i64 z] 52 (0, 0)) := (hb1.block _ (by simp)).trans (heap_alloc_new w _)
  have p0' : W2.heap[w.heap.size]? = some (.cells #[.int .i64 x, .int .i64 y, .int .i64 z] 52 (0, 0)) := by rw [hW2]; exact (heap_alloc_old _ _ (Array.getElem?_eq_some_iff.1 p0).1).trans p0
  have p1 : W2.heap[W1.heap.size]? = some (.cells #[.int .i64 X, .int .i64 H, .int .i64 Z] 52 (0, 0)) := by rw [hW2]; exact heap_alloc_new W1 _
  rw [← hW2]
  clear hW2 hb0 hbW hb1 p0 hm hf
  generalize W1.heap.size = gf at *
  have c00 : W2.cell? ⟨w.heap.size, 0, none⟩ = some (.int .i64 x) := (cell_of_row W2 _ 0 _ 52 (0, 0) p0').trans rfl
  have c01 : W2.cell? ⟨w.heap.size, 1, none⟩ = some (.int .i64 y) := (cell_of_row W2 _ 1 _ 52 (0, 0) p0').trans rfl
  have c02 : W2.cell? ⟨w.heap.size, 2, none⟩ = some (.int .i64 z) := (cell_of_row W2 _ 2 _ 52 (0, 0) p0').trans rfl
  have c10 : W2.cell? ⟨gf, 0, none⟩ = some (.int .i64 X) := (cell_of_row W2 _ 0 _ 52 (0, 0) p1).trans rfl
  have c11 : W2.cell? ⟨gf, 1, none⟩ = some (.int .i64 H) := (cell_of_row W2 _ 1 _ 52 (0, 0) p1).trans rfl
  have c12 : W2.cell? ⟨gf, 2, none⟩ = some (.int .i64 Z) := (cell_of_row W2 _ 2 _ 52 (0, 0) p1).trans rfl
  clear p0' p1
  refine wp_mono (Q := onlyN fun a' w' => ∃ gs, W2.heap.size ≤ gs ∧ Below W2.heap.size W2 w' ∧ w'.heap[gs]? = some (.cells #[.int .i64 dx, .int .i64 dy, .int .i64 dz] 122 (0, 0)) ∧ ∃ u14 u15 u16 u17 u18 u19 u20 u21 u22 u23 u24 u25 u26 u27 u28 u29, a' = { tmps := #[.iface 128 (soilV X Z H Bd), posV x y z, .int .i64 k, undef, Value.pointer (some { block := w.heap.size, off := 0 }), undef, .int .i64 0, Value.pointer (some { block := gf, off := 0 }), Value.pointer (some { block := gs, off := 0 }), undef, undef, undef, .iface 128 (soilV X Z H Bd), posV X H Z, u14, u15, u16, u17, u18, u19, u20, u21, u22, u23, u24, u25, u26, u27, u28, u29, undef, undef, undef, undef, undef, undef, undef, undef, undef, undef, undef, undef, undef, undef, undef, undef, undef, undef, undef, undef, undef], defers := [] }) ?_ ?_
  · clear HP HB hp
    refine region_L (fun w' => Below W2.heap.size W2 w') 30 (by kernel_rfl) ?_
    have h_v0 : (fun w' => Below W2.heap.size W2 w') W2.drew := (Below.refl _ W2).drew
    generalize W2.drew = v0 at *
    have hne : Nonempty (Sub (fun w' => Below W2.heap.size W2 w')) := ⟨⟨_, h_v0⟩⟩
    have k00 : ∀ s : Sub (fun w' => Below W2.heap.size W2 w'), s.w.cell? ⟨w.heap.size, 0, none⟩ = some (.int .i64 x) := fun s => cell_below c00 s.ok
    have k01 : ∀ s : Sub (fun w' => Below W2.heap.size W2 w'), s.w.cell? ⟨w.heap.size, 1, none⟩ = some (.int .i64 y) := fun s => cell_below c01 s.ok
    have k02 : ∀ s : Sub (fun w' => Below W2.heap.size W2 w'), s.w.cell? ⟨w.heap.size, 2, none⟩ = some (.int .i64 z) := fun s => cell_below c02 s.ok
    have k10 : ∀ s : Sub (fun w' => Below W2.heap.size W2 w'), s.w.cell? ⟨gf, 0, none⟩ = some (.int .i64 X) := fun s => cell_below c10 s.ok
    have k11 : ∀ s : Sub (fun w' => Below W2.heap.size W2 w'), s.w.cell? ⟨gf, 1, none⟩ = some (.int .i64 H) := fun s => cell_below c11 s.ok
    have k12 : ∀ s : Sub (fun w' => Below W2.heap.size W2 w'), s.w.cell? ⟨gf, 2, none⟩ = some (.int .i64 Z) := fun s => cell_below c12 s.ok
    clear c00 c01 c02 c10 c11 c12
    refine take_L (i := 0) rfl (by kernel_rfl) (by kernel_rfl) (by kernel_rfl) (by kernel_rfl) (fun _ _ _ _ h => h) (by exact h_v0) (fun K hK => ?_)
    go_simp
    refine hK _ ?_
    clear hK K
    refine take_L (i := 1) rfl (by kernel_rfl) (by kernel_rfl) (by kernel_rfl) (by kernel_rfl) (fun _ _ _ _ h => h) (by exact h_v0) (fun K hK => ?_)
    go_simp
    refine hK _ ?_
    clear hK K
    refine take_L (i := 2) rfl (by kernel_rfl) (by kernel_rfl) (by kernel_rfl) (by kernel_rfl) (fun _ _ _ _ h => h) (by exact h_v0) (fun K hK => ?_)
    go_simp
    refine hK _ ?_
    clear hK K
    refine take_L (i := 3) rfl (by kernel_rfl) (by kernel_rfl) (by kernel_rfl) (by kernel_rfl) (fun _ _ _ _ h => h) (by exact h_v0) (fun K hK => ?_)
    go_simp
    refine hK _ ?_
    clear hK K
    refine take_L (i := 5) rfl (by kernel_rfl) (by kernel_rfl) (by kernel_rfl) (by kernel_rfl) (fun _ _ _ _ h => h) (by exact h_v0) (fun K hK => ?_)
    go_simp
    refine hK _ ?_
    clear hK K
    refine take_L (i := 6) rfl (by kernel_rfl) (by kernel_rfl) (by kernel_rfl) (by kernel_rfl) (fun _ _ _ _ h => h) (by exact h_v0) (fun K hK => ?_)
    go_simp
    refine hK _ ?_
    clear hK K
    refine take_L (i := 7) rfl (by kernel_rfl) (by kernel_rfl) (by kernel_rfl) (by kernel_rfl) (fun _ _ _ _ h => h) (by exact h_v0) (fun K hK => ?_)
    go_simp
    refine hK _ ?_
    clear hK K
    refine take_L (i := 8) rfl (by kernel_rfl) (by kernel_rfl) (by kernel_rfl) (by kernel_rfl) (fun _ _ _ _ h => h) (by exact h_v0) (fun K hK => ?_)
    go_simp
    refine hK _ ?_
    clear hK K
    refine take_L (i := 9) rfl (by kernel_rfl) (by kernel_rfl) (by kernel_rfl) (by kernel_rfl) (fun _ _ _ _ h => h) (by exact h_v0) (fun K hK => ?_)
    go_simp
    refine hK _ ?_
    clear hK K
    refine take_L (i := 10) rfl (by kernel_rfl) (by kernel_rfl) (by kernel_rfl) (by kernel_rfl) (fun _ _ _ _ h => h) (by exact h_v0) (fun K hK => ?_)
    go_simp
    refine hK _ ?_
    clear hK K
    refine take_L (i := 11) rfl (by kernel_rfl) (by kernel_rfl) (by kernel_rfl) (by kernel_rfl) (fun _ _ _ _ h => h) (by exact h_v0) (fun K hK => ?_)
    go_simp
    refine hK _ ?_
    clear hK K
    refine take_L (i := 12) rfl (by kernel_rfl) (by kernel_rfl) (by kernel_rfl) (by kernel_rfl) (fun _ _ _ _ h => h) (by exact h_v0) (fun K hK => ?_)
    go_simp
    refine hK _ ?_
    clear hK K
    refine take_L (i := 13) rfl (by kernel_rfl) (by kernel_rfl) (by kernel_rfl) (by kernel_rfl) (fun _ _ _ _ h => h) (by exact h_v0) (fun K hK => ?_)
    go_simp
    refine hK _ ?_
    clear hK K
    refine two_L (i := 4) (j := 16) (by kernel_rfl) rfl rfl (fun K hK => ?_) (fun K hK => ?_)
    · go_simp
      refine (ax v0).mono ?_
      rintro _ w' ⟨rfl, hw'⟩
      subst w'
      refine hK.out _ _ (fun _ => h_v0) ?_
      clear hK K
      refine two_L (i := 14) (j := 16) (by kernel_rfl) rfl rfl (fun K hK => ?_) (fun K hK => ?_)
      · go_simp
        refine (az v0).mono ?_
        rintro _ w' ⟨rfl, hw'⟩
        subst w'
        refine hK.out _ _ (fun _ => h_v0) ?_
        clear hK K
        refine take_L (i := 15) rfl (by kernel_rfl) (by kernel_rfl) (by kernel_rfl) (by kernel_rfl) (fun _ _ _ _ h => h) (by exact h_v0) (fun K hK => ?_)
        go_simp
        refine hK _ ?_
        clear hK K
        refine one_L (i := 16) (by kernel_rfl) rfl (fun K hK => ?_)
        go_simp
        have h_v1 : (fun w' => Below W2.heap.size W2 w') (v0.alloc (.cells #[.int .i64 0, .int .i64 0, .int .i64 0] 122)) := h_v0.alloc h_v0.size _
        have Hz_v1_16 : Hid ((v0.alloc (.cells #[.int .i64 0, .int .i64 0, .int .i64 0] 122)).heap[v0.heap.size]? = some (.cells #[.int .i64 0, .int .i64 0, .int .i64 0] 122 (0, 0))) := heap_alloc_new v0 _
        have Hl_v1_16 : Hid (W2.heap.size ≤ v0.heap.size) := h_v0.size
        refine hK.out _ _ (fun _ => h_v1) ?_
        clear hK K
        generalize v0.alloc (.cells #[.int .i64 0, .int .i64 0, .int .i64 0] 122) = v1 at *
        clear h_v0
        generalize v0.heap.size = g1 at *
        refine one_L (i := 17) (by kernel_rfl) rfl (fun K hK => ?_)
        have s2 : v1.cell? ⟨g1, 2, none⟩ = some (.int .i64 0) := (cell_of_row v1 _ 2 _ 122 (0, 0) Hz_v1_16.out).trans rfl
        have f2 : v1.frozen? ⟨g1, 2, none⟩ = false := frozen_of_row v1 _ 2 _ 122 Hz_v1_16.out
        have s1 : v1.cell? ⟨g1, 1, none⟩ = some (.int .i64 0) := (cell_of_row v1 _ 1 _ 122 (0, 0) Hz_v1_16.out).trans rfl
        have f1 : v1.frozen? ⟨g1, 1, none⟩ = false := frozen_of_row v1 _ 1 _ 122 Hz_v1_16.out
        have s0 : v1.cell? ⟨g1, 0, none⟩ = some (.int .i64 0) := (cell_of_row v1 _ 0 _ 122 (0, 0) Hz_v1_16.out).trans rfl
        have f0 : v1.frozen? ⟨g1, 0, none⟩ = false := frozen_of_row v1 _ 0 _ 122 Hz_v1_16.out
        go_simp
        have h_v2 : (fun w' => Below W2.heap.size W2 w') (((v1.setCell ⟨g1, 0, none⟩ (.int .i64 dx)).setCell ⟨g1, 1, none⟩ (.int .i64 dy)).setCell ⟨g1, 2, none⟩ (.int .i64 dz)) := G.below_set3 h_v1 Hl_v1_16.out
        have Hz_v2_16 : Hid ((((v1.setCell ⟨g1, 0, none⟩ (.int .i64 dx)).setCell ⟨g1, 1, none⟩ (.int .i64 dy)).setCell ⟨g1, 2, none⟩ (.int .i64 dz)).heap[g1]? = some (.cells #[.int .i64 dx, .int .i64 dy, .int .i64 dz] 122 (0, 0))) := G.set_three Hz_v1_16.out
        refine hK.out _ _ (fun _ => h_v2) ?_
        clear hK K s0 s1 s2 f0 f1 f2
        generalize ((v1.setCell ⟨g1, 0, none⟩ (.int .i64 dx)).setCell ⟨g1, 1, none⟩ (.int .i64 dy)).setCell ⟨g1, 2, none⟩ (.int .i64 dz) = v2 at *
        refine done_L (by kernel_rfl) ?_ _
        exact ⟨_, Hl_v1_16.out, h_v2, Hz_v2_16.out, ⟨_, _, _, _, _, _, _, _, _, _, _, _, _, _, _, _, rfl⟩⟩
      · go_simp
        have h_v3 : (fun w' => Below W2.heap.size W2 w') (v0.alloc (.cells #[.int .i64 0, .int .i64 0, .int .i64 0] 122)) := h_v0.alloc h_v0.size _
        have Hz_v3_16 : Hid ((v0.alloc (.cells #[.int .i64 0, .int .i64 0, .int .i64 0] 122)).heap[v0.heap.size]? = some (.cells #[.int .i64 0, .int .i64 0, .int .i64 0] 122 (0, 0))) := heap_alloc_new v0 _
        have Hl_v3_16 : Hid (W2.heap.size ≤ v0.heap.size) := h_v0.size
        refine hK.out _ _ (fun _ => h_v3) ?_
        clear hK K
        generalize v0.alloc (.cells #[.int .i64 0, .int .i64 0, .int .i64 0] 122) = v3 at *
        clear h_v0
        generalize v0.heap.size = g3 at *
        refine one_L (i := 14) (by kernel_rfl) rfl (fun K hK => ?_)
        go_simp
        refine (az v3).mono ?_
        rintro _ w' ⟨rfl, hw'⟩
        subst w'
        refine hK.out _ _ (fun _ => h_v3) ?_
        clear hK K
        refine take_L (i := 15) rfl (by kernel_rfl) (by kernel_rfl) (by kernel_rfl) (by kernel_rfl) (fun _ _ _ _ h => h) (by exact h_v3) (fun K hK => ?_)
        go_simp
        refine hK _ ?_
        clear hK K
        refine one_L (i := 17) (by kernel_rfl) rfl (fun K hK => ?_)
        have s2 : v3.cell? ⟨g3, 2, none⟩ = some (.int .i64 0) := (cell_of_row v3 _ 2 _ 122 (0, 0) Hz_v3_16.out).trans rfl
        have f2 : v3.frozen? ⟨g3, 2, none⟩ = false := frozen_of_row v3 _ 2 _ 122 Hz_v3_16.out
        have s1 : v3.cell? ⟨g3, 1, none⟩ = some (.int .i64 0) := (cell_of_row v3 _ 1 _ 122 (0, 0) Hz_v3_16.out).trans rfl
        have f1 : v3.frozen? ⟨g3, 1, none⟩ = false := frozen_of_row v3 _ 1 _ 122 Hz_v3_16.out
        have s0 : v3.cell? ⟨g3, 0, none⟩ = some (.int .i64 0) := (cell_of_row v3 _ 0 _ 122 (0, 0) Hz_v3_16.out).trans rfl
        have f0 : v3.frozen? ⟨g3, 0, none⟩ = false := frozen_of_row v3 _ 0 _ 122 Hz_v3_16.out
        go_simp
        have h_v4 : (fun w' => Below W2.heap.size W2 w') (((v3.setCell ⟨g3, 0, none⟩ (.int .i64 dx)).setCell ⟨g3, 1, none⟩ (.int .i64 dy)).setCell ⟨g3, 2, none⟩ (.int .i64 dz)) := G.below_set3 h_v3 Hl_v3_16.out
        have Hz_v4_16 : Hid ((((v3.setCell ⟨g3, 0, none⟩ (.int .i64 dx)).setCell ⟨g3, 1, none⟩ (.int .i64 dy)).setCell ⟨g3, 2, none⟩ (.int .i64 dz)).heap[g3]? = some (.cells #[.int .i64 dx, .int .i64 dy, .int .i64 dz] 122 (0, 0))) := G.set_three Hz_v3_16.out
        refine hK.out _ _ (fun _ => h_v4) ?_
        clear hK K s0 s1 s2 f0 f1 f2
        generalize ((v3.setCell ⟨g3, 0, none⟩ (.int .i64 dx)).setCell ⟨g3, 1, none⟩ (.int .i64 dy)).setCell ⟨g3, 2, none⟩ (.int .i64 dz) = v4 at *
        refine done_L (by kernel_rfl) ?_ _
        exact ⟨_, Hl_v3_16.out, h_v4, Hz_v4_16.out, ⟨_, _, _, _, _, _, _, _, _, _, _, _, _, _, _, _, rfl⟩⟩
    · go_simp
      have h_v5 : (fun w' => Below W2.heap.size W2 w') (v0.alloc (.cells #[.int .i64 0, .int .i64 0, .int .i64 0] 122)) := h_v0.alloc h_v0.size _
      have Hz_v5_16 : Hid ((v0.alloc (.cells #[.int .i64 0, .int .i64 0, .int .i64 0] 122)).heap[v0.heap.size]? = some (.cells #[.int .i64 0, .int .i64 0, .int .i64 0] 122 (0, 0))) := heap_alloc_new v0 _
      have Hl_v5_16 : Hid (W2.heap.size ≤ v0.heap.size) := h_v0.size
      refine hK.out _ _ (fun _ => h_v5) ?_
      clear hK K
      generalize v0.alloc (.cells #[.int .i64 0, .int .i64 0, .int .i64 0] 122) = v5 at *
      clear h_v0
      generalize v0.heap.size = g5 at *
      refine one_L (i := 4) (by kernel_rfl) rfl (fun K hK => ?_)
      go_simp
      refine (ax v5).mono ?_
      rintro _ w' ⟨rfl, hw'⟩
      subst w'
      refine hK.out _ _ (fun _ => h_v5) ?_
      clear hK K
      refine one_L (i := 14) (by kernel_rfl) rfl (fun K hK => ?_)
      go_simp
      refine (az v5).mono ?_
      rintro _ w' ⟨rfl, hw'⟩
      subst w'
      refine hK.out _ _ (fun _ => h_v5) ?_
      clear hK K
      refine take_L (i := 15) rfl (by kernel_rfl) (by kernel_rfl) (by kernel_rfl) (by kernel_rfl) (fun _ _ _ _ h => h) (by exact h_v5) (fun K hK => ?_)
      go_simp
      refine hK _ ?_
      clear hK K
      refine one_L (i := 17) (by kernel_rfl) rfl (fun K hK => ?_)
      have s2 : v5.cell? ⟨g5, 2, none⟩ = some (.int .i64 0) := (cell_of_row v5 _ 2 _ 122 (0, 0) Hz_v5_16.out).trans rfl
      have f2 : v5.frozen? ⟨g5, 2, none⟩ = false := frozen_of_row v5 _ 2 _ 122 Hz_v5_16.out
      have s1 : v5.cell? ⟨g5, 1, none⟩ = some (.int .i64 0) := (cell_of_row v5 _ 1 _ 122 (0, 0) Hz_v5_16.out).trans rfl
      have f1 : v5.frozen? ⟨g5, 1, none⟩ = false := frozen_of_row v5 _ 1 _ 122 Hz_v5_16.out
      have s0 : v5.cell? ⟨g5, 0, none⟩ = some (.int .i64 0) := (cell_of_row v5 _ 0 _ 122 (0, 0) Hz_v5_16.out).trans rfl
      have f0 : v5.frozen? ⟨g5, 0, none⟩ = false := frozen_of_row v5 _ 0 _ 122 Hz_v5_16.out
      go_simp
      have h_v6 : (fun w' => Below W2.heap.size W2 w') (((v5.setCell ⟨g5, 0, none⟩ (.int .i64 dx)).setCell ⟨g5, 1, none⟩ (.int .i64 dy)).setCell ⟨g5, 2, none⟩ (.int .i64 dz)) := G.below_set3 h_v5 Hl_v5_16.out
      have Hz_v6_16 : Hid ((((v5.setCell ⟨g5, 0, none⟩ (.int .i64 dx)).setCell ⟨g5, 1, none⟩ (.int .i64 dy)).setCell ⟨g5, 2, none⟩ (.int .i64 dz)).heap[g5]? = some (.cells #[.int .i64 dx, .int .i64 dy, .int .i64 dz] 122 (0, 0))) := G.set_three Hz_v5_16.out
      refine hK.out _ _ (fun _ => h_v6) ?_
      clear hK K s0 s1 s2 f0 f1 f2
      generalize ((v5.setCell ⟨g5, 0, none⟩ (.int .i64 dx)).setCell ⟨g5, 1, none⟩ (.int .i64 dy)).setCell ⟨g5, 2, none⟩ (.int .i64 dz) = v6 at *
      refine done_L (by kernel_rfl) ?_ _
      exact ⟨_, Hl_v5_16.out, h_v6, Hz_v6_16.out, ⟨_, _, _, _, _, _, _, _, _, _, _, _, _, _, _, _, rfl⟩⟩
  rintro e a' W3 h
  cases e with
  | normal =>
    obtain ⟨gs, hgs, hb3, hz3, u14, u15, u16, u17, u18, u19, u20, u21, u22, u23, u24, u25, u26, u27, u28, u29, rfl⟩ := h
    have HB3 : Hid (Below w.heap.size w W3) := HB.out.trans (hb3.mono HB.out.size)
    have c0 : W3.cell? ⟨gs, 0, none⟩ = some (.int .i64 dx) := (cell_of_row W3 _ 0 _ 122 (0, 0) hz3).trans rfl
    have c1 : W3.cell? ⟨gs, 1, none⟩ = some (.int .i64 dy) := (cell_of_row W3 _ 1 _ 122 (0, 0) hz3).trans rfl
    have c2 : W3.cell? ⟨gs, 2, none⟩ = some (.int .i64 dz) := (cell_of_row W3 _ 2 _ 122 (0, 0) hz3).trans rfl
    have hlt := (Array.getElem?_eq_some_iff.1 hz3).1
    clear HB hgs hb3 hz3 c00 c01 c02 c10 c11 c12 ax az wY'
    have ta0 : ∀ w, (Instr.typeAssert (.iface 128 (soilV X Z H Bd)) 70 126 true).run Try.prog w = .ok (.tuple #[.agg #[.int .i64 0, .int .i64 0, .int .i64 0, .int .i64 0], .bool false]) w := fun _ => by kernel_rfl
    have ta1 : ∀ w, (Instr.typeAssert (.iface 128 (soilV X Z H Bd)) 70 128 true).run Try.prog w = .ok (.tuple #[soilV X Z H Bd, .bool true]) w := fun _ => by kernel_rfl
    have HB4 : Hid (Below w.heap.size w (W3.alloc (.cells #[.int .i64 X, .int .i64 Z, .int .i64 H, .int .i64 Bd] 128))) := HB3.out.alloc HB3.out.size _
    go_wp2_with (go_at_call 67; refine (hp _).mono ?_; rintro _ W4 ⟨rfl, hb4⟩)
    exact HP.out _ _ rfl (HB4.out.trans (hb4.mono HB4.out.size))
  | ret => exact h.elim
  | exit id => exact h.elim
  | goto t => exact h.elim
  | panic ch => exact h.elim
  | outgrown => exact h.elim

set_option maxRecDepth 100000 in
set_option maxHeartbeats 4000000 in
theorem claim_tree (X Z H Bd l x y z k : Int) (w : World) (bx : Far 1000 x) (by_ : Far 1000 y) (bz : Far 1000 z) (bX : Far 1000 X) (bZ : Far 1000 Z) (bH : Far 1000 H) (bl : 1 ≤ l ∧ l ≤ 100) : Calls Try.prog 47 #[.iface 130 (treeV X Z H Bd l), posV x y z, .int .i64 k] w fun e w' => e = .returned (.int .i64 ((clV 2 (absI (x - X)) (absI (z - Z)) (y - H) l (absI (y - H - l)) k).getD 16)) ∧ Below w.heap.size w w' := by
  obtain ⟨Post, hPost⟩ : ∃ Post : Ending → World → Prop, Post = fun e w' => e = .returned (.int .i64 ((clV 2 (absI (x - X)) (absI (z - Z)) (y - H) l (absI (y - H - l)) k).getD 16)) ∧ Below w.heap.size w w' := ⟨_, rfl⟩
  rw [← hPost]
  have HP : Hid (∀ v w', (clV 2 (absI (x - X)) (absI (z - Z)) (y - H) l (absI (y - H - l)) k).getD 16 = v → Below w.heap.size w w' → Post (.returned (.int .i64 v)) w') := fun v w' h1 h2 => by rw [hPost, h1]; exact ⟨rfl, h2⟩
  clear hPost
  have hm : ∀ w, (method 281 130 (treeV X Z H Bd l) "outcrop/build.foot").run Try.prog w = .ok (123, soilV X Z H Bd) w := fun _ => by kernel_rfl
  have hf := fun w => foot_c X Z H Bd w
  have ax := fun w => away_c x X w (by unfold Far at *; omega) (by unfold Far at *; omega)
  have az := fun w => away_c z Z w (by unfold Far at *; omega) (by unfold Far at *; omega)
  unfold Far at bx by_ bz bX bZ bH
  have wY : IntKind.i64.wrap (y - H) = y - H := by rw [IntKind.wrap_i64]; omega
  have rx : 0 ≤ absI (x - X) ∧ absI (x - X) ≤ 2000 := by unfold absI; split <;> omega
  have rz : 0 ≤ absI (z - Z) ∧ absI (z - Z) ≤ 2000 := by unfold absI; split <;> omega
  have ry : Far 1000000 (y - H) := by unfold Far; omega
  clear bx by_ bz bX bZ bH
  generalize absI (x - X) = dx at *
  generalize absI (z - Z) = dz at *
  obtain ⟨dy, hdy⟩ : ∃ d, y - H = d := ⟨_, rfl⟩
  rw [hdy] at wY HP ry
  have wY' : IntKind.i64.wrap (y - H) = dy := by rw [hdy]; exact wY
  clear hdy wY
  have hp := fun w => tree_c X Z H Bd l dx dy dz w (by omega) (by omega) ry bl
  clear rx rz ry
  go_enter Try.func47, Try.ntmps47
  go_wp2_with (go_at_call 123; refine (hf _).mono ?_; rintro _ W1 ⟨rfl, hb1⟩)
  obtain ⟨W2, hW2⟩ : ∃ W2, W2 = W1.alloc (.cells #[.int .i64 X, .int .i64 H, .int .i64 Z] 52) := ⟨_, rfl⟩
  have hb0 : Below w.heap.size w (w.alloc (.cells #[.int .i64 x, .int .i64 y, .int .i64 z] 52)) := (Below.refl _ _).alloc (Nat.le_refl _) _
  have hbW : Below w.heap.size w W1 := hb0.trans (hb1.mono hb0.size)
  have HB : Hid (Below w.heap.size w W2) := by rw [hW2]; exact hbW.alloc hbW.size _
  have p0 : W1.heap[w.heap.size]? = some (.cells #[.int .i64 x, .int .i64 y, .int .i64 z] 52 (0, 0)) := (hb1.block _ (by simp)).trans (heap_alloc_new w _)
  have p0' : W2.heap[w.heap.size]? = some (.cells #[.int .i64 x, .int .i64 y, .int .i64 z] 52 (0, 0)) := by rw [hW2]; exact (heap_alloc_old _ _ (Array.getElem?_eq_some_iff.1 p0).1).trans p0
  have p1 : W2.heap[W1.heap.size]? = some (.cells #[.int .i64 X, .int .i64 H, .int .i64 Z] 52 (0, 0)) := by rw [hW2]; exact heap_alloc_new W1 _
  rw [← hW2]
  clear hW2 hb0 hbW hb1 p0 hm hf
  generalize W1.heap.size = gf at *
  have c00 : W2.cell? ⟨w.heap.size, 0, none⟩ = some (.int .i64 x) := (cell_of_row W2 _ 0 _ 52 (0, 0) p0').trans rfl
  have c01 : W2.cell? ⟨w.heap.size, 1, none⟩ = some (.int .i64 y) := (cell_of_row W2 _ 1 _ 52 (0, 0) p0').trans rfl
  have c02 : W2.cell? ⟨w.heap.size, 2, none⟩ = some (.int .i64 z) := (cell_of_row W2 _ 2 _ 52 (0, 0) p0').trans rfl
  have c10 : W2.cell? ⟨gf, 0, none⟩ = some (.int .i64 X) := (cell_of_row W2 _ 0 _ 52 (0, 0) p1).trans rfl
  have c11 : W2.cell? ⟨gf, 1, none⟩ = some (.int .i64 H) := (cell_of_row W2 _ 1 _ 52 (0, 0) p1).trans rfl
  have c12 : W2.cell? ⟨gf, 2, none⟩ = some (.int .i64 Z) := (cell_of_row W2 _ 2 _ 52 (0, 0) p1).trans rfl
  clear p0' p1
  refine wp_mono (Q := onlyN fun a' w' => ∃ gs, W2.heap.size ≤ gs ∧ Below W2.heap.size W2 w' ∧ w'.heap[gs]? = some (.cells #[.int .i64 dx, .int .i64 dy, .int .i64 dz] 122 (0, 0)) ∧ ∃ u14 u15 u16 u17 u18 u19 u20 u21 u22 u23 u24 u25 u26 u27 u28 u29, a' = { tmps := #[.iface 130 (treeV X Z H Bd l), posV x y z, .int .i64 k, undef, Value.pointer (some { block := w.heap.size, off := 0 }), undef, .int .i64 0, Value.pointer (some { block := gf, off := 0 }), Value.pointer (some { block := gs, off := 0 }), undef, undef, undef, .iface 130 (treeV X Z H Bd l), posV X H Z, u14, u15, u16, u17, u18, u19, u20, u21, u22, u23, u24, u25, u26, u27, u28, u29, undef, undef, undef, undef, undef, undef, undef, undef, undef, undef, undef, undef, undef, undef, undef, undef, undef, undef, undef, undef, undef], defers := [] }) ?_ ?_
  · clear HP HB hp
    refine region_L (fun w' => Below W2.heap.size W2 w') 30 (by kernel_rfl) ?_
    have h_v0 : (fun w' => Below W2.heap.size W2 w') W2.drew := (Below.refl _ W2).drew
    generalize W2.drew = v0 at *
    have hne : Nonempty (Sub (fun w' => Below W2.heap.size W2 w')) := ⟨⟨_, h_v0⟩⟩
    have k00 : ∀ s : Sub (fun w' => Below W2.heap.size W2 w'), s.w.cell? ⟨w.heap.size, 0, none⟩ = some (.int .i64 x) := fun s => cell_below c00 s.ok
    have k01 : ∀ s : Sub (fun w' => Below W2.heap.size W2 w'), s.w.cell? ⟨w.heap.size, 1, none⟩ = some (.int .i64 y) := fun s => cell_below c01 s.ok
    have k02 : ∀ s : Sub (fun w' => Below W2.heap.size W2 w'), s.w.cell? ⟨w.heap.size, 2, none⟩ = some (.int .i64 z) := fun s => cell_below c02 s.ok
    have k10 : ∀ s : Sub (fun w' => Below W2.heap.size W2 w'), s.w.cell? ⟨gf, 0, none⟩ = some (.int .i64 X) := fun s => cell_below c10 s.ok
    have k11 : ∀ s : Sub (fun w' => Below W2.heap.size W2 w'), s.w.cell? ⟨gf, 1, none⟩ = some (.int .i64 H) := fun s => cell_below c11 s.ok
    have k12 : ∀ s : Sub (fun w' => Below W2.heap.size W2 w'), s.w.cell? ⟨gf, 2, none⟩ = some (.int .i64 Z) := fun s => cell_below c12 s.ok
    clear c00 c01 c02 c10 c11 c12
    refine take_L (i := 0) rfl (by kernel_rfl) (by kernel_rfl) (by kernel_rfl) (by kernel_rfl) (fun _ _ _ _ h => h) (by exact h_v0) (fun K hK => ?_)
    go_simp
    refine hK _ ?_
    clear hK K
    refine take_L (i := 1) rfl (by kernel_rfl) (by kernel_rfl) (by kernel_rfl) (by kernel_rfl) (fun _ _ _ _ h => h) (by exact h_v0) (fun K hK => ?_)
    go_simp
    refine hK _ ?_
    clear hK K
    refine take_L (i := 2) rfl (by kernel_rfl) (by kernel_rfl) (by kernel_rfl) (by kernel_rfl) (fun _ _ _ _ h => h) (by exact h_v0) (fun K hK => ?_)
    go_simp
    refine hK _ ?_
    clear hK K
    refine take_L (i := 3) rfl (by kernel_rfl) (by kernel_rfl) (by kernel_rfl) (by kernel_rfl) (fun _ _ _ _ h => h) (by exact h_v0) (fun K hK => ?_)
    go_simp
    refine hK _ ?_
    clear hK K
    refine take_L (i := 5) rfl (by kernel_rfl) (by kernel_rfl) (by kernel_rfl) (by kernel_rfl) (fun _ _ _ _ h => h) (by exact h_v0) (fun K hK => ?_)
    go_simp
    refine hK _ ?_
    clear hK K
    refine take_L (i := 6) rfl (by kernel_rfl) (by kernel_rfl) (by kernel_rfl) (by kernel_rfl) (fun _ _ _ _ h => h) (by exact h_v0) (fun K hK => ?_)
    go_simp
    refine hK _ ?_
    clear hK K
    refine take_L (i := 7) rfl (by kernel_rfl) (by kernel_rfl) (by kernel_rfl) (by kernel_rfl) (fun _ _ _ _ h => h) (by exact h_v0) (fun K hK => ?_)
    go_simp
    refine hK _ ?_
    clear hK K
    refine take_L (i := 8) rfl (by kernel_rfl) (by kernel_rfl) (by kernel_rfl) (by kernel_rfl) (fun _ _ _ _ h => h) (by exact h_v0) (fun K hK => ?_)
    go_simp
    refine hK _ ?_
    clear hK K
    refine take_L (i := 9) rfl (by kernel_rfl) (by kernel_rfl) (by kernel_rfl) (by kernel_rfl) (fun _ _ _ _ h => h) (by exact h_v0) (fun K hK => ?_)
    go_simp
    refine hK _ ?_
    clear hK K
    refine take_L (i := 10) rfl (by kernel_rfl) (by kernel_rfl) (by kernel_rfl) (by kernel_rfl) (fun _ _ _ _ h => h) (by exact h_v0) (fun K hK => ?_)
    go_simp
    refine hK _ ?_
    clear hK K
    refine take_L (i := 11) rfl (by kernel_rfl) (by kernel_rfl) (by kernel_rfl) (by kernel_rfl) (fun _ _ _ _ h => h) (by exact h_v0) (fun K hK => ?_)
    go_simp
    refine hK _ ?_
    clear hK K
    refine take_L (i := 12) rfl (by kernel_rfl) (by kernel_rfl) (by kernel_rfl) (by kernel_rfl) (fun _ _ _ _ h => h) (by exact h_v0) (fun K hK => ?_)
    go_simp
    refine hK _ ?_
    clear hK K
    refine take_L (i := 13) rfl (by kernel_rfl) (by kernel_rfl) (by kernel_rfl) (by kernel_rfl) (fun _ _ _ _ h => h) (by exact h_v0) (fun K hK => ?_)
    go_simp
    refine hK _ ?_
    clear hK K
    refine two_L (i := 4) (j := 16) (by kernel_rfl) rfl rfl (fun K hK => ?_) (fun K hK => ?_)
    · go_simp
      refine (ax v0).mono ?_
      rintro _ w' ⟨rfl, hw'⟩
      subst w'
      refine hK.out _ _ (fun _ => h_v0) ?_
      clear hK K
      refine two_L (i := 14) (j := 16) (by kernel_rfl) rfl rfl (fun K hK => ?_) (fun K hK => ?_)
      · go_simp
        refine (az v0).mono ?_
        rintro _ w' ⟨rfl, hw'⟩
        subst w'
        refine hK.out _ _ (fun _ => h_v0) ?_
        clear hK K
        refine take_L (i := 15) rfl (by kernel_rfl) (by kernel_rfl) (by kernel_rfl) (by kernel_rfl) (fun _ _ _ _ h => h) (by exact h_v0) (fun K hK => ?_)
        go_simp
        refine hK _ ?_
        clear hK K
        refine one_L (i := 16) (by kernel_rfl) rfl (fun K hK => ?_)
        go_simp
        have h_v1 : (fun w' => Below W2.heap.size W2 w') (v0.alloc (.cells #[.int .i64 0, .int .i64 0, .int .i64 0] 122)) := h_v0.alloc h_v0.size _
        have Hz_v1_16 : Hid ((v0.alloc (.cells #[.int .i64 0, .int .i64 0, .int .i64 0] 122)).heap[v0.heap.size]? = some (.cells #[.int .i64 0, .int .i64 0, .int .i64 0] 122 (0, 0))) := heap_alloc_new v0 _
        have Hl_v1_16 : Hid (W2.heap.size ≤ v0.heap.size) := h_v0.size
        refine hK.out _ _ (fun _ => h_v1) ?_
        clear hK K
        generalize v0.alloc (.cells #[.int .i64 0, .int .i64 0, .int .i64 0] 122) = v1 at *
        clear h_v0
        generalize v0.heap.size = g1 at *
        refine one_L (i := 17) (by kernel_rfl) rfl (fun K hK => ?_)
        have s2 : v1.cell? ⟨g1, 2, none⟩ = some (.int .i64 0) := (cell_of_row v1 _ 2 _ 122 (0, 0) Hz_v1_16.out).trans rfl
        have f2 : v1.frozen? ⟨g1, 2, none⟩ = false := frozen_of_row v1 _ 2 _ 122 Hz_v1_16.out
        have s1 : v1.cell? ⟨g1, 1, none⟩ = some (.int .i64 0) := (cell_of_row v1 _ 1 _ 122 (0, 0) Hz_v1_16.out).trans rfl
        have f1 : v1.frozen? ⟨g1, 1, none⟩ = false := frozen_of_row v1 _ 1 _ 122 Hz_v1_16.out
        have s0 : v1.cell? ⟨g1, 0, none⟩ = some (.int .i64 0) := (cell_of_row v1 _ 0 _ 122 (0, 0) Hz_v1_16.out).trans rfl
        have f0 : v1.frozen? ⟨g1, 0, none⟩ = false := frozen_of_row v1 _ 0 _ 122 Hz_v1_16.out
        go_simp
        have h_v2 : (fun w' => Below W2.heap.size W2 w') (((v1.setCell ⟨g1, 0, none⟩ (.int .i64 dx)).setCell ⟨g1, 1, none⟩ (.int .i64 dy)).setCell ⟨g1, 2, none⟩ (.int .i64 dz)) := G.below_set3 h_v1 Hl_v1_16.out
        have Hz_v2_16 : Hid ((((v1.setCell ⟨g1, 0, none⟩ (.int .i64 dx)).setCell ⟨g1, 1, none⟩ (.int .i64 dy)).setCell ⟨g1, 2, none⟩ (.int .i64 dz)).heap[g1]? = some (.cells #[.int .i64 dx, .int .i64 dy, .int .i64 dz] 122 (0, 0))) := G.set_three Hz_v1_16.out
        refine hK.out _ _ (fun _ => h_v2) ?_
        clear hK K s0 s1 s2 f0 f1 f2
        generalize ((v1.setCell ⟨g1, 0, none⟩ (.int .i64 dx)).setCell ⟨g1, 1, none⟩ (.int .i64 dy)).setCell ⟨g1, 2, none⟩ (.int .i64 dz) = v2 at *
        refine done_L (by kernel_rfl) ?_ _
        exact ⟨_, Hl_v1_16.out, h_v2, Hz_v2_16.out, ⟨_, _, _, _, _, _, _, _, _, _, _, _, _, _, _, _, rfl⟩⟩
      · go_simp
        have h_v3 : (fun w' => Below W2.heap.size W2 w') (v0.alloc (.cells #[.int .i64 0, .int .i64 0, .int .i64 0] 122)) := h_v0.alloc h_v0.size _
        have Hz_v3_16 : Hid ((v0.alloc (.cells #[.int .i64 0, .int .i64 0, .int .i64 0] 122)).heap[v0.heap.size]? = some (.cells #[.int .i64 0, .int .i64 0, .int .i64 0] 122 (0, 0))) := heap_alloc_new v0 _
        have Hl_v3_16 : Hid (W2.heap.size ≤ v0.heap.size) := h_v0.size
        refine hK.out _ _ (fun _ => h_v3) ?_
        clear hK K
        generalize v0.alloc (.cells #[.int .i64 0, .int .i64 0, .int .i64 0] 122) = v3 at *
        clear h_v0
        generalize v0.heap.size = g3 at *
        refine one_L (i := 14) (by kernel_rfl) rfl (fun K hK => ?_)
        go_simp
        refine (az v3).mono ?_
        rintro _ w' ⟨rfl, hw'⟩
        subst w'
        refine hK.out _ _ (fun _ => h_v3) ?_
        clear hK K
        refine take_L (i := 15) rfl (by kernel_rfl) (by kernel_rfl) (by kernel_rfl) (by kernel_rfl) (fun _ _ _ _ h => h) (by exact h_v3) (fun K hK => ?_)
        go_simp
        refine hK _ ?_
        clear hK K
        refine one_L (i := 17) (by kernel_rfl) rfl (fun K hK => ?_)
        have s2 : v3.cell? ⟨g3, 2, none⟩ = some (.int .i64 0) := (cell_of_row v3 _ 2 _ 122 (0, 0) Hz_v3_16.out).trans rfl
        have f2 : v3.frozen? ⟨g3, 2, none⟩ = false := frozen_of_row v3 _ 2 _ 122 Hz_v3_16.out
        have s1 : v3.cell? ⟨g3, 1, none⟩ = some (.int .i64 0) := (cell_of_row v3 _ 1 _ 122 (0, 0) Hz_v3_16.out).trans rfl
        have f1 : v3.frozen? ⟨g3, 1, none⟩ = false := frozen_of_row v3 _ 1 _ 122 Hz_v3_16.out
        have s0 : v3.cell? ⟨g3, 0, none⟩ = some (.int .i64 0) := (cell_of_row v3 _ 0 _ 122 (0, 0) Hz_v3_16.out).trans rfl
        have f0 : v3.frozen? ⟨g3, 0, none⟩ = false := frozen_of_row v3 _ 0 _ 122 Hz_v3_16.out
        go_simp
        have h_v4 : (fun w' => Below W2.heap.size W2 w') (((v3.setCell ⟨g3, 0, none⟩ (.int .i64 dx)).setCell ⟨g3, 1, none⟩ (.int .i64 dy)).setCell ⟨g3, 2, none⟩ (.int .i64 dz)) := G.below_set3 h_v3 Hl_v3_16.out
        have Hz_v4_16 : Hid ((((v3.setCell ⟨g3, 0, none⟩ (.int .i64 dx)).setCell ⟨g3, 1, none⟩ (.int .i64 dy)).setCell ⟨g3, 2, none⟩ (.int .i64 dz)).heap[g3]? = some (.cells #[.int .i64 dx, .int .i64 dy, .int .i64 dz] 122 (0, 0))) := G.set_three Hz_v3_16.out
        refine hK.out _ _ (fun _ => h_v4) ?_
        clear hK K s0 s1 s2 f0 f1 f2
        generalize ((v3.setCell ⟨g3, 0, none⟩ (.int .i64 dx)).setCell ⟨g3, 1, none⟩ (.int .i64 dy)).setCell ⟨g3, 2, none⟩ (.int .i64 dz) = v4 at *
        refine done_L (by kernel_rfl) ?_ _
        exact ⟨_, Hl_v3_16.out, h_v4, Hz_v4_16.out, ⟨_, _, _, _, _, _, _, _, _, _, _, _, _, _, _, _, rfl⟩⟩
    · go_simp
      have h_v5 : (fun w' => Below W2.heap.size W2 w') (v0.alloc (.cells #[.int .i64 0, .int .i64 0, .int .i64 0] 122)) := h_v0.alloc h_v0.size _
      have Hz_v5_16 : Hid ((v0.alloc (.cells #[.int .i64 0, .int .i64 0, .int .i64 0] 122)).heap[v0.heap.size]? = some (.cells #[.int .i64 0, .int .i64 0, .int .i64 0] 122 (0, 0))) := heap_alloc_new v0 _
      have Hl_v5_16 : Hid (W2.heap.size ≤ v0.heap.size) := h_v0.size
      refine hK.out _ _ (fun _ => h_v5) ?_
      clear hK K
      generalize v0.alloc (.cells #[.int .i64 0, .int .i64 0, .int .i64 0] 122) = v5 at *
      clear h_v0
      generalize v0.heap.size = g5 at *
      refine one_L (i := 4) (by kernel_rfl) rfl (fun K hK => ?_)
      go_simp
      refine (ax v5).mono ?_
      rintro _ w' ⟨rfl, hw'⟩
      subst w'
      refine hK.out _ _ (fun _ => h_v5) ?_
      clear hK K
      refine one_L (i := 14) (by kernel_rfl) rfl (fun K hK => ?_)
      go_simp
      refine (az v5).mono ?_
      rintro _ w' ⟨rfl, hw'⟩
      subst w'
      refine hK.out _ _ (fun _ => h_v5) ?_
      clear hK K
      refine take_L (i := 15) rfl (by kernel_rfl) (by kernel_rfl) (by kernel_rfl) (by kernel_rfl) (fun _ _ _ _ h => h) (by exact h_v5) (fun K hK => ?_)
      go_simp
      refine hK _ ?_
      clear hK K
      refine one_L (i := 17) (by kernel_rfl) rfl (fun K hK => ?_)
      have s2 : v5.cell? ⟨g5, 2, none⟩ = some (.int .i64 0) := (cell_of_row v5 _ 2 _ 122 (0, 0) Hz_v5_16.out).trans rfl
      have f2 : v5.frozen? ⟨g5, 2, none⟩ = false := frozen_of_row v5 _ 2 _ 122 Hz_v5_16.out
      have s1 : v5.cell? ⟨g5, 1, none⟩ = some (.int .i64 0) := (cell_of_row v5 _ 1 _ 122 (0, 0) Hz_v5_16.out).trans rfl
      have f1 : v5.frozen? ⟨g5, 1, none⟩ = false := frozen_of_row v5 _ 1 _ 122 Hz_v5_16.out
      have s0 : v5.cell? ⟨g5, 0, none⟩ = some (.int .i64 0) := (cell_of_row v5 _ 0 _ 122 (0, 0) Hz_v5_16.out).trans rfl
      have f0 : v5.frozen? ⟨g5, 0, none⟩ = false := frozen_of_row v5 _ 0 _ 122 Hz_v5_16.out
      go_simp
      have h_v6 : (fun w' => Below W2.heap.size W2 w') (((v5.setCell ⟨g5, 0, none⟩ (.int .i64 dx)).setCell ⟨g5, 1, none⟩ (.int .i64 dy)).setCell ⟨g5, 2, none⟩ (.int .i64 dz)) := G.below_set3 h_v5 Hl_v5_16.out
      have Hz_v6_16 : Hid ((((v5.setCell ⟨g5, 0, none⟩ (.int .i64 dx)).setCell ⟨g5, 1, none⟩ (.int .i64 dy)).setCell ⟨g5, 2, none⟩ (.int .i64 dz)).heap[g5]? = some (.cells #[.int .i64 dx, .int .i64 dy, .int .i64 dz] 122 (0, 0))) := G.set_three Hz_v5_16.out
      refine hK.out _ _ (fun _ => h_v6) ?_
      clear hK K s0 s1 s2 f0 f1 f2
      generalize ((v5.setCell ⟨g5, 0, none⟩ (.int .i64 dx)).setCell ⟨g5, 1, none⟩ (.int .i64 dy)).setCell ⟨g5, 2, none⟩ (.int .i64 dz) = v6 at *
      refine done_L (by kernel_rfl) ?_ _
      exact ⟨_, Hl_v5_16.out, h_v6, Hz_v6_16.out, ⟨_, _, _, _, _, _, _, _, _, _, _, _, _, _, _, _, rfl⟩⟩
  rintro e a' W3 h
  cases e with
  | normal =>
    obtain ⟨gs, hgs, hb3, hz3, u14, u15, u16, u17, u18, u19, u20, u21, u22, u23, u24, u25, u26, u27, u28, u29, rfl⟩ := h
    have HB3 : Hid (Below w.heap.size w W3) := HB.out.trans (hb3.mono HB.out.size)
    have c0 : W3.cell? ⟨gs, 0, none⟩ = some (.int .i64 dx) := (cell_of_row W3 _ 0 _ 122 (0, 0) hz3).trans rfl
    have c1 : W3.cell? ⟨gs, 1, none⟩ = some (.int .i64 dy) := (cell_of_row W3 _ 1 _ 122 (0, 0) hz3).trans rfl
    have c2 : W3.cell? ⟨gs, 2, none⟩ = some (.int .i64 dz) := (cell_of_row W3 _ 2 _ 122 (0, 0) hz3).trans rfl
    have hlt := (Array.getElem?_eq_some_iff.1 hz3).1
    clear HB hgs hb3 hz3 c00 c01 c02 c10 c11 c12 ax az wY'
    have ta0 : ∀ w, (Instr.typeAssert (.iface 130 (treeV X Z H Bd l)) 70 126 true).run Try.prog w = .ok (.tuple #[.agg #[.int .i64 0, .int .i64 0, .int .i64 0, .int .i64 0], .bool false]) w := fun _ => by kernel_rfl
    have ta1 : ∀ w, (Instr.typeAssert (.iface 130 (treeV X Z H Bd l)) 70 128 true).run Try.prog w = .ok (.tuple #[.agg #[.int .i64 0, .int .i64 0, .int .i64 0, .int .i64 0], .bool false]) w := fun _ => by kernel_rfl
    have ta2 : ∀ w, (Instr.typeAssert (.iface 130 (treeV X Z H Bd l)) 70 130 true).run Try.prog w = .ok (.tuple #[treeV X Z H Bd l, .bool true]) w := fun _ => by kernel_rfl
    have HB4 : Hid (Below w.heap.size w (W3.alloc (.cells #[.int .i64 X, .int .i64 Z, .int .i64 H, .int .i64 Bd, .int .i64 l] 130))) := HB3.out.alloc HB3.out.size _
    by_cases hk : k = 0
    · have hk' : (k == 0) = true := by simpa using hk
      rw [hk] at HP
      go_wp2_with (go_at_call 68; refine (hp _).mono ?_; rintro _ W4 ⟨rfl, hb4⟩)
      exact HP.out _ _ rfl (HB4.out.trans (hb4.mono HB4.out.size))
    · have hk' : (k == 0) = false := by simpa using hk
      have R := HP.out 16 _ (by unfold clV; rw [if_neg (by omega), if_neg (by omega), if_pos hk]; rfl) HB4.out
      clear HP HB4
      go_wp2
      exact R
  | ret => exact h.elim
  | exit id => exact h.elim
  | goto t => exact h.elim
  | panic ch => exact h.elim
  | outgrown => exact h.elim
end
section
open C Go.RowKit Go.Shelf

/-- A feature, told from the chunk's corner on. -/
structure Feat where
  s : Nat
  x : Int
  z : Int
  h : Int
  b : Int
  l : Int
def Feat.th (f : Feat) : Thing := ⟨f.s, f.x, f.z, f.h, f.l⟩
def Feat.val (f : Feat) : Value := if f.s = 0 then .iface 126 (soilV f.x f.z f.h f.b) else if f.s = 1 then .iface 128 (soilV f.x f.z f.h f.b) else .iface 130 (treeV f.x f.z f.h f.b f.l)
structure Feat.Ok (f : Feat) : Prop where
  s : f.s < 3
  x : -2 ≤ f.x ∧ f.x < 18
  z : -2 ≤ f.z ∧ f.z < 18
  h : 0 ≤ f.h ∧ f.h < 128
  l : 4 ≤ f.l ∧ f.l ≤ 7
theorem clm_clV (t : Thing) (x y z k : Int) : clm t x y z k = clV t.s (absI (x - t.x)) (absI (z - t.z)) (y - t.h) t.l (absI (y - t.h - t.l)) k := rfl
theorem clV_ruin (dx dz dy l dl k : Int) : clV 0 dx dz dy l dl k = clV 0 dx dz dy 0 0 0 := by simp [clV]
theorem clV_lamp (dx dz dy l dl k : Int) : clV 1 dx dz dy l dl k = clV 1 dx dz dy 0 0 0 := by simp [clV]
theorem claim_c (f : Feat) (hf : f.Ok) (x y z k : Int) (w : World) (bx : Far 1000 x) (by_ : Far 1000 y) (bz : Far 1000 z) : Calls Try.prog 47 #[f.val, posV x y z, .int .i64 k] w fun e w' => e = .returned (.int .i64 ((clm f.th x y z k).getD 16)) ∧ Below w.heap.size w w' := by
  obtain ⟨s, X, Z, H, Bd, l⟩ := f
  obtain ⟨h1, h2, h3, h4, h5⟩ := hf
  simp only [] at h1 h2 h3 h4 h5
  have hs : s = 0 ∨ s = 1 ∨ s = 2 := by omega
  rcases hs with rfl | rfl | rfl
  · have e : clm (Feat.th ⟨0, X, Z, H, Bd, l⟩) x y z k = clV 0 (absI (x - X)) (absI (z - Z)) (y - H) 0 0 0 := by
      exact clV_ruin _ _ _ _ _ _
    rw [e]
    exact claim_ruin X Z H Bd x y z k w bx by_ bz (by unfold Far; omega) (by unfold Far; omega) (by unfold Far; omega)
  · have e : clm (Feat.th ⟨1, X, Z, H, Bd, l⟩) x y z k = clV 1 (absI (x - X)) (absI (z - Z)) (y - H) 0 0 0 := by
      exact clV_lamp _ _ _ _ _ _
    rw [e]
    exact claim_lamp X Z H Bd x y z k w bx by_ bz (by unfold Far; omega) (by unfold Far; omega) (by unfold Far; omega)
  · exact claim_tree X Z H Bd l x y z k w bx by_ bz (by unfold Far; omega) (by unfold Far; omega) (by unfold Far; omega) (by omega)
theorem feat_foot (f : Feat) (hf : f.Ok) (w : World) : ∃ T V, f.val = .iface T V ∧ (method 281 T V "outcrop/build.foot").run Try.prog w = .ok (123, soilV f.x f.z f.h f.b) w := by
  obtain ⟨s, X, Z, H, Bd, l⟩ := f
  have h1 := hf.s
  simp only [] at h1
  have hs : s = 0 ∨ s = 1 ∨ s = 2 := by omega
  rcases hs with rfl | rfl | rfl
  · exact ⟨_, _, rfl, by kernel_rfl⟩
  · exact ⟨_, _, rfl, by kernel_rfl⟩
  · exact ⟨_, _, rfl, by kernel_rfl⟩
end
section
open C

def cX (j : Nat) : Int := (j : Int) % 16
def cY (j : Nat) : Int := (j : Int) / 256
def cZ (j : Nat) : Int := (j : Int) / 16 % 16
theorem cX_bd (j : Nat) : 0 ≤ cX j ∧ cX j ≤ 15 := by unfold cX; omega
theorem cZ_bd (j : Nat) : 0 ≤ cZ j ∧ cZ j ≤ 15 := by unfold cZ; omega
theorem cY_bd {j : Nat} (h : j < 32768) : 0 ≤ cY j ∧ cY j ≤ 127 := by unfold cY; omega
def newO (cs : List Int) (L : List Thing) (j : Nat) : Option Int := fst (cX j) (cY j) (cZ j) (cs.getD j 0) L
def newC (cs : List Int) (L : List Thing) (j : Nat) : Int := (newO cs L j).getD (cs.getD j 0)
def newB (cs : List Int) (L : List Thing) (j : Nat) : Bool := (newO cs L j).isSome
def stC (cs : List Int) (L : List Thing) : List Int := (List.range 32768).map (newC cs L)
def stB (cs : List Int) (L : List Thing) : List Bool := (List.range 32768).map (newB cs L)
def midC (cs : List Int) (L : List Thing) (t : Thing) (vis : List Nat) : List Int := (List.range 32768).map fun j => if j ∈ vis then newC cs (L ++ [t]) j else newC cs L j
def midB (cs : List Int) (L : List Thing) (t : Thing) (vis : List Nat) : List Bool := (List.range 32768).map fun j => if j ∈ vis then newB cs (L ++ [t]) j else newB cs L j
theorem midC_len (cs : List Int) (L : List Thing) (t : Thing) (vis : List Nat) : (midC cs L t vis).length = 32768 := by unfold midC; rw [List.length_map, List.length_range]
theorem midB_len (cs : List Int) (L : List Thing) (t : Thing) (vis : List Nat) : (midB cs L t vis).length = 32768 := by unfold midB; rw [List.length_map, List.length_range]
theorem stC_len (cs : List Int) (L : List Thing) : (stC cs L).length = 32768 := by unfold stC; rw [List.length_map, List.length_range]
theorem stB_len (cs : List Int) (L : List Thing) : (stB cs L).length = 32768 := by unfold stB; rw [List.length_map, List.length_range]
theorem range_getB (f : Nat → Bool) (n j : Nat) (h : j < n) : ((List.range n).map f).getD j false = f j := by
  rw [List.getD_eq_getElem?_getD, List.getElem?_map, List.getElem?_range h]
  rfl
theorem midC_at (cs : List Int) (L : List Thing) (t : Thing) (vis : List Nat) {i : Nat} (h : i < 32768) : (midC cs L t vis).getD i 0 = if i ∈ vis then newC cs (L ++ [t]) i else newC cs L i := range_getI _ _ _ h
theorem midB_at (cs : List Int) (L : List Thing) (t : Thing) (vis : List Nat) {i : Nat} (h : i < 32768) : (midB cs L t vis).getD i false = if i ∈ vis then newB cs (L ++ [t]) i else newB cs L i := range_getB _ _ _ h
theorem newO_add (cs : List Int) (L : List Thing) (t : Thing) (j : Nat) : newO cs (L ++ [t]) j = (newO cs L j).or (clm t (cX j) (cY j) (cZ j) (cs.getD j 0)) := by
  unfold newO
  rw [fst_append, fst_cons, fst_nil]
  cases clm t (cX j) (cY j) (cZ j) (cs.getD j 0) <;> rfl
theorem newC_kind {cs : List Int} (hk : Kinds cs) (L : List Thing) (j : Nat) : 0 ≤ newC cs L j ∧ newC cs L j ≤ 16 := pick_kind (hk.at j)
theorem midC_kinds {cs : List Int} (hk : Kinds cs) (L : List Thing) (t : Thing) (vis : List Nat) : Kinds (midC cs L t vis) := fun x hx => by
  unfold midC at hx
  obtain ⟨j, _, rfl⟩ := List.mem_map.1 hx
  split
  · exact newC_kind hk _ _
  · exact newC_kind hk _ _
theorem stC_kinds {cs : List Int} (hk : Kinds cs) (L : List Thing) : Kinds (stC cs L) := fun x hx => by
  unfold stC at hx
  obtain ⟨j, _, rfl⟩ := List.mem_map.1 hx
  exact newC_kind hk _ _
theorem mid_start (cs : List Int) (L : List Thing) (t : Thing) : midC cs L t [] = stC cs L ∧ midB cs L t [] = stB cs L := by
  unfold midC stC midB stB
  exact ⟨List.map_congr_left fun j _ => if_neg List.not_mem_nil, List.map_congr_left fun j _ => if_neg List.not_mem_nil⟩
theorem mid_keep {cs : List Int} {L : List Thing} {t : Thing} {vis : List Nat} {i : Nat} (h : i ∈ vis ∨ (newC cs (L ++ [t]) i = newC cs L i ∧ newB cs (L ++ [t]) i = newB cs L i)) : midC cs L t (vis ++ [i]) = midC cs L t vis ∧ midB cs L t (vis ++ [i]) = midB cs L t vis := by
  unfold midC midB
  constructor
  · refine List.map_congr_left fun j _ => ?_
    by_cases hj : j ∈ vis
    · rw [if_pos hj, if_pos (List.mem_append.2 (.inl hj))]
    · rw [if_neg hj]
      by_cases e : j = i
      · subst e
        rw [if_pos (List.mem_append.2 (.inr List.mem_cons_self))]
        exact (h.resolve_left hj).1
      · rw [if_neg (fun q => by rcases List.mem_append.1 q with q | q; exact hj q; exact e (List.mem_singleton.1 q))]
  · refine List.map_congr_left fun j _ => ?_
    by_cases hj : j ∈ vis
    · rw [if_pos hj, if_pos (List.mem_append.2 (.inl hj))]
    · rw [if_neg hj]
      by_cases e : j = i
      · subst e
        rw [if_pos (List.mem_append.2 (.inr List.mem_cons_self))]
        exact (h.resolve_left hj).2
      · rw [if_neg (fun q => by rcases List.mem_append.1 q with q | q; exact hj q; exact e (List.mem_singleton.1 q))]
theorem range_set {α : Type} (f g : Nat → α) (n i : Nat) (v : α) (h : ∀ j, j < n → g j = if j = i then v else f j) : (List.range n).map g = ((List.range n).map f).set i v := by
  refine List.ext_getElem (by simp) (fun j h1 h2 => ?_)
  rw [List.length_map, List.length_range] at h1
  rw [List.getElem_set, List.getElem_map, List.getElem_map, List.getElem_range, h j h1]
  by_cases e : j = i
  · rw [if_pos e, if_pos e.symm]
  · rw [if_neg e, if_neg (fun q => e q.symm)]
theorem mid_put {cs : List Int} {L : List Thing} {t : Thing} {vis : List Nat} {i : Nat} (hn : i ∉ vis) : midC cs L t (vis ++ [i]) = (midC cs L t vis).set i (newC cs (L ++ [t]) i) ∧ midB cs L t (vis ++ [i]) = (midB cs L t vis).set i (newB cs (L ++ [t]) i) := by
  unfold midC midB
  constructor
  · refine range_set _ _ _ _ _ (fun j _ => ?_)
    by_cases e : j = i
    · subst e
      rw [if_pos (List.mem_append.2 (.inr List.mem_cons_self)), if_pos rfl]
    · rw [if_neg e]
      by_cases hj : j ∈ vis
      · rw [if_pos hj, if_pos (List.mem_append.2 (.inl hj))]
      · rw [if_neg hj, if_neg (fun q => by rcases List.mem_append.1 q with q | q; exact hj q; exact e (List.mem_singleton.1 q))]
  · refine range_set _ _ _ _ _ (fun j _ => ?_)
    by_cases e : j = i
    · subst e
      rw [if_pos (List.mem_append.2 (.inr List.mem_cons_self)), if_pos rfl]
    · rw [if_neg e]
      by_cases hj : j ∈ vis
      · rw [if_pos hj, if_pos (List.mem_append.2 (.inl hj))]
      · rw [if_neg hj, if_neg (fun q => by rcases List.mem_append.1 q with q | q; exact hj q; exact e (List.mem_singleton.1 q))]
theorem new_more {cs : List Int} {L : List Thing} {t : Thing} {i : Nat} (h : newB cs L i = true ∨ clm t (cX i) (cY i) (cZ i) (cs.getD i 0) = none) : newC cs (L ++ [t]) i = newC cs L i ∧ newB cs (L ++ [t]) i = newB cs L i := by
  unfold newC newB at *
  rw [newO_add]
  rcases e : newO cs L i with _ | u
  · rw [e] at h
    rcases h with h | h
    · cases h
    · rw [h]; exact ⟨rfl, rfl⟩
  · exact ⟨rfl, rfl⟩
theorem new_free {cs : List Int} {L : List Thing} {i : Nat} (h : newB cs L i = false) : newO cs L i = none ∧ newC cs L i = cs.getD i 0 := by
  unfold newC newB at *
  rcases e : newO cs L i with _ | u
  · exact ⟨rfl, rfl⟩
  · rw [e] at h; cases h
theorem step_true {cs : List Int} {L : List Thing} {t : Thing} {vis : List Nat} {i : Nat} (hi : i < 32768) (hb : (midB cs L t vis).getD i false = true) : midC cs L t (vis ++ [i]) = midC cs L t vis ∧ midB cs L t (vis ++ [i]) = midB cs L t vis := by
  refine mid_keep ?_
  by_cases hv : i ∈ vis
  · exact .inl hv
  · rw [midB_at _ _ _ _ hi, if_neg hv] at hb
    exact .inr (new_more (.inl hb))
theorem step_none {cs : List Int} {L : List Thing} {t : Thing} {vis : List Nat} {i : Nat} (hi : i < 32768) (hb : (midB cs L t vis).getD i false = false) (hc : clm t (cX i) (cY i) (cZ i) ((midC cs L t vis).getD i 0) = none) : midC cs L t (vis ++ [i]) = midC cs L t vis ∧ midB cs L t (vis ++ [i]) = midB cs L t vis := by
  refine mid_keep ?_
  by_cases hv : i ∈ vis
  · exact .inl hv
  · rw [midB_at _ _ _ _ hi, if_neg hv] at hb
    rw [midC_at _ _ _ _ hi, if_neg hv, (new_free hb).2] at hc
    exact .inr (new_more (.inr hc))
theorem step_some {cs : List Int} {L : List Thing} {t : Thing} {vis : List Nat} {i : Nat} {v : Int} (hi : i < 32768) (hb : (midB cs L t vis).getD i false = false) (hc : clm t (cX i) (cY i) (cZ i) ((midC cs L t vis).getD i 0) = some v) : midC cs L t (vis ++ [i]) = (midC cs L t vis).set i v ∧ midB cs L t (vis ++ [i]) = (midB cs L t vis).set i true := by
  have hv : i ∉ vis := fun hv => by
    rw [midB_at _ _ _ _ hi, if_pos hv] at hb
    rw [midC_at _ _ _ _ hi, if_pos hv, (new_free hb).2] at hc
    have := (new_free hb).1
    rw [newO_add, hc] at this
    cases e : newO cs L i <;> rw [e] at this <;> cases this
  rw [midB_at _ _ _ _ hi, if_neg hv] at hb
  rw [midC_at _ _ _ _ hi, if_neg hv, (new_free hb).2] at hc
  have e : newO cs (L ++ [t]) i = some v := by rw [newO_add, (new_free hb).1, hc]; rfl
  have h1 : newC cs (L ++ [t]) i = v := by unfold newC; rw [e]; rfl
  have h2 : newB cs (L ++ [t]) i = true := by unfold newB; rw [e]; rfl
  have := mid_put (cs := cs) (L := L) (t := t) hv
  rwa [h1, h2] at this
theorem mid_end {cs : List Int} {L : List Thing} {t : Thing} {vis : List Nat} (h : ∀ j, j < 32768 → j ∉ vis → clm t (cX j) (cY j) (cZ j) (cs.getD j 0) = none) : midC cs L t vis = stC cs (L ++ [t]) ∧ midB cs L t vis = stB cs (L ++ [t]) := by
  unfold midC stC midB stB
  constructor
  · refine List.map_congr_left fun j hj => ?_
    by_cases hv : j ∈ vis
    · rw [if_pos hv]
    · rw [if_neg hv]
      exact (new_more (.inr (h j (List.mem_range.1 hj) hv))).1.symm
  · refine List.map_congr_left fun j hj => ?_
    by_cases hv : j ∈ vis
    · rw [if_pos hv]
    · rw [if_neg hv]
      exact (new_more (.inr (h j (List.mem_range.1 hj) hv))).2.symm
theorem high10 {a b d l : Int} (hl : 4 ≤ l ∧ l ≤ 7) (h1 : 0 ≤ a) (h2 : 0 ≤ b) (q : a ≤ 2 ∧ b ≤ 2 ∧ l - 1 ≤ d ∧ a + b + absI (d - l) ≤ 3) : 0 ≤ d ∧ d ≤ 10 := by
  have := absI_le (n := d - l) (m := 3) (by omega)
  omega
theorem clm_ten {t : Thing} {x y z k v : Int} (hl : 4 ≤ t.l ∧ t.l ≤ 7) (h : clm t x y z k = some v) : 0 ≤ y - t.h ∧ y - t.h ≤ 10 := by
  have h1 := absI_pos (x - t.x)
  have h2 := absI_pos (z - t.z)
  unfold clm at h
  repeat' split at h
  all_goals (first | (cases h; done) | omega | (rename_i q; exact high10 hl h1 h2 q))
theorem clm_box {f : Feat} (hf : f.Ok) {j : Nat} (hj : j < 32768) {k v : Int} (h : clm f.th (cX j) (cY j) (cZ j) k = some v) :
    (max (f.x - 2) 0 ≤ cX j ∧ cX j ≤ min (f.x + 2) 15) ∧ (f.h ≤ cY j ∧ cY j ≤ min (f.h + 10) 127) ∧ (max (f.z - 2) 0 ≤ cZ j ∧ cZ j ≤ min (f.z + 2) 15) := by
  have h1 := clm_near h
  have h2 := clm_ten hf.l h
  have h3 := cX_bd j
  have h4 := cY_bd hj
  have h5 := cZ_bd j
  simp only [Feat.th] at h1 h2
  omega
theorem clm_not16 {t : Thing} {x y z k v : Int} (h : clm t x y z k = some v) : v ≠ 16 := by
  have := clm_made h
  unfold Made at this
  omega
theorem st_nil {cs : List Int} (hl : cs.length = 32768) : stC cs [] = cs := by
  unfold stC
  refine List.ext_getElem (by simp [hl]) (fun j h1 h2 => ?_)
  rw [List.getElem_map, List.getElem_range]
  show cs.getD j 0 = cs[j]
  rw [List.getD_eq_getElem?_getD, List.getElem?_eq_getElem h2]
  rfl
theorem stB_nil (cs : List Int) : stB cs [] = List.replicate 32768 false := by
  unfold stB
  rw [List.eq_replicate_iff]
  refine ⟨by rw [List.length_map, List.length_range], fun b hb => ?_⟩
  obtain ⟨j, _, rfl⟩ := List.mem_map.1 hb
  rfl
/-- A cell's place. -/
def cI (x y z : Int) : Nat := (y * 256 + z * 16 + x).toNat
theorem cI_at {x y z : Int} (hx : 0 ≤ x ∧ x ≤ 15) (hy : 0 ≤ y ∧ y ≤ 127) (hz : 0 ≤ z ∧ z ≤ 15) : cI x y z < 32768 ∧ cX (cI x y z) = x ∧ cY (cI x y z) = y ∧ cZ (cI x y z) = z ∧ ((cI x y z : Nat) : Int) = y * 256 + z * 16 + x := by
  unfold cX cY cZ cI
  omega
theorem cI_of (j : Nat) : cI (cX j) (cY j) (cZ j) = j := by
  unfold cX cY cZ cI
  omega
end
end Go.Proofs.Ytbdjgaagafnfaaa
