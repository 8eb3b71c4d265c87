/-
  The closure by which files are sorted, and what slices.SortFunc then leaves.
-/
import Derived.Test.YtjkeejbfipmidaaCmp
import Derived.Test.YtjkeejbfipmidaaShelf
import Derived.Shelf.SlSortCmp.NoneTotal
set_option maxRecDepth 20000
namespace Go.Proofs.Ytjkeejbfipmidaa
open Go.RowKit Go.Maps Go.Sort

/-- Of two files. -/
def cf (x y : Fl) : Int := orI (cmpI x.1 y.1) (cmpI x.2.1 y.2.1) (cmpI x.2.2 y.2.2)
/-- Two boxes. -/
def Two (H : Nat) (x y : Fl) (w : World) : Prop := (w.cell? ⟨H, 0, none⟩ = some (.int .i64 x.1) ∧ w.cell? ⟨H, 1, none⟩ = some (.int .i64 x.2.1) ∧ w.cell? ⟨H, 2, none⟩ = some (.int .i64 x.2.2)) ∧ w.cell? ⟨H + 1, 0, none⟩ = some (.int .i64 y.1) ∧ w.cell? ⟨H + 1, 1, none⟩ = some (.int .i64 y.2.1) ∧ w.cell? ⟨H + 1, 2, none⟩ = some (.int .i64 y.2.2)
theorem two_new (w : World) (x y : Fl) : Two w.heap.size x y ((w.alloc (.cells #[.int .i64 x.1, .int .i64 x.2.1, .int .i64 x.2.2] 38)).alloc (.cells #[.int .i64 y.1, .int .i64 y.2.1, .int .i64 y.2.2] 38)) := by
  have h1 := heap_alloc2_old w (.cells #[.int .i64 x.1, .int .i64 x.2.1, .int .i64 x.2.2] 38) (.cells #[.int .i64 y.1, .int .i64 y.2.1, .int .i64 y.2.2] 38)
  have h2 := heap_alloc2_new w (.cells #[.int .i64 x.1, .int .i64 x.2.1, .int .i64 x.2.2] 38) (.cells #[.int .i64 y.1, .int .i64 y.2.1, .int .i64 y.2.2] 38)
  refine ⟨⟨?_, ?_, ?_⟩, ?_, ?_, ?_⟩
  · rw [cell_of_row _ _ 0 _ 38 (0, 0) h1]; rfl
  · rw [cell_of_row _ _ 1 _ 38 (0, 0) h1]; rfl
  · rw [cell_of_row _ _ 2 _ 38 (0, 0) h1]; rfl
  · rw [cell_of_row _ _ 0 _ 38 (0, 0) h2]; rfl
  · rw [cell_of_row _ _ 1 _ 38 (0, 0) h2]; rfl
  · rw [cell_of_row _ _ 2 _ 38 (0, 0) h2]; rfl
theorem Two.alloc {H : Nat} {x y : Fl} {w : World} (h : Two H x y w) (o : Obj) : Two H x y (w.alloc o) := by
  have k : ∀ b m v, w.cell? ⟨b, m, none⟩ = some v → (w.alloc o).cell? ⟨b, m, none⟩ = some v := fun b m v hv => (((Below.refl w.heap.size w).alloc (Nat.le_refl _) o).cell (p := ⟨b, m, none⟩) (World.block_lt_of_cell? w _ hv)).trans hv
  exact ⟨⟨k _ _ _ h.1.1, k _ _ _ h.1.2.1, k _ _ _ h.1.2.2⟩, k _ _ _ h.2.1, k _ _ _ h.2.2.1, k _ _ _ h.2.2.2⟩

set_option maxHeartbeats 1000000 in
theorem clos_c (x y : Fl) (W : World) : Calls Try.prog 37 #[.agg #[.int .i64 x.1, .int .i64 x.2.1, .int .i64 x.2.2], .agg #[.int .i64 y.1, .int .i64 y.2.1, .int .i64 y.2.2]] W fun e w' => e = .returned (.int .i64 (cf x y)) ∧ ∃ q os', w' = grow (W.drewN q) os' := by
  obtain ⟨Post, hPost⟩ : ∃ Post : Ending → World → Prop, Post = fun e w' => e = .returned (.int .i64 (cf x y)) ∧ ∃ q os', w' = grow (W.drewN q) os' := ⟨_, rfl⟩
  rw [← hPost]
  have HP : Hid (∀ w', (∃ q os', w' = grow (W.drewN q) os') → Post (.returned (.int .i64 (cf x y))) w') := fun w' h => by rw [hPost]; exact ⟨rfl, h⟩
  clear hPost
  have HT := two_new W x y
  have hsz : ((W.alloc (.cells #[.int .i64 x.1, .int .i64 x.2.1, .int .i64 x.2.2] 38)).alloc (.cells #[.int .i64 y.1, .int .i64 y.2.1, .int .i64 y.2.2] 38)).heap.size = W.heap.size + 2 := by rw [World.size_alloc, World.size_alloc]
  have HG : Hid (∃ os', ((W.alloc (.cells #[.int .i64 x.1, .int .i64 x.2.1, .int .i64 x.2.2] 38)).alloc (.cells #[.int .i64 y.1, .int .i64 y.2.1, .int .i64 y.2.2] 38)).drew = grow (W.drewN 1) os') := ⟨_, by rw [alloc_eq_grow, alloc_eq_grow, grow_grow]; rfl⟩
  unfold cf at HP
  obtain ⟨x1, x2, x3⟩ := x
  obtain ⟨y1, y2, y3⟩ := y
  simp only at HP HT hsz HG ⊢
  go_enter Try.func37, Try.ntmps37
  go_upto_region 1 with fail
  have HT' : Hid (Two W.heap.size (x1, x2, x3) (y1, y2, y3) ((W.alloc (.cells #[.int .i64 x1, .int .i64 x2, .int .i64 x3] 38)).alloc (.cells #[.int .i64 y1, .int .i64 y2, .int .i64 y3] 38))) := HT
  clear HT hsz
  generalize (W.alloc (.cells #[.int .i64 x1, .int .i64 x2, .int .i64 x3] 38)).alloc (.cells #[.int .i64 y1, .int .i64 y2, .int .i64 y3] 38) = w0 at *
  generalize W.heap.size = H at *
  go_wp2
  refine region_L (Two H (x1, x2, x3) (y1, y2, y3)) 17 (by kernel_rfl) ?_
  have HT2 : Hid (Two H (x1, x2, x3) (y1, y2, y3) w0.drew) := HT'.out
  clear HT'
  generalize w0.drew = v1 at *
  have hHeld : (Two H (x1, x2, x3) (y1, y2, y3)) _ := HT2.out
  have hne : Nonempty (Sub (Two H (x1, x2, x3) (y1, y2, y3))) := ⟨⟨_, hHeld⟩⟩
  have k0 : ∀ s : Sub (Two H (x1, x2, x3) (y1, y2, y3)), s.w.cell? ⟨H, 0, none⟩ = some (.int .i64 x1) := fun s => s.ok.1.1
  have k1 : ∀ s : Sub (Two H (x1, x2, x3) (y1, y2, y3)), s.w.cell? ⟨H, 1, none⟩ = some (.int .i64 x2) := fun s => s.ok.1.2.1
  have k2 : ∀ s : Sub (Two H (x1, x2, x3) (y1, y2, y3)), s.w.cell? ⟨H, 2, none⟩ = some (.int .i64 x3) := fun s => s.ok.1.2.2
  have k3 : ∀ s : Sub (Two H (x1, x2, x3) (y1, y2, y3)), s.w.cell? ⟨H + 1, 0, none⟩ = some (.int .i64 y1) := fun s => s.ok.2.1
  have k4 : ∀ s : Sub (Two H (x1, x2, x3) (y1, y2, y3)), s.w.cell? ⟨H + 1, 1, none⟩ = some (.int .i64 y2) := fun s => s.ok.2.2.1
  have k5 : ∀ s : Sub (Two H (x1, x2, x3) (y1, y2, y3)), s.w.cell? ⟨H + 1, 2, none⟩ = some (.int .i64 y3) := fun s => s.ok.2.2.2
  refine take_L (i := 0) rfl (by kernel_rfl) (by kernel_rfl) (by kernel_rfl) (by kernel_rfl) (fun _ _ _ _ h => h) (by exact hHeld) (fun K hK => ?_)
  go_simp
  refine hK _ ?_
  clear hK K
  refine take_L (i := 1) rfl (by kernel_rfl) (by kernel_rfl) (by kernel_rfl) (by kernel_rfl) (fun _ _ _ _ h => h) (by exact hHeld) (fun K hK => ?_)
  go_simp
  refine hK _ ?_
  clear hK K
  refine take_L (i := 2) rfl (by kernel_rfl) (by kernel_rfl) (by kernel_rfl) (by kernel_rfl) (fun _ _ _ _ h => h) (by exact hHeld) (fun K hK => ?_)
  go_simp
  refine hK _ ?_
  clear hK K
  refine take_L (i := 3) rfl (by kernel_rfl) (by kernel_rfl) (by kernel_rfl) (by kernel_rfl) (fun _ _ _ _ h => h) (by exact hHeld) (fun K hK => ?_)
  go_simp
  refine hK _ ?_
  clear hK K
  refine take_L (i := 5) rfl (by kernel_rfl) (by kernel_rfl) (by kernel_rfl) (by kernel_rfl) (fun _ _ _ _ h => h) (by exact hHeld) (fun K hK => ?_)
  go_simp
  refine hK _ ?_
  clear hK K
  refine take_L (i := 6) rfl (by kernel_rfl) (by kernel_rfl) (by kernel_rfl) (by kernel_rfl) (fun _ _ _ _ h => h) (by exact hHeld) (fun K hK => ?_)
  go_simp
  refine hK _ ?_
  clear hK K
  refine take_L (i := 7) rfl (by kernel_rfl) (by kernel_rfl) (by kernel_rfl) (by kernel_rfl) (fun _ _ _ _ h => h) (by exact hHeld) (fun K hK => ?_)
  go_simp
  refine hK _ ?_
  clear hK K
  refine take_L (i := 8) rfl (by kernel_rfl) (by kernel_rfl) (by kernel_rfl) (by kernel_rfl) (fun _ _ _ _ h => h) (by exact hHeld) (fun K hK => ?_)
  go_simp
  refine hK _ ?_
  clear hK K
  refine take_L (i := 10) rfl (by kernel_rfl) (by kernel_rfl) (by kernel_rfl) (by kernel_rfl) (fun _ _ _ _ h => h) (by exact hHeld) (fun K hK => ?_)
  go_simp
  refine hK _ ?_
  clear hK K
  refine take_L (i := 11) rfl (by kernel_rfl) (by kernel_rfl) (by kernel_rfl) (by kernel_rfl) (fun _ _ _ _ h => h) (by exact hHeld) (fun K hK => ?_)
  go_simp
  refine hK _ ?_
  clear hK K
  refine take_L (i := 12) rfl (by kernel_rfl) (by kernel_rfl) (by kernel_rfl) (by kernel_rfl) (fun _ _ _ _ h => h) (by exact hHeld) (fun K hK => ?_)
  go_simp
  refine hK _ ?_
  clear hK K
  refine take_L (i := 13) rfl (by kernel_rfl) (by kernel_rfl) (by kernel_rfl) (by kernel_rfl) (fun _ _ _ _ h => h) (by exact hHeld) (fun K hK => ?_)
  go_simp
  refine hK _ ?_
  clear hK K
  refine one_L (i := 4) (by kernel_rfl) rfl (fun K hK => ?_)
  go_simp
  refine (cmp_c x1 y1 v1).mono ?_
  rintro _ wq ⟨rfl, hwq⟩
  replace hwq := hwq.symm
  subst hwq
  generalize cmpI x1 y1 = a at *
  replace hHeld : (Two H (x1, x2, x3) (y1, y2, y3)) _ := hHeld
  refine hK.out _ _ (fun _ => hHeld) ?_
  clear hK K
  refine one_L (i := 9) (by kernel_rfl) rfl (fun K hK => ?_)
  go_simp
  refine (cmp_c x2 y2 v1).mono ?_
  rintro _ wq ⟨rfl, hwq⟩
  replace hwq := hwq.symm
  subst hwq
  generalize cmpI x2 y2 = b at *
  replace hHeld : (Two H (x1, x2, x3) (y1, y2, y3)) _ := hHeld
  refine hK.out _ _ (fun _ => hHeld) ?_
  clear hK K
  refine one_L (i := 14) (by kernel_rfl) rfl (fun K hK => ?_)
  go_simp
  refine (cmp_c x3 y3 v1).mono ?_
  rintro _ wq ⟨rfl, hwq⟩
  replace hwq := hwq.symm
  subst hwq
  generalize cmpI x3 y3 = c at *
  replace hHeld : (Two H (x1, x2, x3) (y1, y2, y3)) _ := hHeld
  refine hK.out _ _ (fun _ => hHeld) ?_
  clear hK K
  refine one_L (i := 15) (by kernel_rfl) rfl (fun K hK => ?_)
  go_simp
  have hA := heap_alloc_new v1 (.cells #[.int .i64 a, .int .i64 b, .int .i64 c] 3)
  have q0 : (v1.alloc (.cells #[.int .i64 a, .int .i64 b, .int .i64 c] 3)).cell? ⟨v1.heap.size, 0, none⟩ = some (.int .i64 a) := by rw [cell_of_row _ _ 0 _ 3 (0, 0) hA]; rfl
  have q1 : (v1.alloc (.cells #[.int .i64 a, .int .i64 b, .int .i64 c] 3)).cell? ⟨v1.heap.size, 1, none⟩ = some (.int .i64 b) := by rw [cell_of_row _ _ 1 _ 3 (0, 0) hA]; rfl
  have q2 : (v1.alloc (.cells #[.int .i64 a, .int .i64 b, .int .i64 c] 3)).cell? ⟨v1.heap.size, 2, none⟩ = some (.int .i64 c) := by rw [cell_of_row _ _ 2 _ 3 (0, 0) hA]; rfl
  have hT3 := Two.alloc hHeld (.cells #[.int .i64 a, .int .i64 b, .int .i64 c] 3)
  clear hA HT2
  obtain ⟨v2, hv2⟩ : ∃ v2, v2 = v1.alloc (.cells #[.int .i64 a, .int .i64 b, .int .i64 c] 3) := ⟨_, rfl⟩
  rw [← hv2] at q0 q1 q2 hT3 ⊢
  have HV2 : Hid (v2 = v1.alloc (.cells #[.int .i64 a, .int .i64 b, .int .i64 c] 3)) := hv2
  clear hv2
  replace hHeld : (Two H (x1, x2, x3) (y1, y2, y3)) _ := hT3
  refine hK.out _ _ (fun _ => hHeld) ?_
  clear hK K
  refine one_L (i := 16) (by kernel_rfl) rfl (fun K hK => ?_)
  go_simp
  refine (or_c v1.heap.size a b c v2 q0 q1 q2).mono ?_
  rintro _ wq ⟨rfl, hwq⟩
  replace hwq := hwq.symm
  subst hwq
  generalize orI a b c = r at *
  clear q0 q1 q2 hT3
  replace hHeld : (Two H (x1, x2, x3) (y1, y2, y3)) _ := hHeld
  refine hK.out _ _ (fun _ => hHeld) ?_
  clear hK K
  refine one_L (i := 17) (by kernel_rfl) rfl (fun K hK => ?_)
  go_simp
  refine hK.out _ _ (fun h => absurd rfl h) ?_
  clear hK K
  refine done_L (by kernel_rfl) ?_ _
  have R := HP.out v2 (by obtain ⟨os', e⟩ := HG.out; exact ⟨1, _, by rw [HV2.out, e, alloc_eq_grow, grow_grow]⟩)
  clear HP HG hHeld hne k0 k1 k2 k3 k4 k5 HV2
  go_wp2
  exact R
end Go.Proofs.Ytjkeejbfipmidaa
