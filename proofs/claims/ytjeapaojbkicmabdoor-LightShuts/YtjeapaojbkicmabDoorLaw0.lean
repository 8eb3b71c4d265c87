/-
  What the laws share: kinds of a scape; nine chunks out of nine rows; awake.
-/
import Derived.Test.YtjeapaojbkicmabDoorQflo
import Derived.Test.YtjeapaojbkicmabDoorLscape
import Derived.Test.YtjeapaojbkicmabDoorLchs
import Derived.Test.YtjeapaojbkicmabDoorLAwake
set_option maxRecDepth 20000
namespace Go.Proofs.YtjeapaojbkicmabDoor
open C Go.RowKit L

theorem partBd {p : Nat → Int} {F : Nat → Nat → Nat → Int} (h : ∀ x z y, 0 ≤ F x z y ∧ F x z y ≤ 16) (x z y : Nat) : 0 ≤ partF p F x z y ∧ partF p F x z y ≤ 16 := by
  unfold partF boxY
  split
  · omega
  · exact h x z y
theorem partsBd {P : Nat → Nat → Int} {F : Nat → Nat → Nat → Int} (h : ∀ x z y, 0 ≤ F x z y ∧ F x z y ≤ 16) : ∀ (n x z y : Nat), 0 ≤ partsF P F n x z y ∧ partsF P F n x z y ≤ 16
  | 0, x, z, y => h x z y
  | n + 1, x, z, y => partBd (partsBd h n) x z y
theorem sh_kinds {css : List (List Int)} {F : Nat → Nat → Nat → Int} (h : Sh css F) (hF : ∀ x z y, 0 ≤ F x z y ∧ F x z y ≤ 16) : ∀ j, j < 9 → Kinds (css.getD j []) := fun j hj x hx => by
  obtain ⟨k, hk, rfl⟩ := List.getElem_of_mem hx
  have hl := h.len j hj
  have h1 := h.at_ (j % 3 * 16 + k % 16) (j / 3 * 16 + k / 16 % 16) (k / 256) (by omega) (by omega) (by omega)
  have e1 : (j / 3 * 16 + k / 16 % 16) / 16 * 3 + (j % 3 * 16 + k % 16) / 16 = j := by omega
  have e2 : k / 256 * 256 + (j / 3 * 16 + k / 16 % 16) % 16 * 16 + (j % 3 * 16 + k % 16) % 16 = k := by omega
  rw [e1, e2, List.getD_eq_getElem?_getD, List.getElem?_eq_getElem hk] at h1
  have h2 := hF (j % 3 * 16 + k % 16) (j / 3 * 16 + k / 16 % 16) (k / 256)
  rw [← h1] at h2
  exact h2
theorem air_bd (x z y : Nat) : (0 : Int) ≤ (fun _ _ _ => 0 : Nat → Nat → Nat → Int) x z y ∧ (fun _ _ _ => 0 : Nat → Nat → Nat → Int) x z y ≤ 16 := by simp
/-- Nine chunks that were gathered are nine chunks in memory. -/
theorem many_nine {w0 w : World} {av : Option Addr} {cv : Nat} {gs : List Nat} {css : List (List Int)} (h : Many w0 39 51 ptV (fun j => css.getD j []) 9 av cv gs w) (hl : ∀ j, j < 9 → (css.getD j []).length = 32768) (hk : ∀ j, j < 9 → Kinds (css.getD j [])) : ∃ b, av = some ⟨b, 0, none⟩ ∧ N9 w b (fun i => gs.getD i 0) css := by
  obtain ⟨b, e, hr⟩ := h.row (by omega)
  exact ⟨b, e, hr, fun i hi => h.blk i hi, hl, hk⟩
/-! ### awake -/
def awP (i f : Nat) : Int := if i = 0 then [0, 0, 0, 47, 60, 47, 1].getD f 0 else [20, 9, 20, 0, 0, 0, 13].getD f 0
theorem aw_scene {css : List (List Int)} (h : Sh css (partsF awP (fun _ _ _ => 0) 2)) : Scene css := fun x z y hx hz hy => by
  rw [kAt_of css hx hz, h.at_ x z y hx hz hy]
  have e0 : ∀ F : Nat → Nat → Nat → Int, partF (awP 0) F = boxY F 0 48 0 48 0 61 1 := fun F => by rfl
  have e1 : ∀ F : Nat → Nat → Nat → Int, partF (awP 1) F = boxY F 20 21 20 21 9 10 13 := fun F => by rfl
  show partF (awP 1) (partF (awP 0) (fun _ _ _ => 0)) x z y = _
  rw [e1, e0]
  unfold boxY
  by_cases h1 : y ≤ 60
  · rw [if_pos h1]
    by_cases h2 : y = 9 ∧ z = 20 ∧ x = 20
    · rw [if_pos h2, if_pos (by omega)]
    · rw [if_neg h2, if_neg (by omega), if_pos (by omega)]
  · rw [if_neg h1, if_neg (by omega), if_neg (by omega)]
set_option maxRecDepth 1000000 in
set_option maxHeartbeats 4000000 in
theorem awake_c (w : World) (hT : Tabs w) : Calls Tryd.prog 4 #[] w fun e w' => e = .returned (.bool true) ∧ Below w.heap.size w w' := by
  have HT : Hid (Tabs w) := hT
  clear hT
  have hcells : ∀ i, i < 2 → ∀ f, f < 7 → (w.alloc (.cells #[.int .i64 0, .int .i64 0, .int .i64 0, .int .i64 47, .int .i64 60, .int .i64 47, .int .i64 1, .int .i64 20, .int .i64 9, .int .i64 20, .int .i64 0, .int .i64 0, .int .i64 0, .int .i64 13] 36)).cell? ⟨w.heap.size, 0 + i * 7 + f, none⟩ = some (.int .i64 (awP i f)) := fun i hi f hf => by
    rw [cell_of_row _ w.heap.size _ _ 36 (0, 0) (heap_alloc_new w _)]
    have h1 : i = 0 ∨ i = 1 := by omega
    have h2 : f = 0 ∨ f = 1 ∨ f = 2 ∨ f = 3 ∨ f = 4 ∨ f = 5 ∨ f = 6 := by omega
    rcases h1 with rfl | rfl <;> rcases h2 with rfl | rfl | rfl | rfl | rfl | rfl | rfl <;> rfl
  have hb0 : Below w.heap.size w (w.alloc (.cells #[.int .i64 0, .int .i64 0, .int .i64 0, .int .i64 47, .int .i64 60, .int .i64 47, .int .i64 1, .int .i64 20, .int .i64 9, .int .i64 20, .int .i64 0, .int .i64 0, .int .i64 0, .int .i64 13] 36)) := (Below.refl _ _).alloc (Nat.le_refl _) _
  have HB0 : Hid _ := hb0
  have hsc := scape_c (some ⟨w.heap.size, 0, none⟩) w.heap.size 0 2 2 awP _ (by omega) (fun _ => rfl) hcells
  clear hcells hb0
  go_enter Tryd.func4, Tryd.ntmps4
  go_wp2_with fail
  refine hsc.mono ?_
  clear hsc
  rintro _ w1 ⟨b, cv, gs, css, rfl, hG⟩
  have HG : Hid (Sh css (partsF awP (fun _ _ _ => 0) 2) ∧ Below w.heap.size w w1) := ⟨hG.sh, HB0.out.trans (hG.bel.mono HB0.out.size)⟩
  have hch := chunks_c b cv gs (fun _ => 32768) css w1 hG.nr (sh_kinds hG.sh (partsBd air_bd _))
  clear hG HB0
  go_wp2_with fail
  refine hch.mono ?_
  clear hch
  rintro _ w2 ⟨av, c2, gs2, rfl, hM⟩
  obtain ⟨b2, rfl, hN⟩ := many_nine hM HG.out.1.len (sh_kinds HG.out.1 (partsBd air_bd _))
  have HM : Hid (Below w.heap.size w w2 ∧ Tabs w2) := by
    have hb := HG.out.2.trans (hM.bel.mono HG.out.2.size)
    exact ⟨hb, HT.out.on hb⟩
  have hfl := flood_c b2 c2 _ css w2 hN HM.out.2
  have hnn : (binOp .eql 26 (.slice (some ⟨b2, 0, none⟩) 9 c2) (.slice none 0 0)).run Tryd.prog w2 = .ok (.bool false) w2 := by kernel_rfl
  clear hM hN
  go_wp2_with fail
  refine hfl.mono ?_
  clear hfl hnn
  rintro _ w3 ⟨x, y, rfl, hF⟩
  obtain ⟨ra, hra, hsky⟩ := hF.sky
  obtain ⟨rb, hrb, hlamp⟩ := hF.lamp
  obtain ⟨a1, a2, a3, a4, a5⟩ := (aw_scene HG.out.1).awake hsky hlamp
  have c1 := hra.cell (k := 9) (by rw [hsky.1]; omega)
  have c2' := hra.cell (k := 17920) (by rw [hsky.1]; omega)
  have c3 := hrb.cell (k := 17920) (by rw [hlamp.1]; omega)
  have c4 := hrb.cell (k := 2372) (by rw [hlamp.1]; omega)
  have c5 := hrb.cell (k := 2373) (by rw [hlamp.1]; omega)
  rw [a1] at c1
  rw [a2] at c2'
  rw [a3] at c3
  rw [a4] at c4
  rw [a5] at c5
  have R : Below w.heap.size w w3 := HM.out.1.trans (hF.bel.mono HM.out.1.size)
  have HR : Hid (Below w.heap.size w w3) := R
  clear hra hrb hsky hlamp a1 a2 a3 a4 a5 R hF HM HG HT
  go_wp2
  go_ret
  exact ⟨rfl, HR.out⟩
end Go.Proofs.YtjeapaojbkicmabDoor
