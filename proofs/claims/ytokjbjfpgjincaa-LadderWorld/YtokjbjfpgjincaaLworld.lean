/-
  The document's World.
-/
import Derived.Test.YtokjbjfpgjincaaLawake
set_option maxRecDepth 20000
namespace Go.Proofs.Ytokjbjfpgjincaa
open Go.RowKit

theorem rd_one (w : World) (s q : Int) (hs : 0 ≤ s ∧ s ≤ 16) (hq : 0 ≤ q ∧ q ≤ 16) : RdAt (w.alloc (.cells #[.int .i64 s, .int .i64 q] 45)) (some ⟨w.heap.size, 0, none⟩) [(s, q)] := fun j hj => by
  have hj0 : j = 0 := by simp at hj; omega
  subst hj0
  refine ⟨w.heap.size, 0, rfl, ?_, ?_, ⟨by simp only [List.getElem_cons_zero]; omega, by simp only [List.getElem_cons_zero]; omega⟩, ⟨by simp only [List.getElem_cons_zero]; omega, by simp only [List.getElem_cons_zero]; omega⟩⟩
  · exact (cell_of_row _ _ 0 _ 45 (0, 0) (heap_alloc_new w _)).trans rfl
  · exact (cell_of_row _ _ 1 _ 45 (0, 0) (heap_alloc_new w _)).trans rfl
theorem rd_two (w : World) : RdAt (w.alloc (.cells #[.int .i64 3, .int .i64 0, .int .i64 0, .int .i64 1] 45)) (some ⟨w.heap.size, 0, none⟩) [(3, 0), (0, 1)] := fun j hj => by
  have hj0 : j = 0 ∨ j = 1 := by simp at hj; omega
  rcases hj0 with rfl | rfl
  · exact ⟨w.heap.size, 0, rfl, (cell_of_row _ _ 0 _ 45 (0, 0) (heap_alloc_new w _)).trans rfl, (cell_of_row _ _ 1 _ 45 (0, 0) (heap_alloc_new w _)).trans rfl, ⟨by simp only [List.getElem_cons_zero]; omega, by simp only [List.getElem_cons_zero]; omega⟩, ⟨by simp only [List.getElem_cons_zero]; omega, by simp only [List.getElem_cons_zero]; omega⟩⟩
  · exact ⟨w.heap.size, 0, rfl, (cell_of_row _ _ 2 _ 45 (0, 0) (heap_alloc_new w _)).trans rfl, (cell_of_row _ _ 3 _ 45 (0, 0) (heap_alloc_new w _)).trans rfl, ⟨by simp only [List.getElem_cons_zero, List.getElem_cons_succ]; omega, by simp only [List.getElem_cons_zero, List.getElem_cons_succ]; omega⟩, ⟨by simp only [List.getElem_cons_zero, List.getElem_cons_succ]; omega, by simp only [List.getElem_cons_zero, List.getElem_cons_succ]; omega⟩⟩
theorem rg_six (w : World) (a1 a2 a3 a4 a5 : Option Addr) (r1 r2 r3 r4 r5 : List Rd) (n1 n2 n3 n4 n5 : Nat) (e1 : r1.length = n1) (e2 : r2.length = n2) (e3 : r3.length = n3) (e4 : r4.length = n4) (e5 : r5.length = n5)
    (h1 : RdAt w a1 r1) (h2 : RdAt w a2 r2) (h3 : RdAt w a3 r3) (h4 : RdAt w a4 r4) (h5 : RdAt w a5 r5) (k1 : a1 ≠ none) (k2 : a2 ≠ none) (k3 : a3 ≠ none) (k4 : a4 ≠ none) (k5 : a5 ≠ none)
    (hs : n1 ≤ 16 ∧ n2 ≤ 16 ∧ n3 ≤ 16 ∧ n4 ≤ 16 ∧ n5 ≤ 16) :
    RgAt (w.alloc (.cells #[.slice none 0 0, .slice a1 n1 n1, .slice a2 n2 n2, .slice a3 n3 n3, .slice a4 n4 n4, .slice a5 n5 n5] 43)) (some ⟨w.heap.size, 0, none⟩) [⟨none, 0, []⟩, ⟨a1, n1, r1⟩, ⟨a2, n2, r2⟩, ⟨a3, n3, r3⟩, ⟨a4, n4, r4⟩, ⟨a5, n5, r5⟩] := fun i hi => by
  subst e1 e2 e3 e4 e5
  have hb : Below w.heap.size w (w.alloc (.cells #[.slice none 0 0, .slice a1 r1.length r1.length, .slice a2 r2.length r2.length, .slice a3 r3.length r3.length, .slice a4 r4.length r4.length, .slice a5 r5.length r5.length] 43)) := (Below.refl _ _).alloc (Nat.le_refl _) _
  have hi6 : i = 0 ∨ i = 1 ∨ i = 2 ∨ i = 3 ∨ i = 4 ∨ i = 5 := by simp at hi; omega
  refine ⟨w.heap.size, 0, rfl, ?_⟩
  obtain ⟨s1, s2, s3, s4, s5⟩ := hs
  rcases hi6 with rfl | rfl | rfl | rfl | rfl | rfl
  · exact ⟨(cell_of_row _ _ 0 _ 43 (0, 0) (heap_alloc_new w _)).trans rfl, fun j hj => by simp at hj, fun _ => rfl, by simp⟩
  · exact ⟨(cell_of_row _ _ 1 _ 43 (0, 0) (heap_alloc_new w _)).trans rfl, h1.on hb, fun h => absurd h k1, by simp only [List.getElem_cons_succ, List.getElem_cons_zero]; omega⟩
  · exact ⟨(cell_of_row _ _ 2 _ 43 (0, 0) (heap_alloc_new w _)).trans rfl, h2.on hb, fun h => absurd h k2, by simp only [List.getElem_cons_succ, List.getElem_cons_zero]; omega⟩
  · exact ⟨(cell_of_row _ _ 3 _ 43 (0, 0) (heap_alloc_new w _)).trans rfl, h3.on hb, fun h => absurd h k3, by simp only [List.getElem_cons_succ, List.getElem_cons_zero]; omega⟩
  · exact ⟨(cell_of_row _ _ 4 _ 43 (0, 0) (heap_alloc_new w _)).trans rfl, h4.on hb, fun h => absurd h k4, by simp only [List.getElem_cons_succ, List.getElem_cons_zero]; omega⟩
  · exact ⟨(cell_of_row _ _ 5 _ 43 (0, 0) (heap_alloc_new w _)).trans rfl, h5.on hb, fun h => absurd h k5, by simp only [List.getElem_cons_succ, List.getElem_cons_zero]; omega⟩
theorem below_new (w : World) (o : Obj) : Below w.heap.size w (w.alloc o) := (Below.refl _ _).alloc (Nat.le_refl _) _
set_option maxHeartbeats 1000000 in
theorem rworld_c (w : World) : Calls Try.prog 22 #[] w fun e w' => Below w.heap.size w w' ∧ ∃ a c L, e = .returned (.slice a 6 c) ∧ RgAt w' a L ∧ lad L = worldLad := by
  obtain ⟨Post, hPost⟩ : ∃ Post : Ending → World → Prop, Post = fun e w' => Below w.heap.size w w' ∧ ∃ a c L, e = .returned (.slice a 6 c) ∧ RgAt w' a L ∧ lad L = worldLad := ⟨_, rfl⟩
  rw [← hPost]
  have HP : Hid (∀ a c L w', Below w.heap.size w w' → RgAt w' a L → lad L = worldLad → Post (.returned (.slice a 6 c)) w') := fun a c L w' h1 h2 h3 => by rw [hPost]; exact ⟨h1, a, c, L, rfl, h2, h3⟩
  clear hPost
  obtain ⟨v1, hv1⟩ : ∃ v, v = w.alloc (.cells #[.int .i64 0, .int .i64 0] 45) := ⟨_, rfl⟩
  obtain ⟨v2, hv2⟩ : ∃ v, v = v1.alloc (.cells #[.int .i64 1, .int .i64 1] 45) := ⟨_, rfl⟩
  obtain ⟨v3, hv3⟩ : ∃ v, v = v2.alloc (.cells #[.int .i64 2, .int .i64 0] 45) := ⟨_, rfl⟩
  obtain ⟨v4, hv4⟩ : ∃ v, v = v3.alloc (.cells #[.int .i64 3, .int .i64 0, .int .i64 0, .int .i64 1] 45) := ⟨_, rfl⟩
  obtain ⟨v5, hv5⟩ : ∃ v, v = v4.alloc (.cells #[.int .i64 4, .int .i64 1] 45) := ⟨_, rfl⟩
  have b1 : Below w.heap.size w v1 := hv1 ▸ below_new _ _
  have b2 : Below v1.heap.size v1 v2 := hv2 ▸ below_new _ _
  have b3 : Below v2.heap.size v2 v3 := hv3 ▸ below_new _ _
  have b4 : Below v3.heap.size v3 v4 := hv4 ▸ below_new _ _
  have b5 : Below v4.heap.size v4 v5 := hv5 ▸ below_new _ _
  have r1 : RdAt v1 (some ⟨w.heap.size, 0, none⟩) [(0, 0)] := hv1 ▸ rd_one w 0 0 (by omega) (by omega)
  have r2 : RdAt v2 (some ⟨v1.heap.size, 0, none⟩) [(1, 1)] := hv2 ▸ rd_one v1 1 1 (by omega) (by omega)
  have r3 : RdAt v3 (some ⟨v2.heap.size, 0, none⟩) [(2, 0)] := hv3 ▸ rd_one v2 2 0 (by omega) (by omega)
  have r4 : RdAt v4 (some ⟨v3.heap.size, 0, none⟩) [(3, 0), (0, 1)] := hv4 ▸ rd_two v3
  have r5 : RdAt v5 (some ⟨v4.heap.size, 0, none⟩) [(4, 1)] := hv5 ▸ rd_one v4 4 1 (by omega) (by omega)
  have HRg : Hid _ := rg_six v5 _ _ _ _ _ _ _ _ _ _ 1 1 1 2 1 rfl rfl rfl rfl rfl ((((r1.on b2).on b3).on b4).on b5) (((r2.on b3).on b4).on b5) ((r3.on b4).on b5) (r4.on b5) r5 (by simp) (by simp) (by simp) (by simp) (by simp) (by omega)
  have hb := (((b1.trans (b2.mono b1.size)).trans (b3.mono (Nat.le_trans b1.size b2.size))).trans (b4.mono (Nat.le_trans (Nat.le_trans b1.size b2.size) b3.size))).trans (b5.mono (Nat.le_trans (Nat.le_trans (Nat.le_trans b1.size b2.size) b3.size) b4.size))
  have R := HP.out _ 6 _ _ (hb.alloc hb.size _) HRg.out rfl
  clear HP HRg hb r1 r2 r3 r4 r5 b1 b2 b3 b4 b5
  go_enter Try.func22, Try.ntmps22
  go_wp2_with fail
  subst hv1 hv2 hv3 hv4 hv5
  simp only [World.size_alloc] at R ⊢
  exact R
end Go.Proofs.Ytokjbjfpgjincaa
