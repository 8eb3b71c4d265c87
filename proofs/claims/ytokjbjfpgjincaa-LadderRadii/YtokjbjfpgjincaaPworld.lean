/-
  The ladder's World.
-/
import Derived.Test.YtokjbjfpgjincaaLworld
set_option maxRecDepth 20000
namespace Go.Proofs.Ytokjbjfpgjincaa
open Go.RowKit

set_option maxHeartbeats 1000000 in
theorem world_c (w : World) : Calls Try.prog 21 #[] w fun e w' => Below w.heap.size w w' ∧ ∃ a c L, e = .returned (.slice a 6 c) ∧ RgAt w' a L ∧ lad L = worldLad := by
  obtain ⟨Post, hPost⟩ : ∃ Post : Ending → World → Prop, Post = fun e w' => Below w.heap.size w w' ∧ ∃ a c L, e = .returned (.slice a 6 c) ∧ RgAt w' a L ∧ lad L = worldLad := ⟨_, rfl⟩
  rw [← hPost]
  have HP : Hid (∀ a c L w', Below w.heap.size w w' → RgAt w' a L → lad L = worldLad → Post (.returned (.slice a 6 c)) w') := fun a c L w' h1 h2 h3 => by rw [hPost]; exact ⟨h1, a, c, L, rfl, h2, h3⟩
  clear hPost
  obtain ⟨v1, hv1⟩ : ∃ v, v = w.alloc (.cells #[.int .i64 0, .int .i64 0] 45) := ⟨_, rfl⟩
  obtain ⟨v2, hv2⟩ : ∃ v, v = v1.alloc (.cells #[.int .i64 1, .int .i64 1] 45) := ⟨_, rfl⟩
  obtain ⟨v3, hv3⟩ : ∃ v, v = v2.alloc (.cells #[.int .i64 2, .int .i64 0] 45) := ⟨_, rfl⟩
  obtain ⟨v4, hv4⟩ : ∃ v, v = v3.alloc (.cells #[.int .i64 3, .int .i64 0, .int .i64 0, .int .i64 1] 45) := ⟨_, rfl⟩
  obtain ⟨v5, hv5⟩ : ∃ v, v = v4.alloc (.cells #[.int .i64 4, .int .i64 1] 45) := ⟨_, rfl⟩
  have b1 : Below w.heap.size w v1 := hv1 ▸ below_new _ _
  have b2 : Below v1.heap.size v1 v2 := hv2 ▸ below_new _ _
  have b3 : Below v2.heap.size v2 v3 := hv3 ▸ below_new _ _
  have b4 : Below v3.heap.size v3 v4 := hv4 ▸ below_new _ _
  have b5 : Below v4.heap.size v4 v5 := hv5 ▸ below_new _ _
  have r1 : RdAt v1 (some ⟨w.heap.size, 0, none⟩) [(0, 0)] := hv1 ▸ rd_one w 0 0 (by omega) (by omega)
  have r2 : RdAt v2 (some ⟨v1.heap.size, 0, none⟩) [(1, 1)] := hv2 ▸ rd_one v1 1 1 (by omega) (by omega)
  have r3 : RdAt v3 (some ⟨v2.heap.size, 0, none⟩) [(2, 0)] := hv3 ▸ rd_one v2 2 0 (by omega) (by omega)
  have r4 : RdAt v4 (some ⟨v3.heap.size, 0, none⟩) [(3, 0), (0, 1)] := hv4 ▸ rd_two v3
  have r5 : RdAt v5 (some ⟨v4.heap.size, 0, none⟩) [(4, 1)] := hv5 ▸ rd_one v4 4 1 (by omega) (by omega)
  have HRg : Hid _ := rg_six v5 _ _ _ _ _ _ _ _ _ _ 1 1 1 2 1 rfl rfl rfl rfl rfl ((((r1.on b2).on b3).on b4).on b5) (((r2.on b3).on b4).on b5) ((r3.on b4).on b5) (r4.on b5) r5 (by simp) (by simp) (by simp) (by simp) (by simp) (by omega)
  have hb := (((b1.trans (b2.mono b1.size)).trans (b3.mono (Nat.le_trans b1.size b2.size))).trans (b4.mono (Nat.le_trans (Nat.le_trans b1.size b2.size) b3.size))).trans (b5.mono (Nat.le_trans (Nat.le_trans (Nat.le_trans b1.size b2.size) b3.size) b4.size))
  have R := HP.out _ 6 _ _ (hb.alloc hb.size _) HRg.out rfl
  clear HP HRg hb r1 r2 r3 r4 r5 b1 b2 b3 b4 b5
  go_enter Try.func21, Try.ntmps21
  go_wp2_with fail
  subst hv1 hv2 hv3 hv4 hv5
  simp only [World.size_alloc] at R ⊢
  exact R
end Go.Proofs.Ytokjbjfpgjincaa
