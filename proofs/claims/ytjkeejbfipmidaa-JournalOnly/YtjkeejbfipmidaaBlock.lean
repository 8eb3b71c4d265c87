/-
  block: 32 bytes of one.
-/
import Derived.Test.YtjkeejbfipmidaaRread
namespace Go.Proofs.Ytjkeejbfipmidaa
open Go.RowKit

theorem fill_next (j : Nat) (c : Int) (hj : j < 32) : (List.replicate j c ++ List.replicate (32 - j) (0 : Int)).set j c = List.replicate (j + 1) c ++ List.replicate (32 - (j + 1)) 0 := by
  rw [List.set_append_right _ _ (by simp), List.length_replicate, Nat.sub_self, show 32 - j = (32 - (j + 1)) + 1 by omega, List.replicate_succ, List.set_cons_zero, List.replicate_succ', List.append_assoc]
  rfl
theorem block_c (x : Int) (w : World) : Calls Try.prog 23 #[.int .u8 x] w fun e w' => (e = .returned (.slice (some ⟨w.heap.size, 0, none⟩) 32 32) ∧ Row w' w.heap.size (List.replicate 32 x)) ∧ Below w.heap.size w w' := by
  obtain ⟨Post, hPost⟩ : ∃ Post : Ending → World → Prop, Post = fun e w' => (e = .returned (.slice (some ⟨w.heap.size, 0, none⟩) 32 32) ∧ Row w' w.heap.size (List.replicate 32 x)) ∧ Below w.heap.size w w' := ⟨_, rfl⟩
  rw [← hPost]
  have HP : Hid (∀ w', Row w' w.heap.size (List.replicate 32 x) → Below w.heap.size w w' → Post (.returned (.slice (some ⟨w.heap.size, 0, none⟩) 32 32)) w') := fun w' h1 h2 => by rw [hPost]; exact ⟨⟨rfl, h1⟩, h2⟩
  clear hPost
  go_enter Try.func23, Try.ntmps23
  go_wp2_with (at_make; refine wpList_make_bytes w rfl _ _ rfl 32 32 rfl rfl rfl (by omega) ?_; intro w1 HR hb1)
  have Hb1 : Hid (Below w.heap.size w w1) := hb1
  clear hb1
  go_loopw [4] (fun v wr => ∃ (j : Nat), j ≤ 32 ∧ v = .int .i64 (j : Int) ∧ Hid (Row wr w.heap.size (List.replicate j x ++ List.replicate (32 - j) 0)) ∧ Hid (Below w.heap.size w wr)) (fun v _ => 32 - (intOf v).toNat)
  case atStart => exact ⟨0, Nat.zero_le _, rfl, HR, Hb1⟩
  case round =>
    obtain ⟨j, hj, rfl, HJ, Hb⟩ := hrel
    by_cases hlt : j < 32
    · have hlt' : (j : Int) < 32 := by omega
      have c0 := HJ.out.cell j (by simp; omega)
      have f0 := HJ.out.free j
      have HJ2 : Hid (Row (wr.setCell ⟨w.heap.size, j, none⟩ (.int .u8 x)) w.heap.size (List.replicate (j + 1) x ++ List.replicate (32 - (j + 1)) 0)) := by
        have := HJ.out.set j x
        rw [fill_next j x hlt] at this
        exact this
      have Hb2 : Hid (Below w.heap.size w (wr.setCell ⟨w.heap.size, j, none⟩ (.int .u8 x))) := Hb.out.setCell (p := ⟨w.heap.size, j, none⟩) (Nat.le_refl _) _
      clear HJ Hb HR Hb1 HP
      go_wp2
      go_roundw
      case rel => exact ⟨j + 1, by omega, by go_num, HJ2, Hb2⟩
      case measure => simp [intOf]; omega
    · obtain rfl : j = 32 := by omega
      have R := HP.out wr (by have := HJ.out; simpa using this) Hb.out
      clear HJ Hb HR Hb1 HP
      go_wp2
      exact R
end Go.Proofs.Ytjkeejbfipmidaa
