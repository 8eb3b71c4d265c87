/-
  An encoded chunk is bytes.
-/
import Derived.Test.YtdkihhjhjfkjjaaRencq
namespace Go.Proofs.Ytdkihhjhjfkjjaa
open Go.RowKit

theorem runN_most (c : Int) : ∀ L : List Int, runN c L ≤ L.length
  | [] => Nat.le_refl _
  | x :: r => by
    unfold runN
    have := runN_most c r
    split
    · rw [List.length_cons]; omega
    · exact Nat.zero_le _
theorem encR_fit (l : List Int) (hl : l.length ≤ 17) : ∀ (n : Nat) (cs : List Int), cs.length ≤ n → n ≤ 32768 → (∀ x ∈ cs, x ∈ l) → ∀ z ∈ encR l cs, 0 ≤ z ∧ z ≤ 255
  | _, [], _, _, _, z, hz => by simp [encR_nil] at hz
  | 0, _ :: _, h, _, _, _, _ => by simp at h
  | n + 1, c :: r, h, hn, hm, z, hz => by
    have h1 := runN_most c r
    rw [List.length_cons] at h
    rw [encR_cons, List.mem_append, List.mem_cons] at hz
    rcases hz with hz | rfl | hz
    · exact putL_fit _ (by omega) z hz
    · have := plc_lt (hm c (List.mem_cons_self ..))
      omega
    · exact encR_fit l hl n (r.drop (runN c r)) (by rw [List.length_drop]; omega) (by omega) (fun x hx => hm x (List.mem_cons_of_mem _ (List.mem_of_mem_drop hx))) z hz
theorem packTo_fit (l cs : List Int) (w m : Nat) (hf : ∀ i, ∀ p ∈ grpP l cs m i, 0 ≤ p ∧ p < 2 ^ w) (hw : ∀ i, w * (grpP l cs m i).length ≤ 8) : ∀ n, ∀ z ∈ packTo l cs w m n, 0 ≤ z ∧ z ≤ 255
  | 0, z, hz => by simp [packTo] at hz
  | n + 1, z, hz => by
    rw [packTo, List.mem_append, List.mem_singleton] at hz
    rcases hz with hz | rfl
    · exact packTo_fit l cs w m hf hw n z hz
    · exact undig_byte w _ (hf n) (hw n)
theorem grp_most (l cs : List Int) (m i : Nat) : (grpP l cs m i).length ≤ m := by
  unfold grpP
  rw [List.length_map, List.length_take]
  omega
theorem head_fit {cs : List Int} {f : Int} (h0 : 0 ≤ f) (h1 : f ≤ 255) : ∀ z ∈ headL f (pal cs), 0 ≤ z ∧ z ≤ 255 := by
  intro z hz
  have hp := pal_len cs
  unfold headL at hz
  rcases List.mem_cons.1 hz with rfl | hz
  · exact ⟨h0, h1⟩
  · rcases List.mem_cons.1 hz with rfl | hz
    · omega
    · exact palTo_fit cs 17 (Nat.le_refl _) z hz
theorem enc_fit {cs : List Int} (hk : Kinds cs) (hl : cs.length = 32768) : ∀ z ∈ encL cs, 0 ≤ z ∧ z ≤ 255 := by
  intro z hz
  have hm : ∀ x ∈ cs, x ∈ pal cs := fun x hx => mem_pal hk hx
  unfold encL at hz
  split at hz
  · unfold oneL at hz
    rcases List.mem_append.1 hz with hz | hz
    · exact head_fit (by omega) (by omega) z hz
    · exact encR_fit (pal cs) (pal_len cs) 32768 cs (by omega) (by omega) hm z hz
  · unfold twoL at hz
    rcases List.mem_append.1 hz with hz | hz
    · exact head_fit (by omega) (by omega) z hz
    · refine packTo_fit _ _ _ _ (fun i => grp_fit _ _ _ _ _ hm (wid_fit (pal_len cs))) (fun i => ?_) _ z hz
      have h1 := grp_most (pal cs) cs (8 / wid (pal cs).length) i
      refine Nat.le_trans (Nat.mul_le_mul_left _ h1) ?_
      rcases wid_is (pal cs).length with h | h | h | h <;> rw [h] <;> omega
end Go.Proofs.Ytdkihhjhjfkjjaa
