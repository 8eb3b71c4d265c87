/-
  Runs of cells, place by place.
-/
import Derived.Test.YtdkihhjhjfkjjaaRdec
namespace Go.Proofs.Ytdkihhjhjfkjjaa
open Go.RowKit

theorem runN_is (c : Int) : ∀ (L : List Int) (j : Nat), (∀ t, t < j → L[t]? = some c) → L[j]? ≠ some c → runN c L = j
  | [], j, h, _ => by
    rcases j with _ | j
    · rfl
    · have := h 0 (by omega)
      simp at this
  | x :: r, j, h, h2 => by
    unfold runN
    rcases j with _ | j
    · rw [if_neg]
      intro e
      apply h2
      simp [e]
    · have h0 := h 0 (by omega)
      have e : x = c := by simpa using h0
      rw [if_pos e, runN_is c r j (fun t ht => by have := h (t + 1) (by omega); simpa using this) (by simpa using h2)]
theorem encR_step (l cs : List Int) (I j : Nat) (hI : I < cs.length) (hj : runN cs[I] (cs.drop I) = j) : 1 ≤ j ∧ encR l (cs.drop I) = putL (j : Int) ++ (plc l cs[I] : Int) :: encR l (cs.drop (I + j)) := by
  have hd : cs.drop I = cs[I] :: cs.drop (I + 1) := List.drop_eq_getElem_cons hI
  have h1 : runN cs[I] (cs.drop I) = runN cs[I] (cs.drop (I + 1)) + 1 := by
    rw [hd]
    conv => lhs; unfold runN
    rw [if_pos rfl]
  refine ⟨by omega, ?_⟩
  rw [hd, encR_cons, List.drop_drop, show I + 1 + runN cs[I] (cs.drop (I + 1)) = I + j by omega, show runN cs[I] (cs.drop (I + 1)) + 1 = j by omega]
theorem putL_short (j : Nat) (h : j ≤ 32768) : (putL (j : Int)).length ≤ 5 := by
  obtain ⟨_, _, h5⟩ := getL_putL (j : Int) (by omega) (by omega) []
  rw [putL_len _ (by omega) (by omega)]
  exact h5
theorem own_two (w : World) (a b : Int) : Own (w.alloc (.cells #[.int .u8 a, .int .u8 b] 5)) w.heap.size (some ⟨w.heap.size, 0, none⟩) 2 [a, b] :=
  ⟨rfl, .inr ⟨w.heap.size, 2, _, rfl, Nat.le_refl _, heap_alloc_new w _, by simp, by simp [maxLen], rfl, rfl⟩⟩
theorem Own.capNil {w : World} {B : Nat} {a : Option Addr} {c : Nat} {ys : List Int} (h : Own w B a c ys) : a = none → c = 0 := by
  intro e
  rcases h.parts with ⟨_, hc, _⟩ | ⟨g, hg, _⟩
  · exact hc
  · rw [e] at hg; cases hg
end Go.Proofs.Ytdkihhjhjfkjjaa
