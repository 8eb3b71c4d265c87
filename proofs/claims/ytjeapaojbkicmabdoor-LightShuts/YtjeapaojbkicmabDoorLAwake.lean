/-
  Plain: the chapter's example of light: stone up to a height, one lamp within it.
-/
import Derived.Test.YtjeapaojbkicmabDoorLLaws
namespace Go.Proofs.YtjeapaojbkicmabDoor.L

/-- The example's nine chunks. -/
def Scene (css : List (List Int)) : Prop := ∀ x z y, x < 48 → z < 48 → y < 128 → kAt css ((y * 48 + z) * 48 + x) = if y ≤ 60 then (if y = 9 ∧ z = 20 ∧ x = 20 then 13 else 1) else 0
theorem Scene.at {css : List (List Int)} (h : Scene css) {i : Nat} (hi : i < 48 * 48 * 128) : kAt css i = if i / 48 / 48 ≤ 60 then (if i / 48 / 48 = 9 ∧ i / 48 % 48 = 20 ∧ i % 48 = 20 then 13 else 1) else 0 := by
  have := h (i % 48) (i / 48 % 48) (i / 48 / 48) (by omega) (by omega) (by omega)
  rwa [show (i / 48 / 48 * 48 + i / 48 % 48) * 48 + i % 48 = i by omega] at this
/-- The lamp's light stays where it is. -/
theorem Scene.lamp {css : List (List Int)} (h : Scene css) {i v : Nat} (hl : Lit (lampC css) i v) : v ≤ if i = 21716 then 14 else 0 := by
  induction hl using Lit.ind with
  | @own i v hv =>
    have hv' : v ≤ lampN 48 48 128 (kAt css) i := hv
    unfold lampN at hv'
    by_cases hi : i < 48 * 48 * 128
    · rw [if_pos hi, h.at hi] at hv'
      by_cases e : i = 21716
      · rw [if_pos e]
        subst e
        exact hv'
      · rw [if_neg e]
        by_cases h6 : i / 48 / 48 ≤ 60
        · rw [if_pos h6, if_neg (by omega)] at hv'
          exact hv'
        · rw [if_neg h6] at hv'
          exact hv'
    · rw [if_neg hi] at hv'
      omega
  | @comes j i u v _ ha hp hv ih =>
    exfalso
    have h1 := (lampC css).loss_pos i hp
    have hj : j = 21716 := by
      by_cases e : j = 21716
      · exact e
      · rw [if_neg e] at ih; omega
    obtain ⟨hjl, w, _, hw⟩ := ha
    obtain ⟨x, z, y, x', z', y', e1, e2, hb, hb', hc⟩ := nbr_digits (by omega) (by omega) hjl hw
    have hp' : passK (kAt css i) = true := hp
    rw [e2, h x' z' y' hb'.1 hb'.2.1 hb'.2.2, if_pos (by omega), if_neg (by omega)] at hp'
    cases hp'
theorem Scene.awake {css : List (List Int)} (h : Scene css) {a b : List Int} (ha : IsLight (skyC css) a) (hb : IsLight (lampC css) b) :
    a.getD 9 0 = 0 ∧ a.getD 17920 0 = 15 ∧ b.getD 17920 0 = 0 ∧ b.getD 2372 0 = 14 ∧ b.getD 2373 0 = 0 := by
  obtain ⟨_, l, hl, ea⟩ := ha
  obtain ⟨_, m, hm, eb⟩ := hb
  have nA : (skyC css).n = 294912 := rfl
  have nB : (lampC css).n = 294912 := rfl
  have up : ∀ i, i < 294912 → m i ≤ if i = 21716 then 14 else 0 := fun i hi => h.lamp ((hm i (by rw [nB]; exact hi) _).2 (Nat.le_refl _))
  refine ⟨?_, ?_, ?_, ?_, ?_⟩
  · rw [ea 9 (by omega), show mid 9 = 793 by rfl]
    have hk : kAt css 793 = 1 := by rw [h.at (by omega)]; rfl
    have h1 := hl.shut (i := 793) (by rw [nA]; omega) (by show passK (kAt css 793) = false; rw [hk]; rfl)
    have h2 : (skyC css).src 793 = 0 := by
      show skyN 48 48 128 (kAt css) 793 = 0
      unfold skyN
      rw [if_neg]
      rintro ⟨_, ho⟩
      unfold openN at ho
      have := List.all_eq_true.1 ho 0 (List.mem_range.2 (by omega))
      rw [Nat.zero_mul, Nat.add_zero, hk] at this
      cases this
    rw [h1, h2]
    rfl
  · rw [ea 17920 (by omega), show mid 17920 = 162064 by rfl]
    have h1 : 15 ≤ l 162064 := by
      refine (hl 162064 (by rw [nA]; omega) 15).1 (.own ?_)
      show 15 ≤ skyN 48 48 128 (kAt css) 162064
      unfold skyN
      rw [if_pos]
      · exact Nat.le_refl _
      refine ⟨by omega, List.all_eq_true.2 fun t ht => ?_⟩
      have ht := List.mem_range.1 ht
      rw [h.at (by omega), if_neg (by omega)]
      rfl
    have h2 := hl.le (i := 162064) (by rw [nA]; omega)
    omega
  · rw [eb 17920 (by omega), show mid 17920 = 162064 by rfl]
    have := up 162064 (by omega)
    rw [if_neg (by omega)] at this
    omega
  · rw [eb 2372 (by omega), show mid 2372 = 21716 by rfl]
    have h0 := up 21716 (by omega)
    rw [if_pos rfl] at h0
    have h1 : 14 ≤ m 21716 := by
      refine (hm 21716 (by rw [nB]; omega) 14).1 (.own ?_)
      show 14 ≤ lampN 48 48 128 (kAt css) 21716
      unfold lampN
      rw [if_pos (by omega), h.at (by omega)]
      exact Nat.le_refl _
    omega
  · rw [eb 2373 (by omega), show mid 2373 = 21717 by rfl]
    have := up 21717 (by omega)
    rw [if_neg (by omega)] at this
    omega
end Go.Proofs.YtjeapaojbkicmabDoor.L
