/-
  The document's Sky, of the field of nine chunks and of one chunk's.
-/
import Derived.Test.YtjeapaojbkicmaaDoorLlamp
set_option maxRecDepth 20000
namespace Go.Proofs.YtjeapaojbkicmaaDoor
open C Go.RowKit L

/-- The sky over a cell of a column. -/
theorem sky_iff {N : Nat} (hN : 0 < N) (K : Nat → Int) {i y : Nat} (hi : i < N * N) (hy : y < 128) : (skyN N N 128 K (y * (N * N) + i) = 15 ∧ ∀ t, y ≤ t → t < 128 → clearK (K (t * (N * N) + i)) = true) ∨ (skyN N N 128 K (y * (N * N) + i) = 0 ∧ ¬ ∀ t, y ≤ t → t < 128 → clearK (K (t * (N * N) + i)) = true) := by
  have hd : (y * (N * N) + i) / N / N = y := by
    rw [Nat.div_div_eq_div_mul, Nat.mul_comm y, Nat.mul_add_div (Nat.mul_pos hN hN), Nat.div_eq_of_lt hi, Nat.add_zero]
  have hlt : y * (N * N) + i < N * N * 128 := by
    have h1 : (y + 1) * (N * N) ≤ 128 * (N * N) := Nat.mul_le_mul_right _ hy
    rw [Nat.add_mul, Nat.one_mul] at h1
    rw [Nat.mul_comm (N * N) 128]
    omega
  have ho : openN N N 128 K (y * (N * N) + i) = true ↔ ∀ t, y ≤ t → t < 128 → clearK (K (t * (N * N) + i)) = true := by
    unfold openN
    rw [hd, List.all_eq_true]
    constructor
    · intro h t h1 h2
      have := h (t - y) (List.mem_range.2 (by omega))
      rw [show y * (N * N) + i + (t - y) * (N * N) = t * (N * N) + i by
        obtain ⟨d, rfl⟩ : ∃ d, t = y + d := ⟨t - y, by omega⟩
        rw [Nat.add_sub_cancel_left, Nat.add_mul]; omega] at this
      exact this
    · intro h t ht
      rw [List.mem_range] at ht
      have := h (y + t) (by omega) (by omega)
      rw [show (y + t) * (N * N) + i = y * (N * N) + i + t * (N * N) by rw [Nat.add_mul]; omega] at this
      exact this
  unfold skyN
  by_cases h : openN N N 128 K (y * (N * N) + i) = true
  · exact .inl ⟨if_pos ⟨hlt, h⟩, ho.1 h⟩
  · exact .inr ⟨if_neg (fun x => h x.2), fun x => h (ho.2 x)⟩
/-- Columns ahead of i are told; of column i what lies above y. -/
structure Sk48 (K : Nat → Int) (i Y : Nat) (ls : List Int) : Prop where
  len : ls.length = 294912
  done : ∀ c y, c < i → c < 2304 → y < 128 → ls.getD (y * 2304 + c) 0 = (skyN 48 48 128 K (y * 2304 + c) : Int)
  now : i < 2304 → ∀ y, y < 128 → ls.getD (y * 2304 + i) 0 = if Y ≤ y then 15 else 0
  clr : ∀ y, Y ≤ y → y < 128 → clearK (K (y * 2304 + i)) = true
  rest : ∀ c y, i < c → c < 2304 → y < 128 → ls.getD (y * 2304 + c) 0 = 0
theorem Sk48.start (K : Nat → Int) {ls : List Int} (h : Upto K 294912 0 ls) : Sk48 K 0 128 ls where
  len := h.len
  done := fun c y hc => by omega
  now := fun _ y hy => by rw [if_neg (by omega)]; exact h.rest _ (Nat.zero_le _)
  clr := fun y h1 h2 => by omega
  rest := fun c y _ _ _ => h.rest _ (Nat.zero_le _)
theorem Sk48.out {K : Nat → Int} {i Y : Nat} {ls : List Int} (h : Sk48 K i Y ls) (hi : i < 2304) (hY : Y = 0 ∨ (Y ≤ 128 ∧ 1 ≤ Y ∧ clearK (K ((Y - 1) * 2304 + i)) = false)) : Sk48 K (i + 1) 128 ls := by
  refine ⟨h.len, fun c y hc hc2 hy => ?_, fun h1 y hy => ?_, fun y h1 h2 => (by omega), fun c y h1 h2 h3 => h.rest c y (by omega) h2 h3⟩
  · by_cases e : c = i
    · subst e
      rw [h.now hi y hy]
      have hs := sky_iff (N := 48) (by omega) K (i := c) (y := y) hi hy
      rcases hs with ⟨hs, ha⟩ | ⟨hs, ha⟩
      · have hs' : skyN 48 48 128 K (y * 2304 + c) = 15 := hs
        rw [hs', if_pos]
        · rfl
        · rcases hY with h3 | ⟨h3, h5, h4⟩
          · omega
          · refine Nat.le_of_not_lt fun hlt => ?_
            have := ha (Y - 1) (by omega) (by omega)
            rw [show (Y - 1) * (48 * 48) + c = (Y - 1) * 2304 + c from rfl, h4] at this
            cases this
      · have hs' : skyN 48 48 128 K (y * 2304 + c) = 0 := hs
        rw [hs', if_neg]
        · rfl
        · exact fun hle => ha fun t h1 h2 => h.clr t (by omega) h2
    · exact h.done c y (by omega) hc2 hy
  · rw [if_neg (by omega)]
    exact h.rest (i + 1) y (by omega) h1 hy
theorem Sk48.down {K : Nat → Int} {i Y : Nat} {ls : List Int} (h : Sk48 K i (Y + 1) ls) (hi : i < 2304) (hY : Y < 128) (hc : clearK (K (Y * 2304 + i)) = true) : Sk48 K i Y (ls.set (Y * 2304 + i) 15) := by
  have hl : Y * 2304 + i < ls.length := by rw [h.len]; omega
  refine ⟨by rw [List.length_set, h.len], fun c y hc1 hc2 hy => ?_, fun _ y hy => ?_, fun y h1 h2 => ?_, fun c y h1 h2 h3 => ?_⟩
  · rw [C.getD_set_ne ls 15 (by omega)]; exact h.done c y hc1 hc2 hy
  · by_cases e : y = Y
    · subst e
      rw [C.getD_set_self ls _ 15 hl, if_pos (Nat.le_refl _)]
    · rw [C.getD_set_ne ls 15 (by omega), h.now hi y hy]
      by_cases h1 : Y + 1 ≤ y
      · rw [if_pos h1, if_pos (by omega)]
      · rw [if_neg h1, if_neg (by omega)]
  · by_cases e : y = Y
    · subst e; exact hc
    · exact h.clr y (by omega) h2
  · rw [C.getD_set_ne ls 15 (by omega)]; exact h.rest c y h1 h2 h3
/-- Columns ahead of i are told; of column i what lies above y. -/
structure Sk16 (K : Nat → Int) (i Y : Nat) (ls : List Int) : Prop where
  len : ls.length = 32768
  done : ∀ c y, c < i → c < 256 → y < 128 → ls.getD (y * 256 + c) 0 = (skyN 16 16 128 K (y * 256 + c) : Int)
  now : i < 256 → ∀ y, y < 128 → ls.getD (y * 256 + i) 0 = if Y ≤ y then 15 else 0
  clr : ∀ y, Y ≤ y → y < 128 → clearK (K (y * 256 + i)) = true
  rest : ∀ c y, i < c → c < 256 → y < 128 → ls.getD (y * 256 + c) 0 = 0
theorem Sk16.start (K : Nat → Int) {ls : List Int} (h : Upto K 32768 0 ls) : Sk16 K 0 128 ls where
  len := h.len
  done := fun c y hc => by omega
  now := fun _ y hy => by rw [if_neg (by omega)]; exact h.rest _ (Nat.zero_le _)
  clr := fun y h1 h2 => by omega
  rest := fun c y _ _ _ => h.rest _ (Nat.zero_le _)
theorem Sk16.out {K : Nat → Int} {i Y : Nat} {ls : List Int} (h : Sk16 K i Y ls) (hi : i < 256) (hY : Y = 0 ∨ (Y ≤ 128 ∧ 1 ≤ Y ∧ clearK (K ((Y - 1) * 256 + i)) = false)) : Sk16 K (i + 1) 128 ls := by
  refine ⟨h.len, fun c y hc hc2 hy => ?_, fun h1 y hy => ?_, fun y h1 h2 => (by omega), fun c y h1 h2 h3 => h.rest c y (by omega) h2 h3⟩
  · by_cases e : c = i
    · subst e
      rw [h.now hi y hy]
      have hs := sky_iff (N := 16) (by omega) K (i := c) (y := y) hi hy
      rcases hs with ⟨hs, ha⟩ | ⟨hs, ha⟩
      · have hs' : skyN 16 16 128 K (y * 256 + c) = 15 := hs
        rw [hs', if_pos]
        · rfl
        · rcases hY with h3 | ⟨h3, h5, h4⟩
          · omega
          · refine Nat.le_of_not_lt fun hlt => ?_
            have := ha (Y - 1) (by omega) (by omega)
            rw [show (Y - 1) * (16 * 16) + c = (Y - 1) * 256 + c from rfl, h4] at this
            cases this
      · have hs' : skyN 16 16 128 K (y * 256 + c) = 0 := hs
        rw [hs', if_neg]
        · rfl
        · exact fun hle => ha fun t h1 h2 => h.clr t (by omega) h2
    · exact h.done c y (by omega) hc2 hy
  · rw [if_neg (by omega)]
    exact h.rest (i + 1) y (by omega) h1 hy
theorem Sk16.down {K : Nat → Int} {i Y : Nat} {ls : List Int} (h : Sk16 K i (Y + 1) ls) (hi : i < 256) (hY : Y < 128) (hc : clearK (K (Y * 256 + i)) = true) : Sk16 K i Y (ls.set (Y * 256 + i) 15) := by
  have hl : Y * 256 + i < ls.length := by rw [h.len]; omega
  refine ⟨by rw [List.length_set, h.len], fun c y hc1 hc2 hy => ?_, fun _ y hy => ?_, fun y h1 h2 => ?_, fun c y h1 h2 h3 => ?_⟩
  · rw [C.getD_set_ne ls 15 (by omega)]; exact h.done c y hc1 hc2 hy
  · by_cases e : y = Y
    · subst e
      rw [C.getD_set_self ls _ 15 hl, if_pos (Nat.le_refl _)]
    · rw [C.getD_set_ne ls 15 (by omega), h.now hi y hy]
      by_cases h1 : Y + 1 ≤ y
      · rw [if_pos h1, if_pos (by omega)]
      · rw [if_neg h1, if_neg (by omega)]
  · by_cases e : y = Y
    · subst e; exact hc
    · exact h.clr y (by omega) h2
  · rw [C.getD_set_ne ls 15 (by omega)]; exact h.rest c y h1 h2 h3
end Go.Proofs.YtjeapaojbkicmaaDoor
