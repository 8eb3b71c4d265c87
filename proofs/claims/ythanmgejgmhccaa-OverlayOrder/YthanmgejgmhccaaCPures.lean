/-
  What is plain about tops and numbers of kinds.
-/
import Derived.Test.YthanmgejgmhccaaCCounts
namespace Go.Proofs.Ythanmgejgmhccaa.C
open Go.RowKit

theorem topTo_is (cs : List Int) (p y : Nat) (h1 : ¬ (cs.getD (y * 256 + p) 0 = 0 ∨ cs.getD (y * 256 + p) 0 = 16)) :
    ∀ n, y < n → (∀ m, y < m → m < n → cs.getD (m * 256 + p) 0 = 0 ∨ cs.getD (m * 256 + p) 0 = 16) → topTo cs p n = y
  | 0, h, _ => by omega
  | n + 1, h, h2 => by
    unfold topTo
    by_cases e : n = y
    · subst e
      rw [if_neg h1]
    · rw [if_pos (h2 n (by omega) (by omega)), topTo_is cs p y h1 n (by omega) (fun m h3 h4 => h2 m h3 (by omega))]
theorem topTo_lo (cs : List Int) (p : Nat) : ∀ n, -1 ≤ topTo cs p n ∧ topTo cs p n < n
  | 0 => by simp [topTo]
  | n + 1 => by
    have := topTo_lo cs p n
    unfold topTo
    split <;> omega
theorem topTo_above (cs : List Int) (p : Nat) : ∀ n m : Nat, topTo cs p n < m → m < n → cs.getD (m * 256 + p) 0 = 0 ∨ cs.getD (m * 256 + p) 0 = 16
  | 0, m, _, h => by omega
  | n + 1, m, h, h2 => by
    unfold topTo at h
    split at h
    · rename_i hv
      by_cases e : m = n
      · subst e; exact hv
      · exact topTo_above cs p n m h (by omega)
    · omega
theorem topTo_at (cs : List Int) (p : Nat) : ∀ n t : Nat, topTo cs p n = t → ¬ (cs.getD (t * 256 + p) 0 = 0 ∨ cs.getD (t * 256 + p) 0 = 16)
  | 0, t, h => by simp [topTo] at h
  | n + 1, t, h => by
    unfold topTo at h
    split at h
    · exact topTo_at cs p n t h
    · rename_i hv
      obtain rfl : n = t := by omega
      exact hv

/-- How many of the first n cells are of a kind. -/
def cnt (cs : List Int) (j : Int) : Nat → Int
  | 0 => 0
  | n + 1 => cnt cs j n + if cs.getD n 0 = j then 1 else 0
theorem cntTo_cnt (cs : List Int) (hk : Kinds cs) (j : Nat) (hj : j < 17) : ∀ n, (cntTo cs n).getD j 0 = cnt cs j n
  | 0 => by
    unfold cntTo cnt
    rw [List.getD_eq_getElem?_getD, List.getElem?_replicate_of_lt hj]
    rfl
  | n + 1 => by
    have ih := cntTo_cnt cs hk j hj n
    have hv := hk.at n
    unfold cntTo cnt
    generalize cs.getD n 0 = v at *
    rw [List.getD_eq_getElem?_getD]
    by_cases e : v.toNat = j
    · rw [e, List.getElem?_set_self (by rw [cntTo_length]; exact hj), if_pos (by omega), ← ih]
      rfl
    · rw [List.getElem?_set_ne e, ← List.getD_eq_getElem?_getD, if_neg (by omega), ih, Int.add_zero]
theorem getD_set_self (cs : List Int) (i : Nat) (k : Int) (hi : i < cs.length) : (cs.set i k).getD i 0 = k := by
  rw [List.getD_eq_getElem?_getD, List.getElem?_set_self hi]
  rfl
theorem getD_set_ne (cs : List Int) {i j : Nat} (k : Int) (h : i ≠ j) : (cs.set i k).getD j 0 = cs.getD j 0 := by
  rw [List.getD_eq_getElem?_getD, List.getElem?_set_ne h, ← List.getD_eq_getElem?_getD]
theorem cnt_set_past (cs : List Int) (i : Nat) (k j : Int) : ∀ n, n ≤ i → cnt (cs.set i k) j n = cnt cs j n
  | 0, _ => rfl
  | n + 1, h => by
    unfold cnt
    rw [cnt_set_past cs i k j n (by omega), getD_set_ne cs k (by omega)]
theorem cnt_set (cs : List Int) (i : Nat) (k j : Int) (hi : i < cs.length) : ∀ n, i < n → cnt (cs.set i k) j n = cnt cs j n - (if cs.getD i 0 = j then 1 else 0) + (if k = j then 1 else 0)
  | 0, h => by omega
  | n + 1, h => by
    unfold cnt
    by_cases e : i = n
    · subst e
      rw [cnt_set_past cs i k j i (Nat.le_refl _), getD_set_self cs i k hi]
      omega
    · rw [cnt_set cs i k j hi n (by omega), getD_set_ne cs k e]
      omega
theorem getD_replicate (m n : Nat) (k : Int) (h : n < m) : (List.replicate m k).getD n 0 = k := by
  rw [List.getD_eq_getElem?_getD, List.getElem?_replicate_of_lt h]
  rfl
theorem cnt_replicate (m : Nat) (k j : Int) : ∀ n, n ≤ m → cnt (List.replicate m k) j n = if k = j then (n : Int) else 0
  | 0, _ => by simp [cnt]
  | n + 1, h => by
    unfold cnt
    rw [cnt_replicate m k j n (by omega), getD_replicate m n k (by omega)]
    split <;> omega

/-- The chunk of the examples: New with a 3 at place 256. -/
def ex1 : List Int := (List.replicate 32768 0).set 256 3
theorem ex1_length : ex1.length = 32768 := by unfold ex1; rw [List.length_set, List.length_replicate]
theorem ex1_at (j : Nat) (h : j < 32768) : ex1.getD j 0 = if j = 256 then 3 else 0 := by
  unfold ex1
  by_cases e : j = 256
  · subst e
    rw [getD_set_self _ _ _ (by rw [List.length_replicate]; omega), if_pos rfl]
  · rw [getD_set_ne _ _ (Ne.symm e), getD_replicate _ _ _ h, if_neg e]
theorem ex1_kinds : Kinds ex1 := by
  unfold ex1
  intro x hx
  rcases List.mem_or_eq_of_mem_set hx with h | h
  · rw [List.eq_of_mem_replicate h]; omega
  · omega
theorem ex1_cnt0 : (cntTo ex1 32768).getD 0 0 = 32767 := by
  rw [cntTo_cnt ex1 ex1_kinds 0 (by omega)]
  unfold ex1
  rw [cnt_set _ _ _ _ (by rw [List.length_replicate]; omega) _ (by omega), cnt_replicate _ _ _ _ (Nat.le_refl _), getD_replicate _ _ _ (by omega)]
  rfl
theorem ex1_cnt3 : (cntTo ex1 32768).getD 3 0 = 1 := by
  rw [cntTo_cnt ex1 ex1_kinds 3 (by omega)]
  unfold ex1
  rw [cnt_set _ _ _ _ (by rw [List.length_replicate]; omega) _ (by omega), cnt_replicate _ _ _ _ (Nat.le_refl _), getD_replicate _ _ _ (by omega)]
  rfl
theorem ex1_get : getC ex1 256 = 3 := by
  unfold getC
  rw [if_pos (by omega), show (256 : Int).toNat = 256 from rfl, ex1_at 256 (by omega), if_pos rfl]
theorem ex1_top : topC ex1 0 0 = 1 := by
  have := topC_yes (X := 0) (Z := 0) (by omega) ex1
  rw [show ((0 : Nat) : Int) = 0 from rfl] at this
  rw [this]
  refine topTo_is ex1 _ 1 ?_ 128 (by omega) fun m h1 h2 => ?_
  · rw [ex1_at _ (by omega)]; decide
  · rw [ex1_at _ (by omega), if_neg (by omega)]
    exact Or.inl rfl
/-- Behind Fill(0, 1, 1). -/
def ex2 : List Int := filC ex1 0 1 1
theorem ex2_length : ex2.length = 32768 := by unfold ex2; rw [filC_length, ex1_length]
theorem ex2_top : topC ex2 5 5 = 1 := by
  have := topC_yes (X := 5) (Z := 5) (by omega) ex2
  rw [show ((5 : Nat) : Int) = 5 from rfl] at this
  rw [this]
  have hat : ∀ j, j < 32768 → ex2.getD j 0 = if 0 ≤ j ∧ j < 0 + 512 then 1 else ex1.getD j 0 := fun j hj => by
    unfold ex2
    rw [(okFill_yes (by decide) ex1).2]
    exact filTo_getD ex1 0 1 512 j (by rw [ex1_length]; exact hj)
  refine topTo_is ex2 _ 1 ?_ 128 (by omega) fun m h1 h2 => ?_
  · rw [hat _ (by omega), if_pos (by omega)]; decide
  · rw [hat _ (by omega), if_neg (by omega), ex1_at _ (by omega), if_neg (by omega)]
    exact Or.inl rfl
end Go.Proofs.Ythanmgejgmhccaa.C