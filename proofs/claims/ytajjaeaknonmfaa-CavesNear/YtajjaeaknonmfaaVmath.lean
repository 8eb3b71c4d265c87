/-
  Plain: fields of cells, the automaton, what a chunk becomes.
-/
import Derived.Test.YtajjaeaknonmfaaRMixes
set_option maxRecDepth 20000
namespace Go.Proofs.Ytajjaeaknonmfaa
open R

abbrev Fld := Int → Int → Int → Bool
/-- How many of the first n of the 27 cells about a cell, itself not counted, are open. -/
def nbN (f : Fld) (x y z : Int) : Nat → Nat
  | 0 => 0
  | n + 1 => nbN f x y z n + if n ≠ 13 ∧ f (x + (n : Int) % 3 - 1) (y + (n : Int) / 9 - 1) (z + (n : Int) / 3 % 3 - 1) = true then 1 else 0
/-- The automaton once. -/
def stepF (fit f : Fld) : Fld := fun x y z => fit x y z && decide (13 ≤ nbN f x y z 27)
theorem nbN_le (f : Fld) (x y z : Int) : ∀ n, nbN f x y z n ≤ n
  | 0 => Nat.le_refl _
  | n + 1 => by
    have := nbN_le f x y z n
    unfold nbN
    split <;> omega
theorem nbN_congr {f f' : Fld} {x y z : Int} (h : ∀ a b c : Int, -1 ≤ a → a ≤ 1 → -1 ≤ b → b ≤ 1 → -1 ≤ c → c ≤ 1 → f (x + a) (y + b) (z + c) = f' (x + a) (y + b) (z + c)) : ∀ n, n ≤ 27 → nbN f x y z n = nbN f' x y z n
  | 0, _ => rfl
  | n + 1, hn => by
    unfold nbN
    rw [nbN_congr h n (by omega)]
    have e := h ((n : Int) % 3 - 1) ((n : Int) / 9 - 1) ((n : Int) / 3 % 3 - 1) (by omega) (by omega) (by omega) (by omega) (by omega) (by omega)
    rw [show x + ((n : Int) % 3 - 1) = x + (n : Int) % 3 - 1 by omega, show y + ((n : Int) / 9 - 1) = y + (n : Int) / 9 - 1 by omega, show z + ((n : Int) / 3 % 3 - 1) = z + (n : Int) / 3 % 3 - 1 by omega] at e
    rw [e]
theorem step_congr {fit fit' f f' : Fld} {x y z : Int} (h0 : fit x y z = fit' x y z) (h : ∀ a b c : Int, -1 ≤ a → a ≤ 1 → -1 ≤ b → b ≤ 1 → -1 ≤ c → c ≤ 1 → f (x + a) (y + b) (z + c) = f' (x + a) (y + b) (z + c)) : stepF fit f x y z = stepF fit' f' x y z := by
  unfold stepF
  rw [h0, nbN_congr h 27 (Nat.le_refl _)]
/-- A cell of nine chunks. -/
def cellN (css : List (List Int)) (x y z : Int) : Int := (css.getD (((z + 16) / 16 * 3 + (x + 16) / 16).toNat) []).getD (y * 256 + (z + 16) % 16 * 16 + (x + 16) % 16).toNat 0
def fitN (css : List (List Int)) : Fld := fun x y z => decide (6 ≤ y ∧ y ≤ 29) && decide (cellN css x y z = 1)
/-- A cell is a seedling (P15.1). -/
def sdN (S : Nat) (X Y Z : Int) : Bool := decide (belowN (hashN S 20 X Y Z) 100 < 46)
def open0 (S : Nat) (cx cz : Int) (css : List (List Int)) : Fld := fun x y z => fitN css x y z && sdN S (cx * 16 + x) y (cz * 16 + z)
def open1 (S : Nat) (cx cz : Int) (css : List (List Int)) : Fld := stepF (fitN css) (open0 S cx cz css)
def open2 (S : Nat) (cx cz : Int) (css : List (List Int)) : Fld := stepF (fitN css) (open1 S cx cz css)
/-- A chunk with its caves (P15.2). -/
def carvAt (S : Nat) (cx cz : Int) (css : List (List Int)) (i : Nat) : Int :=
  if open2 S cx cz css ((i : Int) % 16) ((i : Int) / 256) ((i : Int) / 16 % 16) = true then (if (i : Int) / 256 ≤ 10 then 5 else 0) else (css.getD 4 []).getD i 0
def carveN (S : Nat) (cx cz : Int) (css : List (List Int)) : List Int := (List.range 32768).map (carvAt S cx cz css)
theorem range_getI (f : Nat → Int) (n j : Nat) (h : j < n) : ((List.range n).map f).getD j 0 = f j := by
  rw [List.getD_eq_getElem?_getD, List.getElem?_map, List.getElem?_range h]
  rfl
theorem carveN_len (S : Nat) (cx cz : Int) (css : List (List Int)) : (carveN S cx cz css).length = 32768 := by simp [carveN]
theorem carveN_at (S : Nat) (cx cz : Int) (css : List (List Int)) (i : Nat) (h : i < 32768) : (carveN S cx cz css).getD i 0 = carvAt S cx cz css i := range_getI _ 32768 i h
theorem fit_y {css : List (List Int)} {x y z : Int} (h : fitN css x y z = true) : 6 ≤ y ∧ y ≤ 29 := by
  unfold fitN at h
  simp at h
  exact h.1
theorem open2_fit {S : Nat} {cx cz : Int} {css : List (List Int)} {x y z : Int} (h : open2 S cx cz css x y z = true) : fitN css x y z = true := by
  unfold open2 stepF at h
  simp at h
  exact h.1
/-- What a chunk becomes hangs on the cells at most two away. -/
theorem open2_congr {S : Nat} {cx cz : Int} {css css' : List (List Int)} {x y z : Int} (h : ∀ a b c : Int, -2 ≤ a → a ≤ 2 → -2 ≤ b → b ≤ 2 → -2 ≤ c → c ≤ 2 → fitN css (x + a) (y + b) (z + c) = fitN css' (x + a) (y + b) (z + c)) :
    open2 S cx cz css x y z = open2 S cx cz css' x y z := by
  have h0 : fitN css x y z = fitN css' x y z := by simpa using h 0 0 0 (by omega) (by omega) (by omega) (by omega) (by omega) (by omega)
  refine step_congr h0 (fun a b c a1 a2 b1 b2 c1 c2 => ?_)
  refine step_congr (h a b c (by omega) (by omega) (by omega) (by omega) (by omega) (by omega)) (fun a' b' c' a3 a4 b3 b4 c3 c4 => ?_)
  have := h (a + a') (b + b') (c + c') (by omega) (by omega) (by omega) (by omega) (by omega) (by omega)
  unfold open0
  rw [show x + a + a' = x + (a + a') by omega, show y + b + b' = y + (b + b') by omega, show z + c + c' = z + (c + c') by omega, this]
/-- The cell of c's own chunk at a place. -/
theorem cell_own (css : List (List Int)) (i : Nat) (hi : i < 32768) : cellN css ((i : Int) % 16) ((i : Int) / 256) ((i : Int) / 16 % 16) = (css.getD 4 []).getD i 0 := by
  unfold cellN
  rw [show (((i : Int) / 16 % 16 + 16) / 16 * 3 + ((i : Int) % 16 + 16) / 16).toNat = 4 by omega, show ((i : Int) / 256 * 256 + ((i : Int) / 16 % 16 + 16) % 16 * 16 + ((i : Int) % 16 + 16) % 16).toNat = i by omega]
/-- Only stone between the two heights becomes anything else. -/
theorem carv_says (S : Nat) (cx cz : Int) (css : List (List Int)) (i : Nat) (hi : i < 32768) :
    carvAt S cx cz css i = (css.getD 4 []).getD i 0 ∨ ((css.getD 4 []).getD i 0 = 1 ∧ 6 ≤ (i : Int) / 256 ∧ (i : Int) / 256 ≤ 29 ∧ (((i : Int) / 256 ≤ 10 ∧ carvAt S cx cz css i = 5) ∨ (10 < (i : Int) / 256 ∧ carvAt S cx cz css i = 0))) := by
  by_cases h : open2 S cx cz css ((i : Int) % 16) ((i : Int) / 256) ((i : Int) / 16 % 16) = true
  · refine .inr ?_
    have hf := open2_fit h
    have hy := fit_y hf
    have hc : cellN css ((i : Int) % 16) ((i : Int) / 256) ((i : Int) / 16 % 16) = 1 := by
      unfold fitN at hf
      simp at hf
      exact hf.2
    rw [cell_own css i hi] at hc
    refine ⟨hc, hy.1, hy.2, ?_⟩
    unfold carvAt
    rw [if_pos h]
    by_cases h10 : (i : Int) / 256 ≤ 10
    · rw [if_pos h10]
      exact .inl ⟨h10, rfl⟩
    · rw [if_neg h10]
      exact .inr ⟨by omega, rfl⟩
  · refine .inl ?_
    unfold carvAt
    rw [if_neg h]
end Go.Proofs.Ytajjaeaknonmfaa