/-
  What Octaves answers, for every number: the sum of heights, each half as great and half as wide as the one before; it makes new blocks and turns nothing that was there.
-/
import Derived.Test.YtajjaeaknonmfaaNFlat
namespace Go.Proofs.Ytajjaeaknonmfaa.N
open Go.RowKit

/-- The first k heights, each half as great and half as wide as the one before. -/
def octs (S : Nat) (stage x z shift : Int) : Nat → Int
  | 0 => 0
  | k + 1 => octs S stage x z shift k + flatN S (wrap64 (stage + 100 * k)) x z (shift - k) / 2 ^ (k + 1)
theorem term_bd {f : Int} (h : 0 ≤ f ∧ f ≤ 65535) (k : Nat) (hk : k ≤ 7) : 0 ≤ f / 2 ^ (k + 1) ∧ f / 2 ^ (k + 1) ≤ 65536 / 2 ^ (k + 1) ∧ (65536 : Int) / 2 ^ (k + 1) * 2 = 65536 / 2 ^ k := by
  have hk8 : k = 0 ∨ k = 1 ∨ k = 2 ∨ k = 3 ∨ k = 4 ∨ k = 5 ∨ k = 6 ∨ k = 7 := by omega
  rcases hk8 with rfl | rfl | rfl | rfl | rfl | rfl | rfl | rfl <;> simp <;> omega
theorem octs_bd (S : Nat) (stage x z shift : Int) (k : Nat) (hk : k ≤ 8) : 0 ≤ octs S stage x z shift k ∧ octs S stage x z shift k ≤ 65536 - 65536 / 2 ^ k := by
  induction k with
  | zero => simp [octs]
  | succ k ih =>
    have i := ih (by omega)
    have t := term_bd (flatN_bd S (wrap64 (stage + 100 * k)) x z (shift - k)) k (by omega)
    unfold octs
    omega
/-- What Octaves answers. -/
def octN (S : Nat) (stage x z shift many : Int) : Int := if many < 1 ∨ 8 < many ∨ shift < many - 1 ∨ 20 < shift then 0 else octs S stage x z shift many.toNat
theorem octN_out (S : Nat) (stage x z : Int) {shift many : Int} (h : many < 1 ∨ 8 < many ∨ shift < many - 1 ∨ 20 < shift) : octN S stage x z shift many = 0 := by unfold octN; rw [if_pos h]
theorem octN_in (S : Nat) (stage x z : Int) {shift many : Int} (m0 : 1 ≤ many) (m1 : many ≤ 8) (h0 : many - 1 ≤ shift) (h1 : shift ≤ 20) : octN S stage x z shift many = octs S stage x z shift many.toNat := by unfold octN; rw [if_neg (by omega)]
theorem octN_bd (S : Nat) (stage x z shift many : Int) : 0 ≤ octN S stage x z shift many ∧ octN S stage x z shift many ≤ 65535 := by
  by_cases h : many < 1 ∨ 8 < many ∨ shift < many - 1 ∨ 20 < shift
  · rw [octN_out S stage x z h]; omega
  · rw [octN_in S stage x z (by omega) (by omega) (by omega) (by omega)]
    have hk : many.toNat = 1 ∨ many.toNat = 2 ∨ many.toNat = 3 ∨ many.toNat = 4 ∨ many.toNat = 5 ∨ many.toNat = 6 ∨ many.toNat = 7 ∨ many.toNat = 8 := by omega
    have b := octs_bd S stage x z shift many.toNat (by omega)
    refine ⟨b.1, ?_⟩
    rcases hk with e | e | e | e | e | e | e | e <;> rw [e] at b ⊢ <;> simp at b <;> omega
end Go.Proofs.Ytajjaeaknonmfaa.N