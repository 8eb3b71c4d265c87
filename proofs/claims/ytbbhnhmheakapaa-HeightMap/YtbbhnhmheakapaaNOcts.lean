/-
  What Octaves answers, for every number: the sum of heights, each half as great and half as wide as the one before; it makes new blocks and turns nothing that was there.
-/
import Derived.Test.YtbbhnhmheakapaaNFlat
namespace Go.Proofs.Ytbbhnhmheakapaa.N
open Go.RowKit

/-- The first k heights, each half as great and half as wide as the one before. -/
def octs (S : Nat) (stage x z shift : Int) : Nat → Int
  | 0 => 0
  | k + 1 => octs S stage x z shift k + flatN S (wrap64 (stage + 100 * k)) x z (shift - k) / 2 ^ (k + 1)
theorem term_bd {f : Int} (h : 0 ≤ f ∧ f ≤ 65535) (k : Nat) (hk : k ≤ 7) : 0 ≤ f / 2 ^ (k + 1) ∧ f / 2 ^ (k + 1) ≤ 65536 / 2 ^ (k + 1) ∧ (65536 : Int) / 2 ^ (k + 1) * 2 = 65536 / 2 ^ k := by
  have hk8 : k = 0 ∨ k = 1 ∨ k = 2 ∨ k = 3 ∨ k = 4 ∨ k = 5 ∨ k = 6 ∨ k = 7 := by omega
  rcases hk8 with rfl | rfl | rfl | rfl | rfl | rfl | rfl | rfl <;> simp <;> omega
theorem octs_bd (S : Nat) (stage x z shift : Int) (k : Nat) (hk : k ≤ 8) : 0 ≤ octs S stage x z shift k ∧ octs S stage x z shift k ≤ 65536 - 65536 / 2 ^ k := by
  induction k with
  | zero => simp [octs]
  | succ k ih =>
    have i := ih (by omega)
    have t := term_bd (flatN_bd S (wrap64 (stage + 100 * k)) x z (shift - k)) k (by omega)
    unfold octs
    omega
set_option maxHeartbeats 1000000 in
theorem octaves_in (S : Nat) (stage x z shift many : Int) (w : World) (hS : S < 18446744073709551616) (_hst : -9223372036854775808 ≤ stage ∧ stage ≤ 9223372036854775807) (hx : -9223372036854775808 ≤ x ∧ x ≤ 9223372036854775807) (hz : -9223372036854775808 ≤ z ∧ z ≤ 9223372036854775807) (m0 : 1 ≤ many) (m1 : many ≤ 8) (h0 : many - 1 ≤ shift) (h1 : shift ≤ 20) :
    Calls Try.prog 14 #[.int .u64 S, .int .i64 stage, .int .i64 x, .int .i64 z, .int .i64 shift, .int .i64 many] w fun e w' => e = .returned (.int .i64 (octs S stage x z shift many.toNat)) ∧ Below w.heap.size w w' := by
  have e1 : ¬ many < 1 := by omega
  have e2 : ¬ 8 < many := by omega
  have e3 : ¬ shift < many - 1 := by omega
  have e4 : ¬ 20 < shift := by omega
  go_enter Try.func14, Try.ntmps14
  go_wp2_with fail
  go_loopw [13, 32] (fun s i wr => ∃ k : Nat, (k : Int) ≤ many ∧ i = .int .i64 k ∧ s = .int .i64 (octs S stage x z shift k) ∧ Below w.heap.size w wr) (fun _ i _ => many.toNat - (intOf i).toNat)
  case atStart => exact ⟨0, by omega, rfl, rfl, Below.refl _ _⟩
  case round =>
    obtain ⟨k, hk, rfl, rfl, hbel⟩ := hrel
    have HB : Hid _ := hbel
    clear hbel
    by_cases hks : (k : Int) < many
    · go_wp2_with fail
      refine (flat_any S (wrap64 (stage + 100 * k)) x z (shift - k) _ hS hx hz).mono ?_
      rintro e w1 ⟨rfl, hw1⟩
      have H1 : Hid (Below w.heap.size w w1) := HB.out.trans (hw1.mono HB.out.size)
      clear hw1 HB
      have HO : Hid (octs S stage x z shift (k + 1) = octs S stage x z shift k + flatN S (wrap64 (stage + 100 * k)) x z (shift - k) / 2 ^ (k + 1)) := rfl
      have hob := octs_bd S stage x z shift k (by omega)
      have hf := flatN_bd S (wrap64 (stage + 100 * k)) x z (shift - k)
      have ht := term_bd hf k (by omega)
      have HS : Hid (wrap64 (octs S stage x z shift k + flatN S (wrap64 (stage + 100 * k)) x z (shift - k) / 2 ^ (k + 1)) = octs S stage x z shift (k + 1)) := by
        show _ = _
        rw [HO.out]
        exact w64_in (by omega)
      clear ht
      go_wp2_with fail
      go_roundw
      case rel => exact ⟨k + 1, by omega, rfl, by rw [HS.out], H1.out⟩
      case measure => simp [intOf]; omega
    · have hk2 : Hid (many.toNat = k) := by show _ = _; omega
      go_wp2
      go_ret
      exact ⟨ret_int (by rw [hk2.out]), HB.out⟩
set_option maxHeartbeats 400000 in
theorem octaves_out (S : Nat) (stage x z shift many : Int) (w : World) (hm : -9223372036854775808 ≤ many ∧ many ≤ 9223372036854775807) (h : many < 1 ∨ 8 < many ∨ shift < many - 1 ∨ 20 < shift) :
    Calls Try.prog 14 #[.int .u64 S, .int .i64 stage, .int .i64 x, .int .i64 z, .int .i64 shift, .int .i64 many] w fun e w' => e = .returned (.int .i64 0) ∧ Below w.heap.size w w' := by
  by_cases h1 : many < 1
  · go_enter Try.func14, Try.ntmps14
    go_wp2
    go_ret
    exact ⟨rfl, Below.refl _ _⟩
  · by_cases h2 : 8 < many
    · go_enter Try.func14, Try.ntmps14
      go_wp2
      go_ret
      exact ⟨rfl, Below.refl _ _⟩
    · by_cases h3 : shift < many - 1
      · go_enter Try.func14, Try.ntmps14
        go_wp2
        go_ret
        exact ⟨rfl, Below.refl _ _⟩
      · have h4 : 20 < shift := by omega
        go_enter Try.func14, Try.ntmps14
        go_wp2
        go_ret
        exact ⟨rfl, Below.refl _ _⟩
/-- What Octaves answers. -/
def octN (S : Nat) (stage x z shift many : Int) : Int := if many < 1 ∨ 8 < many ∨ shift < many - 1 ∨ 20 < shift then 0 else octs S stage x z shift many.toNat
theorem octN_out (S : Nat) (stage x z : Int) {shift many : Int} (h : many < 1 ∨ 8 < many ∨ shift < many - 1 ∨ 20 < shift) : octN S stage x z shift many = 0 := by unfold octN; rw [if_pos h]
theorem octN_in (S : Nat) (stage x z : Int) {shift many : Int} (m0 : 1 ≤ many) (m1 : many ≤ 8) (h0 : many - 1 ≤ shift) (h1 : shift ≤ 20) : octN S stage x z shift many = octs S stage x z shift many.toNat := by unfold octN; rw [if_neg (by omega)]
theorem octN_bd (S : Nat) (stage x z shift many : Int) : 0 ≤ octN S stage x z shift many ∧ octN S stage x z shift many ≤ 65535 := by
  by_cases h : many < 1 ∨ 8 < many ∨ shift < many - 1 ∨ 20 < shift
  · rw [octN_out S stage x z h]; omega
  · rw [octN_in S stage x z (by omega) (by omega) (by omega) (by omega)]
    have hk : many.toNat = 1 ∨ many.toNat = 2 ∨ many.toNat = 3 ∨ many.toNat = 4 ∨ many.toNat = 5 ∨ many.toNat = 6 ∨ many.toNat = 7 ∨ many.toNat = 8 := by omega
    have b := octs_bd S stage x z shift many.toNat (by omega)
    refine ⟨b.1, ?_⟩
    rcases hk with e | e | e | e | e | e | e | e <;> rw [e] at b ⊢ <;> simp at b <;> omega
theorem octaves_any (S : Nat) (stage x z shift many : Int) (w : World) (hS : S < 18446744073709551616) (hst : -9223372036854775808 ≤ stage ∧ stage ≤ 9223372036854775807) (hx : -9223372036854775808 ≤ x ∧ x ≤ 9223372036854775807) (hz : -9223372036854775808 ≤ z ∧ z ≤ 9223372036854775807) (hm : -9223372036854775808 ≤ many ∧ many ≤ 9223372036854775807) :
    Calls Try.prog 14 #[.int .u64 S, .int .i64 stage, .int .i64 x, .int .i64 z, .int .i64 shift, .int .i64 many] w fun e w' => e = .returned (.int .i64 (octN S stage x z shift many)) ∧ Below w.heap.size w w' := by
  by_cases h : many < 1 ∨ 8 < many ∨ shift < many - 1 ∨ 20 < shift
  · rw [octN_out S stage x z h]
    exact octaves_out S stage x z shift many w hm h
  · rw [octN_in S stage x z (by omega) (by omega) (by omega) (by omega)]
    exact octaves_in S stage x z shift many w hS hst hx hz (by omega) (by omega) (by omega) (by omega)
end Go.Proofs.Ytbbhnhmheakapaa.N
