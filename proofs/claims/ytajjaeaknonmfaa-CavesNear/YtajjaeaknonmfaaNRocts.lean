/-
  What the document's Octaves answers, for every number: the same as the program's; it leaves new blocks behind it.
-/
import Derived.Test.YtajjaeaknonmfaaNOcts
import Derived.Test.YtajjaeaknonmfaaNRflat
namespace Go.Proofs.Ytajjaeaknonmfaa.N
open Go.RowKit

theorem octs_wide (S : Nat) (stage x z shift : Int) (k : Nat) : octs S stage x z shift (k + 1) = octs S stage x z shift k + flatN S (wrap64 (stage + 100 * k)) x z (shift - k) / wide ((k : Int) + 1) := by
  have e : ((k : Int) + 1) = ((k + 1 : Nat) : Int) := by omega
  rw [e, wide_nat]
  rfl
set_option maxHeartbeats 1000000 in
theorem roctaves_in (S : Nat) (stage x z shift many : Int) (w : World) (hS : S < 18446744073709551616) (_hst : -9223372036854775808 ≤ stage ∧ stage ≤ 9223372036854775807) (hx : -9223372036854775808 ≤ x ∧ x ≤ 9223372036854775807) (hz : -9223372036854775808 ≤ z ∧ z ≤ 9223372036854775807) (m0 : 1 ≤ many) (m1 : many ≤ 8) (h0 : many - 1 ≤ shift) (h1 : shift ≤ 20) :
    Calls Try.prog 56 #[.int .u64 S, .int .i64 stage, .int .i64 x, .int .i64 z, .int .i64 shift, .int .i64 many] w fun e w' => e = .returned (.int .i64 (octs S stage x z shift many.toNat)) ∧ Below w.heap.size w w' := by
  have e1 : ¬ many < 1 := by omega
  have e2 : ¬ 8 < many := by omega
  have e3 : ¬ shift < many - 1 := by omega
  have e4 : ¬ 20 < shift := by omega
  go_enter Try.func56, Try.ntmps56
  go_wp2_with fail
  go_loopw [13, 14, 15] (fun s h i wr => ∃ k : Nat, (k : Int) ≤ many ∧ i = .int .i64 k ∧ h = .int .i64 (wide ((k : Int) + 1)) ∧ s = .int .i64 (octs S stage x z shift k) ∧ Below w.heap.size w wr) (fun _ _ i _ => many.toNat - (intOf i).toNat)
  case atStart => exact ⟨0, by omega, rfl, rfl, rfl, Below.refl _ _⟩
  case round =>
    obtain ⟨k, hk, rfl, rfl, rfl, hbel⟩ := hrel
    have HB : Hid _ := hbel
    clear hbel
    by_cases hks : (k : Int) < many
    · have HW : Hid (wide (((k + 1 : Nat) : Int) + 1) = wide ((k : Int) + 1) * 2) := wide_succ (k + 1)
      have HO : Hid _ := octs_wide S stage x z shift k
      have hh := wide_bd (shift := (k : Int) + 1) (by omega) (by omega)
      go_wp2_with fail
      refine (rflat_any S (wrap64 (stage + 100 * k)) x z (shift - k) _ hS hx hz).mono ?_
      rintro e w1 ⟨rfl, hw1⟩
      have H1 : Hid (Below w.heap.size w w1) := HB.out.trans (hw1.mono HB.out.size)
      clear hw1 HB
      have hob := octs_bd S stage x z shift k (by omega)
      have hob2 := octs_bd S stage x z shift (k + 1) (by omega)
      have hf := flatN_bd S (wrap64 (stage + 100 * k)) x z (shift - k)
      generalize wide ((k : Int) + 1) = h at *
      have hq0 : 0 ≤ flatN S (wrap64 (stage + 100 * k)) x z (shift - k) / h := Int.ediv_nonneg hf.1 (by omega)
      have hq1 : flatN S (wrap64 (stage + 100 * k)) x z (shift - k) / h ≤ 65535 := Int.le_trans (Int.ediv_le_self _ hf.1) hf.2
      have ho1 : octs S stage x z shift k ≤ 65536 := by have : (0 : Int) ≤ 65536 / 2 ^ k := Int.ediv_nonneg (by omega) (Int.pow_nonneg (by omega)); omega
      have ho0 := hob.1
      clear hob hob2
      go_wp2_with fail
      go_roundw
      case rel => exact ⟨k + 1, by omega, rfl, by rw [HW.out], by rw [HO.out], H1.out⟩
      case measure => simp [intOf]; omega
    · have hk2 : Hid (many.toNat = k) := by show _ = _; omega
      go_wp2
      go_ret
      exact ⟨ret_int (by rw [hk2.out]), HB.out⟩
set_option maxHeartbeats 400000 in
theorem roctaves_out (S : Nat) (stage x z shift many : Int) (w : World) (hm : -9223372036854775808 ≤ many ∧ many ≤ 9223372036854775807) (h : many < 1 ∨ 8 < many ∨ shift < many - 1 ∨ 20 < shift) :
    Calls Try.prog 56 #[.int .u64 S, .int .i64 stage, .int .i64 x, .int .i64 z, .int .i64 shift, .int .i64 many] w fun e w' => e = .returned (.int .i64 0) ∧ Below w.heap.size w w' := by
  by_cases h1 : many < 1
  · go_enter Try.func56, Try.ntmps56
    go_wp2
    go_ret
    exact ⟨rfl, Below.refl _ _⟩
  · by_cases h2 : 8 < many
    · go_enter Try.func56, Try.ntmps56
      go_wp2
      go_ret
      exact ⟨rfl, Below.refl _ _⟩
    · by_cases h3 : shift < many - 1
      · go_enter Try.func56, Try.ntmps56
        go_wp2
        go_ret
        exact ⟨rfl, Below.refl _ _⟩
      · have h4 : 20 < shift := by omega
        go_enter Try.func56, Try.ntmps56
        go_wp2
        go_ret
        exact ⟨rfl, Below.refl _ _⟩
theorem roctaves_any (S : Nat) (stage x z shift many : Int) (w : World) (hS : S < 18446744073709551616) (hst : -9223372036854775808 ≤ stage ∧ stage ≤ 9223372036854775807) (hx : -9223372036854775808 ≤ x ∧ x ≤ 9223372036854775807) (hz : -9223372036854775808 ≤ z ∧ z ≤ 9223372036854775807) (hm : -9223372036854775808 ≤ many ∧ many ≤ 9223372036854775807) :
    Calls Try.prog 56 #[.int .u64 S, .int .i64 stage, .int .i64 x, .int .i64 z, .int .i64 shift, .int .i64 many] w fun e w' => e = .returned (.int .i64 (octN S stage x z shift many)) ∧ Below w.heap.size w w' := by
  by_cases h : many < 1 ∨ 8 < many ∨ shift < many - 1 ∨ 20 < shift
  · rw [octN_out S stage x z h]
    exact roctaves_out S stage x z shift many w hm h
  · rw [octN_in S stage x z (by omega) (by omega) (by omega) (by omega)]
    exact roctaves_in S stage x z shift many w hS hst hx hz (by omega) (by omega) (by omega) (by omega)
end Go.Proofs.Ytajjaeaknonmfaa.N