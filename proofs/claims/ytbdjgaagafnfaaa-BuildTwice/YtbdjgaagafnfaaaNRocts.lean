/-
  What the document's Flat answers, for every number: the same as the program's; it leaves new blocks behind it.
  What the document's Octaves answers, for every number: the same as the program's; it leaves new blocks behind it.
-/
import Derived.Test.YtbdjgaagafnfaaaNOcts
namespace Go.Proofs.Ytbdjgaagafnfaaa.N
section
open Go.RowKit

set_option maxHeartbeats 400000 in
theorem rbetween_any (a b t : Int) (w : World) (ha : 0 ≤ a ∧ a ≤ 65535) (hb : 0 ≤ b ∧ b ≤ 65535) (ht : 0 ≤ t ∧ t ≤ 65536) :
    Calls Try.prog 86 #[.int .i64 a, .int .i64 b, .int .i64 t] w fun e w' => e = .returned (.int .i64 (btw a b t)) ∧ w' = w := by
  have hs := side_bd ha hb ht
  have hB := btw_bd ha hb ht
  have HE : Hid (btw a b t = a + (b - a) * t / 65536) := rfl
  have hB2 : 0 ≤ a + (b - a) * t / 65536 ∧ a + (b - a) * t / 65536 ≤ 65535 := hB
  clear hB
  go_enter Try.func86, Try.ntmps86
  go_wp2_with fail
  refine (rdiv_hi ((b - a) * t) 65536 _ (by omega) (by omega) (by omega) (by omega)).mono ?_
  rintro e w' ⟨rfl, hw⟩
  subst w'
  go_wp2
  go_ret
  exact ⟨ret_int HE.out.symm, rfl⟩
theorem wide_nat (k : Nat) : wide (k : Int) = 2 ^ k := by unfold wide; rw [Int.toNat_natCast]
theorem wide_succ (k : Nat) : wide ((k : Int) + 1) = wide k * 2 := by
  have e : ((k : Int) + 1) = ((k + 1 : Nat) : Int) := by omega
  rw [e, wide_nat, wide_nat, Int.pow_succ]
theorem flat_lat (S : Nat) (stage x z P : Int) (hx : -9223372036854775808 ≤ x / P ∧ x / P ≤ 9223372036854775807) (hz : -9223372036854775808 ≤ z / P ∧ z / P ≤ 9223372036854775807) :
    flat (plane S stage) x z P = btw (btw (latN S stage (x / P) (z / P)) (latN S stage (wrap64 (x / P + 1)) (z / P)) (frac x P)) (btw (latN S stage (x / P) (wrap64 (z / P + 1))) (latN S stage (wrap64 (x / P + 1)) (wrap64 (z / P + 1))) (frac x P)) (frac z P) := by
  have e : flat (plane S stage) x z P = btw (btw (plane S stage (x / P) (z / P)) (plane S stage (x / P + 1) (z / P)) (frac x P)) (btw (plane S stage (x / P) (z / P + 1)) (plane S stage (x / P + 1) (z / P + 1)) (frac x P)) (frac z P) := rfl
  rw [e]
  unfold plane
  rw [w64_in hx, w64_in hz]
set_option maxHeartbeats 1000000 in
theorem rflat_in (S : Nat) (stage x z shift : Int) (w : World) (hS : S < 18446744073709551616) (hx : -9223372036854775808 ≤ x ∧ x ≤ 9223372036854775807) (hz : -9223372036854775808 ≤ z ∧ z ≤ 9223372036854775807) (h0 : 0 ≤ shift) (h1 : shift ≤ 20) :
    Calls Try.prog 78 #[.int .u64 S, .int .i64 stage, .int .i64 x, .int .i64 z, .int .i64 shift] w fun e w' => e = .returned (.int .i64 (flat (plane S stage) x z (wide shift))) ∧ Below w.heap.size w w' := by
  have hw := wide_bd h0 h1
  obtain ⟨P, hP⟩ : ∃ P, wide shift = P := ⟨_, rfl⟩
  have HP : Hid (wide shift = P) := hP
  rw [hP] at hw ⊢
  clear hP
  have hcx := div_in hx hw.1
  have hcz := div_in hz hw.1
  have HE : Hid _ := flat_lat S stage x z P hcx hcz
  have hr := rest_bd (v := x) hw.1 hw.2
  have hr2 := rest_bd (v := z) hw.1 hw.2
  go_enter Try.func78, Try.ntmps78
  go_wp2_with fail
  go_loop [11, 12] (fun s i => ∃ k : Nat, (k : Int) ≤ shift ∧ i = .int .i64 k ∧ s = .int .i64 (wide k)) (fun _ i => shift.toNat - (intOf i).toNat)
  case atStart => exact ⟨0, by omega, rfl, rfl⟩
  case round =>
    obtain ⟨k, hk, rfl, rfl⟩ := hrel
    by_cases hks : (k : Int) < shift
    · have HW : Hid _ := wide_succ k
      have hb := wide_bd (shift := (k : Int)) (by omega) (by omega)
      go_wp2
      go_round
      case rel => exact ⟨k + 1, by omega, rfl, by rw [show ((k + 1 : Nat) : Int) = (k : Int) + 1 by omega, HW.out]⟩
      case measure => simp [intOf]; omega
    · have hks2 : (k : Int) = shift := by omega
      clear hks
      rw [hks2, HP.out]
      go_wp2_with fail
      refine (rdiv_hi x P _ hw.1 (by omega) hx.1 hx.2).mono ?_
      rintro e w' ⟨rfl, hw'⟩
      subst w'
      go_wp2_with fail
      refine (rdiv_hi z P _ hw.1 (by omega) hz.1 hz.2).mono ?_
      rintro e w' ⟨rfl, hw'⟩
      subst w'
      go_wp2_with fail
      refine (rmod_hi x P _ hw.1 (by omega) hx.1 hx.2).mono ?_
      rintro e w' ⟨rfl, hw'⟩
      subst w'
      have FX : Hid (frac x P = fade (x % P * 65536 / P)) := rfl
      have FZ : Hid (frac z P = fade (z % P * 65536 / P)) := rfl
      have htx : Hid _ := frac_bd x P
      have htz : Hid _ := frac_bd z P
      have ha : Hid _ := lat_bd S stage (x / P) (z / P)
      have hb : Hid _ := lat_bd S stage (wrap64 (x / P + 1)) (z / P)
      have hc : Hid _ := lat_bd S stage (x / P) (wrap64 (z / P + 1))
      have hd : Hid _ := lat_bd S stage (wrap64 (x / P + 1)) (wrap64 (z / P + 1))
      go_wp2_with fail
      refine (rfade_any _ _).mono ?_
      rw [← FX.out]
      rintro e w' ⟨rfl, hw'⟩
      subst w'
      clear FX
      generalize frac x P = tx at *
      go_wp2_with fail
      refine (rmod_hi z P _ hw.1 (by omega) hz.1 hz.2).mono ?_
      rintro e w' ⟨rfl, hw'⟩
      subst w'
      go_wp2_with fail
      refine (rfade_any _ _).mono ?_
      rw [← FZ.out]
      rintro e w' ⟨rfl, hw'⟩
      subst w'
      clear FZ
      generalize frac z P = tz at *
      go_wp2_with fail
      refine (rlattice_any S stage (x / P) (z / P) _ hS).mono ?_
      rintro e w1 ⟨rfl, hw1⟩
      have H1 : Hid (Below w.heap.size w w1) := hw1
      clear hw1
      go_wp2_with fail
      refine (rlattice_any S stage (wrap64 (x / P + 1)) (z / P) _ hS).mono ?_
      rintro e w2 ⟨rfl, hw2⟩
      have H2 : Hid (Below w.heap.size w w2) := H1.out.trans (hw2.mono H1.out.size)
      clear hw2 H1
      generalize latN S stage (x / P) (z / P) = a at *
      generalize latN S stage (wrap64 (x / P + 1)) (z / P) = b at *
      go_wp2_with fail
      refine (rbetween_any a b tx _ ha.out hb.out htx.out).mono ?_
      rintro e w' ⟨rfl, hw'⟩
      subst w'
      have hp : Hid _ := btw_bd ha.out hb.out htx.out
      generalize btw a b tx = p at *
      go_wp2_with fail
      refine (rlattice_any S stage (x / P) (wrap64 (z / P + 1)) _ hS).mono ?_
      rintro e w3 ⟨rfl, hw1⟩
      have H3 : Hid (Below w.heap.size w w3) := H2.out.trans (hw1.mono H2.out.size)
      clear hw1 H2
      go_wp2_with fail
      refine (rlattice_any S stage (wrap64 (x / P + 1)) (wrap64 (z / P + 1)) _ hS).mono ?_
      rintro e w4 ⟨rfl, hw2⟩
      have H4 : Hid (Below w.heap.size w w4) := H3.out.trans (hw2.mono H3.out.size)
      clear hw2 H3
      generalize latN S stage (x / P) (wrap64 (z / P + 1)) = c at *
      generalize latN S stage (wrap64 (x / P + 1)) (wrap64 (z / P + 1)) = d at *
      go_wp2_with fail
      refine (rbetween_any c d tx _ hc.out hd.out htx.out).mono ?_
      rintro e w' ⟨rfl, hw'⟩
      subst w'
      have hq : Hid _ := btw_bd hc.out hd.out htx.out
      generalize btw c d tx = q at *
      go_wp2_with fail
      refine (rbetween_any p q tz _ hp.out hq.out htz.out).mono ?_
      rintro e w' ⟨rfl, hw'⟩
      subst w'
      go_wp2
      go_ret
      exact ⟨ret_int HE.out.symm, H4.out⟩
set_option maxHeartbeats 400000 in
theorem rflat_out (S : Nat) (stage x z shift : Int) (w : World) (h : shift < 0 ∨ 20 < shift) :
    Calls Try.prog 78 #[.int .u64 S, .int .i64 stage, .int .i64 x, .int .i64 z, .int .i64 shift] w fun e w' => e = .returned (.int .i64 0) ∧ Below w.heap.size w w' := by
  by_cases h1 : shift < 0
  · go_enter Try.func78, Try.ntmps78
    go_wp2
    go_ret
    exact ⟨rfl, Below.refl _ _⟩
  · have h2 : 20 < shift := by omega
    go_enter Try.func78, Try.ntmps78
    go_wp2
    go_ret
    exact ⟨rfl, Below.refl _ _⟩
theorem rflat_any (S : Nat) (stage x z shift : Int) (w : World) (hS : S < 18446744073709551616) (hx : -9223372036854775808 ≤ x ∧ x ≤ 9223372036854775807) (hz : -9223372036854775808 ≤ z ∧ z ≤ 9223372036854775807) :
    Calls Try.prog 78 #[.int .u64 S, .int .i64 stage, .int .i64 x, .int .i64 z, .int .i64 shift] w fun e w' => e = .returned (.int .i64 (flatN S stage x z shift)) ∧ Below w.heap.size w w' := by
  by_cases h : shift < 0 ∨ 20 < shift
  · rw [flatN_out S stage x z h]
    exact rflat_out S stage x z shift w h
  · rw [flatN_in S stage x z (by omega) (by omega)]
    exact rflat_in S stage x z shift w hS hx hz (by omega) (by omega)
end
section
open Go.RowKit

theorem octs_wide (S : Nat) (stage x z shift : Int) (k : Nat) : octs S stage x z shift (k + 1) = octs S stage x z shift k + flatN S (wrap64 (stage + 100 * k)) x z (shift - k) / wide ((k : Int) + 1) := by
  have e : ((k : Int) + 1) = ((k + 1 : Nat) : Int) := by omega
  rw [e, wide_nat]
  rfl
set_option maxHeartbeats 1000000 in
theorem roctaves_in (S : Nat) (stage x z shift many : Int) (w : World) (hS : S < 18446744073709551616) (_hst : -9223372036854775808 ≤ stage ∧ stage ≤ 9223372036854775807) (hx : -9223372036854775808 ≤ x ∧ x ≤ 9223372036854775807) (hz : -9223372036854775808 ≤ z ∧ z ≤ 9223372036854775807) (m0 : 1 ≤ many) (m1 : many ≤ 8) (h0 : many - 1 ≤ shift) (h1 : shift ≤ 20) :
    Calls Try.prog 69 #[.int .u64 S, .int .i64 stage, .int .i64 x, .int .i64 z, .int .i64 shift, .int .i64 many] w fun e w' => e = .returned (.int .i64 (octs S stage x z shift many.toNat)) ∧ Below w.heap.size w w' := by
  have e1 : ¬ many < 1 := by omega
  have e2 : ¬ 8 < many := by omega
  have e3 : ¬ shift < many - 1 := by omega
  have e4 : ¬ 20 < shift := by omega
  go_enter Try.func69, Try.ntmps69
  go_wp2_with fail
  go_loopw [13, 14, 15] (fun s h i wr => ∃ k : Nat, (k : Int) ≤ many ∧ i = .int .i64 k ∧ h = .int .i64 (wide ((k : Int) + 1)) ∧ s = .int .i64 (octs S stage x z shift k) ∧ Below w.heap.size w wr) (fun _ _ i _ => many.toNat - (intOf i).toNat)
  case atStart => exact ⟨0, by omega, rfl, rfl, rfl, Below.refl _ _⟩
  case round =>
    obtain ⟨k, hk, rfl, rfl, rfl, hbel⟩ := hrel
    have HB : Hid _ := hbel
    clear hbel
    by_cases hks : (k : Int) < many
    · have HW : Hid (wide (((k + 1 : Nat) : Int) + 1) = wide ((k : Int) + 1) * 2) := wide_succ (k + 1)
      have HO : Hid _ := octs_wide S stage x z shift k
      have hh := wide_bd (shift := (k : Int) + 1) (by omega) (by omega)
      go_wp2_with fail
      refine (rflat_any S (wrap64 (stage + 100 * k)) x z (shift - k) _ hS hx hz).mono ?_
      rintro e w1 ⟨rfl, hw1⟩
      have H1 : Hid (Below w.heap.size w w1) := HB.out.trans (hw1.mono HB.out.size)
      clear hw1 HB
      have hob := octs_bd S stage x z shift k (by omega)
      have hob2 := octs_bd S stage x z shift (k + 1) (by omega)
      have hf := flatN_bd S (wrap64 (stage + 100 * k)) x z (shift - k)
      generalize wide ((k : Int) + 1) = h at *
      have hq0 : 0 ≤ flatN S (wrap64 (stage + 100 * k)) x z (shift - k) / h := Int.ediv_nonneg hf.1 (by omega)
      have hq1 : flatN S (wrap64 (stage + 100 * k)) x z (shift - k) / h ≤ 65535 := Int.le_trans (Int.ediv_le_self _ hf.1) hf.2
      have ho1 : octs S stage x z shift k ≤ 65536 := by have : (0 : Int) ≤ 65536 / 2 ^ k := Int.ediv_nonneg (by omega) (Int.pow_nonneg (by omega)); omega
      have ho0 := hob.1
      clear hob hob2
      go_wp2_with fail
      go_roundw
      case rel => exact ⟨k + 1, by omega, rfl, by rw [HW.out], by rw [HO.out], H1.out⟩
      case measure => simp [intOf]; omega
    · have hk2 : Hid (many.toNat = k) := by show _ = _; omega
      go_wp2
      go_ret
      exact ⟨ret_int (by rw [hk2.out]), HB.out⟩
set_option maxHeartbeats 400000 in
theorem roctaves_out (S : Nat) (stage x z shift many : Int) (w : World) (hm : -9223372036854775808 ≤ many ∧ many ≤ 9223372036854775807) (h : many < 1 ∨ 8 < many ∨ shift < many - 1 ∨ 20 < shift) :
    Calls Try.prog 69 #[.int .u64 S, .int .i64 stage, .int .i64 x, .int .i64 z, .int .i64 shift, .int .i64 many] w fun e w' => e = .returned (.int .i64 0) ∧ Below w.heap.size w w' := by
  by_cases h1 : many < 1
  · go_enter Try.func69, Try.ntmps69
    go_wp2
    go_ret
    exact ⟨rfl, Below.refl _ _⟩
  · by_cases h2 : 8 < many
    · go_enter Try.func69, Try.ntmps69
      go_wp2
      go_ret
      exact ⟨rfl, Below.refl _ _⟩
    · by_cases h3 : shift < many - 1
      · go_enter Try.func69, Try.ntmps69
        go_wp2
        go_ret
        exact ⟨rfl, Below.refl _ _⟩
      · have h4 : 20 < shift := by omega
        go_enter Try.func69, Try.ntmps69
        go_wp2
        go_ret
        exact ⟨rfl, Below.refl _ _⟩
theorem roctaves_any (S : Nat) (stage x z shift many : Int) (w : World) (hS : S < 18446744073709551616) (hst : -9223372036854775808 ≤ stage ∧ stage ≤ 9223372036854775807) (hx : -9223372036854775808 ≤ x ∧ x ≤ 9223372036854775807) (hz : -9223372036854775808 ≤ z ∧ z ≤ 9223372036854775807) (hm : -9223372036854775808 ≤ many ∧ many ≤ 9223372036854775807) :
    Calls Try.prog 69 #[.int .u64 S, .int .i64 stage, .int .i64 x, .int .i64 z, .int .i64 shift, .int .i64 many] w fun e w' => e = .returned (.int .i64 (octN S stage x z shift many)) ∧ Below w.heap.size w w' := by
  by_cases h : many < 1 ∨ 8 < many ∨ shift < many - 1 ∨ 20 < shift
  · rw [octN_out S stage x z h]
    exact roctaves_out S stage x z shift many w hm h
  · rw [octN_in S stage x z (by omega) (by omega) (by omega) (by omega)]
    exact roctaves_in S stage x z shift many w hS hst hx hz (by omega) (by omega) (by omega) (by omega)
end
end Go.Proofs.Ytbdjgaagafnfaaa.N
