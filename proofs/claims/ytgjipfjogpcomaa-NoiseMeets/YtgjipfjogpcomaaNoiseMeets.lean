/-
  NoiseMeetsSaid is proved: for every number of 64 bits and every four integers the statement NoiseMeets returns true, without any condition.
-/
import Derived.Test.YtgjipfjogpcomaaFrame
namespace Go.Proofs.Ytgjipfjogpcomaa
open Go.ChangeShapes Go.WideShapes Go.ChangeAt Go.RowKit

theorem times_bd {x P : Int} (hx : -1099511627776 ≤ x ∧ x ≤ 1099511627776) (hP : 1 ≤ P ∧ P ≤ 1048576) : -1152921504606846976 ≤ x * P ∧ x * P ≤ 1152921504606846976 := by
  rcases Int.lt_or_le x 0 with k | k
  · have a : x * P ≤ 0 := Int.mul_nonpos_of_nonpos_of_nonneg (by omega) (by omega)
    have b : (-x) * P ≤ 1099511627776 * 1048576 := Int.mul_le_mul (by omega) hP.2 (by omega) (by omega)
    rw [Int.neg_mul] at b
    omega
  · have a : 0 ≤ x * P := Int.mul_nonneg k (by omega)
    have b : x * P ≤ 1099511627776 * 1048576 := Int.mul_le_mul hx.2 hP.2 (by omega) (by omega)
    omega
/-- At a corner the height is the corner's. -/
theorem flat_meets (S : Nat) (stage x z shift : Int) (hx : -1099511627776 ≤ x ∧ x ≤ 1099511627776) (hz : -1099511627776 ≤ z ∧ z ≤ 1099511627776) (h0 : 0 ≤ shift) (h1 : shift ≤ 20) :
    flatN S stage (x * wide shift) (z * wide shift) shift = latN S stage x z := by
  have hP := wide_bd h0 h1
  rw [flatN_in S stage _ _ h0 h1, flat_corner _ _ _ _ (by omega)]
  unfold plane
  rw [w64_in (by omega), w64_in (by omega)]
theorem flat_ones (S : Nat) (stage x z : Int) (hx : -1099511627776 ≤ x ∧ x ≤ 1099511627776) (hz : -1099511627776 ≤ z ∧ z ≤ 1099511627776) :
    flatN S stage x z 0 = latN S stage x z := by
  have e := flat_meets S stage x z 0 hx hz (by omega) (by omega)
  rw [show wide 0 = 1 from rfl, Int.mul_one, Int.mul_one] at e
  exact e
set_option maxHeartbeats 2000000 in
theorem noiseMeets_walk (s stage x z shift : Int) (w : World) (hX0 : 0 ≤ s ∧ s ≤ 18446744073709551615) :
    Calls Try.prog 6 #[.int .u64 s, .int .i64 stage, .int .i64 x, .int .i64 z, .int .i64 shift] w fun e w' => e = .returned (.bool true) ∧ Below w.heap.size w w' := by
  obtain ⟨X, rfl⟩ := Int.eq_ofNat_of_zero_le hX0.1
  have hX : X < 18446744073709551616 := by omega
  clear hX0
  by_cases c0 : shift < 0
  · go_enter Try.func6, Try.ntmps6
    go_wp2_with fail
    refine (awake_any _).mono ?_
    rintro e w1 ⟨rfl, hw⟩
    have H1 : Hid (Below w.heap.size w w1) := hw
    clear hw
    go_wp2
    go_ret
    exact ⟨rfl, H1.out⟩
  by_cases c1 : 20 < shift
  · go_enter Try.func6, Try.ntmps6
    go_wp2_with fail
    refine (awake_any _).mono ?_
    rintro e w1 ⟨rfl, hw⟩
    have H1 : Hid (Below w.heap.size w w1) := hw
    clear hw
    go_wp2
    go_ret
    exact ⟨rfl, H1.out⟩
  by_cases c2 : x < -1099511627776
  · go_enter Try.func6, Try.ntmps6
    go_wp2_with fail
    refine (awake_any _).mono ?_
    rintro e w1 ⟨rfl, hw⟩
    have H1 : Hid (Below w.heap.size w w1) := hw
    clear hw
    go_wp2
    go_ret
    exact ⟨rfl, H1.out⟩
  by_cases c3 : 1099511627776 < x
  · go_enter Try.func6, Try.ntmps6
    go_wp2_with fail
    refine (awake_any _).mono ?_
    rintro e w1 ⟨rfl, hw⟩
    have H1 : Hid (Below w.heap.size w w1) := hw
    clear hw
    go_wp2
    go_ret
    exact ⟨rfl, H1.out⟩
  by_cases c4 : z < -1099511627776
  · go_enter Try.func6, Try.ntmps6
    go_wp2_with fail
    refine (awake_any _).mono ?_
    rintro e w1 ⟨rfl, hw⟩
    have H1 : Hid (Below w.heap.size w w1) := hw
    clear hw
    go_wp2
    go_ret
    exact ⟨rfl, H1.out⟩
  by_cases c5 : 1099511627776 < z
  · go_enter Try.func6, Try.ntmps6
    go_wp2_with fail
    refine (awake_any _).mono ?_
    rintro e w1 ⟨rfl, hw⟩
    have H1 : Hid (Below w.heap.size w w1) := hw
    clear hw
    go_wp2
    go_ret
    exact ⟨rfl, H1.out⟩
  have hP := wide_bd (shift := shift) (by omega) (by omega)
  have hp : wrap64 ((2 : Int) ^ shift.toNat) = wide shift := w64_in ⟨by have := hP.1; unfold wide at this; omega, by have := hP.2; unfold wide at this; omega⟩
  have hxP := times_bd (x := x) (P := wide shift) (by omega) hP
  have hzP := times_bd (x := z) (P := wide shift) (by omega) hP
  have HF := flat_any X stage (x * wide shift) (z * wide shift) shift
  rw [flat_meets X stage x z shift (by omega) (by omega) (by omega) (by omega)] at HF
  have HO := flat_any X stage x z 0
  rw [flat_ones X stage x z (by omega) (by omega)] at HO
  have HL := fun w => lattice_any X stage x z w hX
  generalize wide shift = P at *
  generalize latN X stage x z = n at *
  go_enter Try.func6, Try.ntmps6
  go_wp2_with fail
  refine (awake_any _).mono ?_
  rintro e w1 ⟨rfl, hw⟩
  have H1 : Hid (Below w.heap.size w w1) := hw
  clear hw
  go_wp2_with fail
  refine (HF _ hX (by omega) (by omega)).mono ?_
  rintro e w2 ⟨rfl, hw⟩
  have H2 : Hid (Below w.heap.size w w2) := H1.out.trans (hw.mono H1.out.size)
  clear hw H1
  go_wp2_with fail
  refine (HL _).mono ?_
  rintro e w' ⟨rfl, hw⟩
  subst w'
  go_wp2_with fail
  refine (HO _ hX (by omega) (by omega)).mono ?_
  rintro e w3 ⟨rfl, hw⟩
  have H3 : Hid (Below w.heap.size w w3) := H2.out.trans (hw.mono H2.out.size)
  clear hw H2
  go_wp2_with fail
  refine (HL _).mono ?_
  rintro e w' ⟨rfl, hw⟩
  subst w'
  go_wp2
  go_ret
  exact ⟨rfl, H3.out⟩

set_option maxRecDepth 100000 in
theorem noiseMeets_lifted (os : Os) (started : os.Started) (H : Type) (enc : TypeId × Value → H) :
    ReturnsInHanded {} Try.checked os 6 .any (Rows.noiseMeetsSpec.pre6 enc Try.prog Try.f6 Rows.noiseMeetsRow.domain false) (Rows.noiseMeetsSpec.post enc Try.prog Try.f6 false true false false) := by
  refine returnsInHanded_of_change (C := Try.checked) own started (by kernel_rfl) Try.func6
    (ChangeSpec.witness6 (enc := enc) (C := Try.checked) false ⟨#[], #[.int .u64 0, .int .i64 0, .int .i64 0, .int .i64 0, .int .i64 0], []⟩ 8 (by kernel_rfl) (by kernel_rfl) (by kernel_rfl) (by kernel_rfl)) ?_
  intro W base args ds gs before hval0 hW _ _
  have hval : ∀ (j : Nat) t v, Try.f6.params[j]? = some t → args[j]? = some v → Value.okWide Try.prog W .any base t v := hval0
  have hW' := hW
  obtain ⟨p, q, hA0, hV, rfl, hfz, hnd⟩ := hW
  have hA : DataW.TrodAll enc Try.prog W 0 (fun _ => true) true Try.f6.params.toList args.toList ds p := hA0
  rw [Try.params6] at hA hval
  obtain ⟨v0, vs0, d0, ds0, p0, q0, hargs, rfl, rfl, h0, r0⟩ := trodAll_cons hA
  obtain ⟨v1, vs1, d1, ds1, p1, q1, rfl, rfl, rfl, h1, r1⟩ := trodAll_cons r0
  obtain ⟨v2, vs2, d2, ds2, p2, q2, rfl, rfl, rfl, h2, r2⟩ := trodAll_cons r1
  obtain ⟨v3, vs3, d3, ds3, p3, q3, rfl, rfl, rfl, h3, r3⟩ := trodAll_cons r2
  obtain ⟨v4, vs4, d4, ds4, p4, q4, rfl, rfl, rfl, h4, r4⟩ := trodAll_cons r3
  obtain ⟨rfl, rfl, rfl⟩ := trodAll_nil r4
  obtain rfl : args = #[v0, v1, v2, v3, v4] := by cases args; simp_all
  obtain ⟨rfl, rfl⟩ := trodVars_none hV
  obtain ⟨a0, rfl, rfl, rfl, w0⟩ := open_int Try.underlying22 (hval 0 22 v0 rfl rfl) h0
  obtain ⟨a1, rfl, rfl, rfl, w1⟩ := open_int Try.underlying3 (hval 1 3 v1 rfl rfl) h1
  obtain ⟨a2, rfl, rfl, rfl, w2⟩ := open_int Try.underlying3 (hval 2 3 v2 rfl rfl) h2
  obtain ⟨a3, rfl, rfl, rfl, w3⟩ := open_int Try.underlying3 (hval 3 3 v3 rfl rfl) h3
  obtain ⟨a4, rfl, rfl, rfl, w4⟩ := open_int Try.underlying3 (hval 4 3 v4 rfl rfl) h4
  clear hA0 hval0
  refine (noiseMeets_walk a0 a1 a2 a3 a4 W (bdu64 w0)).mono fun e W' ⟨he, bel⟩ => ?_
  subst he
  exact ⟨_, rfl, _, _, _, [], _, [], hW', trodAll_mk1 (shut_bool Try.underlying4 _), (trodAll_cons_mk (shut_int Try.underlying22 w0) (trodAll_cons_mk (shut_int Try.underlying3 w1) (trodAll_cons_mk (shut_int Try.underlying3 w2) (trodAll_cons_mk (shut_int Try.underlying3 w3) (trodAll_cons_mk (shut_int Try.underlying3 w4) trodAll_mk0))))), rfl, bel.frame _, fun h => by cases h⟩

theorem noiseMeets_holds : Rows.NoiseMeetsSaid :=
  OpenClaim.holds_of_wide 6 Try.f6 rfl rfl rfl rfl rfl rfl rfl ⟨rfl, rfl, rfl, rfl, rfl⟩ rfl rfl rfl rfl rfl (by kernel_rfl) Try.func6 (by kernel_rfl)
    (of_decide_eq_true (by kernel_rfl)) (by unfold Func.isWrapper; rw [if_neg (of_decide_eq_false (by kernel_rfl))]; exact ⟨rfl, rfl⟩)
    (fun os started H enc _ => noiseMeets_lifted os started H enc)
#print axioms noiseMeets_holds
end Go.Proofs.Ytgjipfjogpcomaa
