/-
  NoiseSlopesSaid is proved: for every number of 64 bits and every four integers the statement NoiseSlopes returns true, without any condition.
-/
import Derived.Test.YtgjipfjogpcomabFrame
namespace Go.Proofs.Ytgjipfjogpcomab
open Go.ChangeShapes Go.WideShapes Go.ChangeAt Go.RowKit

theorem wide_parts {shift : Int} (h0 : 0 ≤ shift) (h1 : shift ≤ 20) : ∃ d : Int, wide shift * d = 65536 ∨ 65536 ≤ wide shift ∧ d = 1 := by
  have h : shift = 0 ∨ shift = 1 ∨ shift = 2 ∨ shift = 3 ∨ shift = 4 ∨ shift = 5 ∨ shift = 6 ∨ shift = 7 ∨ shift = 8 ∨ shift = 9 ∨ shift = 10 ∨ shift = 11 ∨ shift = 12 ∨ shift = 13 ∨ shift = 14 ∨ shift = 15 ∨ shift = 16 ∨ shift = 17 ∨ shift = 18 ∨ shift = 19 ∨ shift = 20 := by omega
  rcases h with rfl | rfl | rfl | rfl | rfl | rfl | rfl | rfl | rfl | rfl | rfl | rfl | rfl | rfl | rfl | rfl | rfl | rfl | rfl | rfl | rfl
  · exact ⟨65536, .inl (by decide +kernel)⟩
  · exact ⟨32768, .inl (by decide +kernel)⟩
  · exact ⟨16384, .inl (by decide +kernel)⟩
  · exact ⟨8192, .inl (by decide +kernel)⟩
  · exact ⟨4096, .inl (by decide +kernel)⟩
  · exact ⟨2048, .inl (by decide +kernel)⟩
  · exact ⟨1024, .inl (by decide +kernel)⟩
  · exact ⟨512, .inl (by decide +kernel)⟩
  · exact ⟨256, .inl (by decide +kernel)⟩
  · exact ⟨128, .inl (by decide +kernel)⟩
  · exact ⟨64, .inl (by decide +kernel)⟩
  · exact ⟨32, .inl (by decide +kernel)⟩
  · exact ⟨16, .inl (by decide +kernel)⟩
  · exact ⟨8, .inl (by decide +kernel)⟩
  · exact ⟨4, .inl (by decide +kernel)⟩
  · exact ⟨2, .inl (by decide +kernel)⟩
  · exact ⟨1, .inl (by decide +kernel)⟩
  · exact ⟨1, .inr (by decide +kernel)⟩
  · exact ⟨1, .inr (by decide +kernel)⟩
  · exact ⟨1, .inr (by decide +kernel)⟩
  · exact ⟨1, .inr (by decide +kernel)⟩
/-- Heights of two places side by side lie near one another. -/
theorem flat_slopes (S : Nat) (stage x z : Int) {shift : Int} (h0 : 0 ≤ shift) (h1 : shift ≤ 20) :
    (flatN S stage (x + 1) z shift - flatN S stage x z shift ≤ 98304 / wide shift + 6 ∧ flatN S stage x z shift - flatN S stage (x + 1) z shift ≤ 98304 / wide shift + 6) ∧
    flatN S stage x (z + 1) shift - flatN S stage x z shift ≤ 98304 / wide shift + 6 ∧ flatN S stage x z shift - flatN S stage x (z + 1) shift ≤ 98304 / wide shift + 6 := by
  obtain ⟨d, hd⟩ := wide_parts h0 h1
  have hP := wide_bd h0 h1
  rw [flatN_in S stage _ _ h0 h1, flatN_in S stage _ _ h0 h1, flatN_in S stage _ _ h0 h1]
  exact ⟨slope_x _ (plane_bd S stage) x z (by omega) hd, slope_z _ (plane_bd S stage) x z (by omega) hd⟩
theorem most_bd {P : Int} (h : 1 ≤ P) : 0 ≤ 98304 / P ∧ 98304 / P ≤ 98304 := ⟨Int.ediv_nonneg (by omega) (by omega), Int.ediv_le_self _ (by omega)⟩
set_option maxHeartbeats 2000000 in
theorem noiseSlopes_walk (s stage x z shift : Int) (w : World) (hX0 : 0 ≤ s ∧ s ≤ 18446744073709551615) :
    Calls Try.prog 3 #[.int .u64 s, .int .i64 stage, .int .i64 x, .int .i64 z, .int .i64 shift] w fun e w' => e = .returned (.bool true) ∧ Below w.heap.size w w' := by
  obtain ⟨X, rfl⟩ := Int.eq_ofNat_of_zero_le hX0.1
  have hX : X < 18446744073709551616 := by omega
  clear hX0
  by_cases c0 : shift < 0
  · go_enter Try.func3, Try.ntmps3
    go_wp2_with fail
    refine (awake_any _).mono ?_
    rintro e w1 ⟨rfl, hw⟩
    have H1 : Hid (Below w.heap.size w w1) := hw
    clear hw
    go_wp2
    go_ret
    exact ⟨rfl, H1.out⟩
  by_cases c1 : 20 < shift
  · go_enter Try.func3, Try.ntmps3
    go_wp2_with fail
    refine (awake_any _).mono ?_
    rintro e w1 ⟨rfl, hw⟩
    have H1 : Hid (Below w.heap.size w w1) := hw
    clear hw
    go_wp2
    go_ret
    exact ⟨rfl, H1.out⟩
  by_cases c2 : x < -1099511627776
  · go_enter Try.func3, Try.ntmps3
    go_wp2_with fail
    refine (awake_any _).mono ?_
    rintro e w1 ⟨rfl, hw⟩
    have H1 : Hid (Below w.heap.size w w1) := hw
    clear hw
    go_wp2
    go_ret
    exact ⟨rfl, H1.out⟩
  by_cases c3 : 1099511627776 < x
  · go_enter Try.func3, Try.ntmps3
    go_wp2_with fail
    refine (awake_any _).mono ?_
    rintro e w1 ⟨rfl, hw⟩
    have H1 : Hid (Below w.heap.size w w1) := hw
    clear hw
    go_wp2
    go_ret
    exact ⟨rfl, H1.out⟩
  by_cases c4 : z < -1099511627776
  · go_enter Try.func3, Try.ntmps3
    go_wp2_with fail
    refine (awake_any _).mono ?_
    rintro e w1 ⟨rfl, hw⟩
    have H1 : Hid (Below w.heap.size w w1) := hw
    clear hw
    go_wp2
    go_ret
    exact ⟨rfl, H1.out⟩
  by_cases c5 : 1099511627776 < z
  · go_enter Try.func3, Try.ntmps3
    go_wp2_with fail
    refine (awake_any _).mono ?_
    rintro e w1 ⟨rfl, hw⟩
    have H1 : Hid (Below w.heap.size w w1) := hw
    clear hw
    go_wp2
    go_ret
    exact ⟨rfl, H1.out⟩
  have hP := wide_bd (shift := shift) (by omega) (by omega)
  have hp : (2 : Int) ^ shift.toNat = wide shift := rfl
  have hs := flat_slopes X stage x z (shift := shift) (by omega) (by omega)
  have hm := most_bd hP.1
  have ha := flatN_bd X stage x z shift
  have hb := flatN_bd X stage (x + 1) z shift
  have hc := flatN_bd X stage x (z + 1) shift
  have HA := flat_any X stage x z shift
  have HB := flat_any X stage (x + 1) z shift
  have HC := flat_any X stage x (z + 1) shift
  generalize flatN X stage x z shift = a at *
  generalize flatN X stage (x + 1) z shift = b at *
  generalize flatN X stage x (z + 1) shift = c at *
  generalize wide shift = P at *
  go_enter Try.func3, Try.ntmps3
  go_wp2_with fail
  refine (awake_any _).mono ?_
  rintro e w1 ⟨rfl, hw⟩
  have H1 : Hid (Below w.heap.size w w1) := hw
  clear hw
  go_wp2_with fail
  refine (HA _ hX (by omega) (by omega)).mono ?_
  rintro e w2 ⟨rfl, hw⟩
  have H2 : Hid (Below w.heap.size w w2) := H1.out.trans (hw.mono H1.out.size)
  clear hw H1
  go_wp2_with fail
  refine (HB _ hX (by omega) (by omega)).mono ?_
  rintro e w3 ⟨rfl, hw⟩
  have H3 : Hid (Below w.heap.size w w3) := H2.out.trans (hw.mono H2.out.size)
  clear hw H2
  go_wp2_with fail
  refine (HC _ hX (by omega) (by omega)).mono ?_
  rintro e w4 ⟨rfl, hw⟩
  have H4 : Hid (Below w.heap.size w w4) := H3.out.trans (hw.mono H3.out.size)
  clear hw H3
  go_wp2
  go_ret
  exact ⟨rfl, H4.out⟩

set_option maxRecDepth 100000 in
theorem noiseSlopes_lifted (os : Os) (started : os.Started) (H : Type) (enc : TypeId × Value → H) :
    ReturnsInHanded {} Try.checked os 3 .any (Rows.noiseSlopesSpec.pre6 enc Try.prog Try.f3 Rows.noiseSlopesRow.domain false) (Rows.noiseSlopesSpec.post enc Try.prog Try.f3 false true false false) := by
  refine returnsInHanded_of_change (C := Try.checked) own started (by kernel_rfl) Try.func3
    (ChangeSpec.witness6 (enc := enc) (C := Try.checked) false ⟨#[], #[.int .u64 0, .int .i64 0, .int .i64 0, .int .i64 0, .int .i64 0], []⟩ 8 (by kernel_rfl) (by kernel_rfl) (by kernel_rfl) (by kernel_rfl)) ?_
  intro W base args ds gs before hval0 hW _ _
  have hval : ∀ (j : Nat) t v, Try.f3.params[j]? = some t → args[j]? = some v → Value.okWide Try.prog W .any base t v := hval0
  have hW' := hW
  obtain ⟨p, q, hA0, hV, rfl, hfz, hnd⟩ := hW
  have hA : DataW.TrodAll enc Try.prog W 0 (fun _ => true) true Try.f3.params.toList args.toList ds p := hA0
  rw [Try.params3] at hA hval
  obtain ⟨v0, vs0, d0, ds0, p0, q0, hargs, rfl, rfl, h0, r0⟩ := trodAll_cons hA
  obtain ⟨v1, vs1, d1, ds1, p1, q1, rfl, rfl, rfl, h1, r1⟩ := trodAll_cons r0
  obtain ⟨v2, vs2, d2, ds2, p2, q2, rfl, rfl, rfl, h2, r2⟩ := trodAll_cons r1
  obtain ⟨v3, vs3, d3, ds3, p3, q3, rfl, rfl, rfl, h3, r3⟩ := trodAll_cons r2
  obtain ⟨v4, vs4, d4, ds4, p4, q4, rfl, rfl, rfl, h4, r4⟩ := trodAll_cons r3
  obtain ⟨rfl, rfl, rfl⟩ := trodAll_nil r4
  obtain rfl : args = #[v0, v1, v2, v3, v4] := by cases args; simp_all
  obtain ⟨rfl, rfl⟩ := trodVars_none hV
  obtain ⟨a0, rfl, rfl, rfl, w0⟩ := open_int Try.underlying22 (hval 0 22 v0 rfl rfl) h0
  obtain ⟨a1, rfl, rfl, rfl, w1⟩ := open_int Try.underlying3 (hval 1 3 v1 rfl rfl) h1
  obtain ⟨a2, rfl, rfl, rfl, w2⟩ := open_int Try.underlying3 (hval 2 3 v2 rfl rfl) h2
  obtain ⟨a3, rfl, rfl, rfl, w3⟩ := open_int Try.underlying3 (hval 3 3 v3 rfl rfl) h3
  obtain ⟨a4, rfl, rfl, rfl, w4⟩ := open_int Try.underlying3 (hval 4 3 v4 rfl rfl) h4
  clear hA0 hval0
  refine (noiseSlopes_walk a0 a1 a2 a3 a4 W (bdu64 w0)).mono fun e W' ⟨he, bel⟩ => ?_
  subst he
  exact ⟨_, rfl, _, _, _, [], _, [], hW', trodAll_mk1 (shut_bool Try.underlying4 _), (trodAll_cons_mk (shut_int Try.underlying22 w0) (trodAll_cons_mk (shut_int Try.underlying3 w1) (trodAll_cons_mk (shut_int Try.underlying3 w2) (trodAll_cons_mk (shut_int Try.underlying3 w3) (trodAll_cons_mk (shut_int Try.underlying3 w4) trodAll_mk0))))), rfl, bel.frame _, fun h => by cases h⟩

theorem noiseSlopes_holds : Rows.NoiseSlopesSaid :=
  OpenClaim.holds_of_wide 3 Try.f3 rfl rfl rfl rfl rfl rfl rfl ⟨rfl, rfl, rfl, rfl, rfl⟩ rfl rfl rfl rfl rfl (by kernel_rfl) Try.func3 (by kernel_rfl)
    (of_decide_eq_true (by kernel_rfl)) (by unfold Func.isWrapper; rw [if_neg (of_decide_eq_false (by kernel_rfl))]; exact ⟨rfl, rfl⟩)
    (fun os started H enc _ => noiseSlopes_lifted os started H enc)
#print axioms noiseSlopes_holds
end Go.Proofs.Ytgjipfjogpcomab
