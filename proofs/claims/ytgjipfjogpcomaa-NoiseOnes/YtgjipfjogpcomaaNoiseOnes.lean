/-
  NoiseOnesSaid is proved: for every number of 64 bits and every five integers the statement NoiseOnes returns true, without any condition.
-/
import Derived.Test.YtgjipfjogpcomaaFrame
namespace Go.Proofs.Ytgjipfjogpcomaa
open Go.ChangeShapes Go.WideShapes Go.ChangeAt Go.RowKit

/-- One height more adds its share at most. -/
theorem octs_more (S : Nat) (stage x z shift many : Int) (m0 : 1 ≤ many) (m1 : many ≤ 7) :
    octs S stage x z shift many.toNat ≤ octs S stage x z shift (many + 1).toNat ∧ octs S stage x z shift (many + 1).toNat - octs S stage x z shift many.toNat ≤ 65536 / 2 ^ (many + 1).toNat := by
  have e : (many + 1).toNat = many.toNat + 1 := by omega
  rw [e]
  have t := term_bd (flatN_bd S (wrap64 (stage + 100 * many.toNat)) x z (shift - many.toNat)) many.toNat (by omega)
  have o : octs S stage x z shift (many.toNat + 1) = octs S stage x z shift many.toNat + flatN S (wrap64 (stage + 100 * many.toNat)) x z (shift - many.toNat) / 2 ^ (many.toNat + 1) := rfl
  rw [o]
  omega
theorem octs_one (S : Nat) (stage x z shift : Int) (hs : -9223372036854775808 ≤ stage ∧ stage ≤ 9223372036854775807) : octs S stage x z shift 1 = flatN S stage x z shift / 2 := by
  have o : octs S stage x z shift 1 = 0 + flatN S (wrap64 (stage + 100 * (0 : Nat))) x z (shift - (0 : Nat)) / 2 ^ (0 + 1) := rfl
  rw [o, show stage + 100 * ((0 : Nat) : Int) = stage by omega, show shift - ((0 : Nat) : Int) = shift by omega, w64_in hs]
  simp
theorem share_bd (m : Nat) : 0 ≤ (65536 : Int) / 2 ^ m ∧ (65536 : Int) / 2 ^ m ≤ 65536 :=
  ⟨Int.ediv_nonneg (by omega) (Int.pow_nonneg (by omega)), Int.ediv_le_self _ (by omega)⟩
set_option maxHeartbeats 2000000 in
theorem noiseOnes_walk (s stage x z shift many : Int) (w : World) (hX0 : 0 ≤ s ∧ s ≤ 18446744073709551615) (hx : -9223372036854775808 ≤ x ∧ x ≤ 9223372036854775807) (hz : -9223372036854775808 ≤ z ∧ z ≤ 9223372036854775807) :
    Calls Try.prog 8 #[.int .u64 s, .int .i64 stage, .int .i64 x, .int .i64 z, .int .i64 shift, .int .i64 many] w fun e w' => e = .returned (.bool true) ∧ Below w.heap.size w w' := by
  obtain ⟨X, rfl⟩ := Int.eq_ofNat_of_zero_le hX0.1
  have hX : X < 18446744073709551616 := by omega
  clear hX0
  by_cases c0 : stage < -1099511627776
  · go_enter Try.func8, Try.ntmps8
    go_wp2_with fail
    refine (awake_any _).mono ?_
    rintro e w1 ⟨rfl, hw⟩
    have H1 : Hid (Below w.heap.size w w1) := hw
    clear hw
    go_wp2
    go_ret
    exact ⟨rfl, H1.out⟩
  by_cases c1 : 1099511627776 < stage
  · go_enter Try.func8, Try.ntmps8
    go_wp2_with fail
    refine (awake_any _).mono ?_
    rintro e w1 ⟨rfl, hw⟩
    have H1 : Hid (Below w.heap.size w w1) := hw
    clear hw
    go_wp2
    go_ret
    exact ⟨rfl, H1.out⟩
  by_cases c2 : many < 1
  · go_enter Try.func8, Try.ntmps8
    go_wp2_with fail
    refine (awake_any _).mono ?_
    rintro e w1 ⟨rfl, hw⟩
    have H1 : Hid (Below w.heap.size w w1) := hw
    clear hw
    go_wp2
    go_ret
    exact ⟨rfl, H1.out⟩
  by_cases c3 : 7 < many
  · go_enter Try.func8, Try.ntmps8
    go_wp2_with fail
    refine (awake_any _).mono ?_
    rintro e w1 ⟨rfl, hw⟩
    have H1 : Hid (Below w.heap.size w w1) := hw
    clear hw
    go_wp2
    go_ret
    exact ⟨rfl, H1.out⟩
  by_cases c4 : shift < many
  · go_enter Try.func8, Try.ntmps8
    go_wp2_with fail
    refine (awake_any _).mono ?_
    rintro e w1 ⟨rfl, hw⟩
    have H1 : Hid (Below w.heap.size w w1) := hw
    clear hw
    go_wp2
    go_ret
    exact ⟨rfl, H1.out⟩
  by_cases c5 : 20 < shift
  · go_enter Try.func8, Try.ntmps8
    go_wp2_with fail
    refine (awake_any _).mono ?_
    rintro e w1 ⟨rfl, hw⟩
    have H1 : Hid (Below w.heap.size w w1) := hw
    clear hw
    go_wp2
    go_ret
    exact ⟨rfl, H1.out⟩
  have hm := octs_more X stage x z shift many (by omega) (by omega)
  have ha := octs_bd X stage x z shift many.toNat (by omega)
  have hb := octs_bd X stage x z shift (many + 1).toNat (by omega)
  have h1 := share_bd many.toNat
  have h2 := share_bd (many + 1).toNat
  have hf := flatN_bd X stage x z shift
  have HA := octaves_any X stage x z shift many
  rw [octN_in X stage x z (by omega) (by omega) (by omega) (by omega)] at HA
  have HB := octaves_any X stage x z shift (many + 1)
  rw [octN_in X stage x z (by omega) (by omega) (by omega) (by omega)] at HB
  have HC := octaves_any X stage x z shift 1
  rw [octN_in X stage x z (by omega) (by omega) (by omega) (by omega), show (1 : Int).toNat = 1 from rfl, octs_one X stage x z shift (by omega)] at HC
  have HF := flat_any X stage x z shift
  generalize octs X stage x z shift many.toNat = a at *
  generalize octs X stage x z shift (many + 1).toNat = b at *
  generalize flatN X stage x z shift = f at *
  generalize (65536 : Int) / 2 ^ many.toNat = q at *
  go_enter Try.func8, Try.ntmps8
  go_wp2_with fail
  refine (awake_any _).mono ?_
  rintro e w1 ⟨rfl, hw⟩
  have H1 : Hid (Below w.heap.size w w1) := hw
  clear hw
  go_wp2_with fail
  refine (HA _ hX (by omega) hx hz (by omega)).mono ?_
  rintro e w2 ⟨rfl, hw⟩
  have H2 : Hid (Below w.heap.size w w2) := H1.out.trans (hw.mono H1.out.size)
  clear hw H1
  go_wp2_with fail
  refine (HB _ hX (by omega) hx hz (by omega)).mono ?_
  rintro e w3 ⟨rfl, hw⟩
  have H3 : Hid (Below w.heap.size w w3) := H2.out.trans (hw.mono H2.out.size)
  clear hw H2
  go_wp2_with fail
  refine (HC _ hX (by omega) hx hz (by omega)).mono ?_
  rintro e w4 ⟨rfl, hw⟩
  have H4 : Hid (Below w.heap.size w w4) := H3.out.trans (hw.mono H3.out.size)
  clear hw H3
  go_wp2_with fail
  refine (HF _ hX hx hz).mono ?_
  rintro e w5 ⟨rfl, hw⟩
  have H5 : Hid (Below w.heap.size w w5) := H4.out.trans (hw.mono H4.out.size)
  clear hw H4
  go_wp2
  go_ret
  exact ⟨rfl, H5.out⟩

set_option maxRecDepth 100000 in
theorem noiseOnes_lifted (os : Os) (started : os.Started) (H : Type) (enc : TypeId × Value → H) :
    ReturnsInHanded {} Try.checked os 8 .any (Rows.noiseOnesSpec.pre6 enc Try.prog Try.f8 Rows.noiseOnesRow.domain false) (Rows.noiseOnesSpec.post enc Try.prog Try.f8 false true false false) := by
  refine returnsInHanded_of_change (C := Try.checked) own started (by kernel_rfl) Try.func8
    (ChangeSpec.witness6 (enc := enc) (C := Try.checked) false ⟨#[], #[.int .u64 0, .int .i64 0, .int .i64 0, .int .i64 0, .int .i64 0, .int .i64 0], []⟩ 8 (by kernel_rfl) (by kernel_rfl) (by kernel_rfl) (by kernel_rfl)) ?_
  intro W base args ds gs before hval0 hW _ _
  have hval : ∀ (j : Nat) t v, Try.f8.params[j]? = some t → args[j]? = some v → Value.okWide Try.prog W .any base t v := hval0
  have hW' := hW
  obtain ⟨p, q, hA0, hV, rfl, hfz, hnd⟩ := hW
  have hA : DataW.TrodAll enc Try.prog W 0 (fun _ => true) true Try.f8.params.toList args.toList ds p := hA0
  rw [Try.params8] at hA hval
  obtain ⟨v0, vs0, d0, ds0, p0, q0, hargs, rfl, rfl, h0, r0⟩ := trodAll_cons hA
  obtain ⟨v1, vs1, d1, ds1, p1, q1, rfl, rfl, rfl, h1, r1⟩ := trodAll_cons r0
  obtain ⟨v2, vs2, d2, ds2, p2, q2, rfl, rfl, rfl, h2, r2⟩ := trodAll_cons r1
  obtain ⟨v3, vs3, d3, ds3, p3, q3, rfl, rfl, rfl, h3, r3⟩ := trodAll_cons r2
  obtain ⟨v4, vs4, d4, ds4, p4, q4, rfl, rfl, rfl, h4, r4⟩ := trodAll_cons r3
  obtain ⟨v5, vs5, d5, ds5, p5, q5, rfl, rfl, rfl, h5, r5⟩ := trodAll_cons r4
  obtain ⟨rfl, rfl, rfl⟩ := trodAll_nil r5
  obtain rfl : args = #[v0, v1, v2, v3, v4, v5] := by cases args; simp_all
  obtain ⟨rfl, rfl⟩ := trodVars_none hV
  obtain ⟨a0, rfl, rfl, rfl, w0⟩ := open_int Try.underlying22 (hval 0 22 v0 rfl rfl) h0
  obtain ⟨a1, rfl, rfl, rfl, w1⟩ := open_int Try.underlying3 (hval 1 3 v1 rfl rfl) h1
  obtain ⟨a2, rfl, rfl, rfl, w2⟩ := open_int Try.underlying3 (hval 2 3 v2 rfl rfl) h2
  obtain ⟨a3, rfl, rfl, rfl, w3⟩ := open_int Try.underlying3 (hval 3 3 v3 rfl rfl) h3
  obtain ⟨a4, rfl, rfl, rfl, w4⟩ := open_int Try.underlying3 (hval 4 3 v4 rfl rfl) h4
  obtain ⟨a5, rfl, rfl, rfl, w5⟩ := open_int Try.underlying3 (hval 5 3 v5 rfl rfl) h5
  clear hA0 hval0
  refine (noiseOnes_walk a0 a1 a2 a3 a4 a5 W (bdu64 w0) (bd64 w2) (bd64 w3)).mono fun e W' ⟨he, bel⟩ => ?_
  subst he
  exact ⟨_, rfl, _, _, _, [], _, [], hW', trodAll_mk1 (shut_bool Try.underlying4 _), (trodAll_cons_mk (shut_int Try.underlying22 w0) (trodAll_cons_mk (shut_int Try.underlying3 w1) (trodAll_cons_mk (shut_int Try.underlying3 w2) (trodAll_cons_mk (shut_int Try.underlying3 w3) (trodAll_cons_mk (shut_int Try.underlying3 w4) (trodAll_cons_mk (shut_int Try.underlying3 w5) trodAll_mk0)))))), rfl, bel.frame _, fun h => by cases h⟩

theorem noiseOnes_holds : Rows.NoiseOnesSaid :=
  OpenClaim.holds_of_wide 8 Try.f8 rfl rfl rfl rfl rfl rfl rfl ⟨rfl, rfl, rfl, rfl, rfl⟩ rfl rfl rfl rfl rfl (by kernel_rfl) Try.func8 (by kernel_rfl)
    (of_decide_eq_true (by kernel_rfl)) (by unfold Func.isWrapper; rw [if_neg (of_decide_eq_false (by kernel_rfl))]; exact ⟨rfl, rfl⟩)
    (fun os started H enc _ => noiseOnes_lifted os started H enc)
#print axioms noiseOnes_holds
end Go.Proofs.Ytgjipfjogpcomaa
