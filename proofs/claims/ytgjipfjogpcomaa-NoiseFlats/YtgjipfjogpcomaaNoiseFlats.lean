/-
  NoiseFlatsSaid is proved: for every number of 64 bits and every four integers the statement NoiseFlats returns true, without any condition.
-/
import Derived.Test.YtgjipfjogpcomaaFrame
import Derived.Test.YtgjipfjogpcomaaRflat
namespace Go.Proofs.Ytgjipfjogpcomaa
open Go.ChangeShapes Go.WideShapes Go.ChangeAt Go.RowKit

/-- What Flat answers lies between what all four corners lie between. -/
theorem flat_mid (S : Nat) (stage x z P : Int) (hx : -1099511627776 ≤ x / P ∧ x / P ≤ 1099511627776) (hz : -1099511627776 ≤ z / P ∧ z / P ≤ 1099511627776) (lo hi : Int)
    (ha : lo ≤ latN S stage (x / P) (z / P) ∧ latN S stage (x / P) (z / P) ≤ hi) (hb : lo ≤ latN S stage (x / P + 1) (z / P) ∧ latN S stage (x / P + 1) (z / P) ≤ hi)
    (hc : lo ≤ latN S stage (x / P) (z / P + 1) ∧ latN S stage (x / P) (z / P + 1) ≤ hi) (hd : lo ≤ latN S stage (x / P + 1) (z / P + 1) ∧ latN S stage (x / P + 1) (z / P + 1) ≤ hi) :
    lo ≤ flat (plane S stage) x z P ∧ flat (plane S stage) x z P ≤ hi := by
  rw [flat_lat S stage x z P (by omega) (by omega), w64_in (n := x / P + 1) (by omega), w64_in (n := z / P + 1) (by omega)]
  have tx := frac_bd x P
  have tz := frac_bd z P
  exact ⟨btw_low tz.1 tz.2 (btw_low tx.1 tx.2 ha.1 hb.1) (btw_low tx.1 tx.2 hc.1 hd.1), btw_high tz.1 tz.2 (btw_high tx.1 tx.2 ha.2 hb.2) (btw_high tx.1 tx.2 hc.2 hd.2)⟩
theorem div_near {x P : Int} (hx : -1099511627776 ≤ x ∧ x ≤ 1099511627776) (hP : 1 ≤ P) : -1099511627776 ≤ x / P ∧ x / P ≤ 1099511627776 := by
  have d := div_bd x P hP
  rcases Int.lt_or_le x 0 with k | k
  · have := d.2 k; omega
  · have := d.1 k; omega
set_option maxHeartbeats 2000000 in
theorem noiseFlats_walk (s stage x z shift : Int) (w : World) (hX0 : 0 ≤ s ∧ s ≤ 18446744073709551615) (hx : -9223372036854775808 ≤ x ∧ x ≤ 9223372036854775807) (hz : -9223372036854775808 ≤ z ∧ z ≤ 9223372036854775807) :
    Calls Try.prog 5 #[.int .u64 s, .int .i64 stage, .int .i64 x, .int .i64 z, .int .i64 shift] w fun e w' => e = .returned (.bool true) ∧ Below w.heap.size w w' := by
  obtain ⟨X, rfl⟩ := Int.eq_ofNat_of_zero_le hX0.1
  have hX : X < 18446744073709551616 := by omega
  clear hX0
  by_cases s1 : shift < 0
  · go_enter Try.func5, Try.ntmps5
    go_wp2_with fail
    refine (awake_any _).mono ?_
    rintro e w1 ⟨rfl, hw⟩
    have H1 : Hid (Below w.heap.size w w1) := hw
    clear hw
    go_wp2_with fail
    refine (flat_out X stage x z shift _ (by omega)).mono ?_
    rintro e w2 ⟨rfl, hw⟩
    have H2 : Hid (Below w.heap.size w w2) := H1.out.trans (hw.mono H1.out.size)
    clear hw H1
    go_wp2_with fail
    refine (rflat_out X stage x z shift _ (by omega)).mono ?_
    rintro e w3 ⟨rfl, hw⟩
    have H3 : Hid (Below w.heap.size w w3) := H2.out.trans (hw.mono H2.out.size)
    clear hw H2
    go_wp2
    go_ret
    exact ⟨rfl, H3.out⟩
  by_cases s2 : 20 < shift
  · go_enter Try.func5, Try.ntmps5
    go_wp2_with fail
    refine (awake_any _).mono ?_
    rintro e w1 ⟨rfl, hw⟩
    have H1 : Hid (Below w.heap.size w w1) := hw
    clear hw
    go_wp2_with fail
    refine (flat_out X stage x z shift _ (by omega)).mono ?_
    rintro e w2 ⟨rfl, hw⟩
    have H2 : Hid (Below w.heap.size w w2) := H1.out.trans (hw.mono H1.out.size)
    clear hw H1
    go_wp2_with fail
    refine (rflat_out X stage x z shift _ (by omega)).mono ?_
    rintro e w3 ⟨rfl, hw⟩
    have H3 : Hid (Below w.heap.size w w3) := H2.out.trans (hw.mono H2.out.size)
    clear hw H2
    go_wp2
    go_ret
    exact ⟨rfl, H3.out⟩
  have hP := wide_bd (shift := shift) (by omega) (by omega)
  have hn := flatN_bd X stage x z shift
  have HE : Hid (flatN X stage x z shift = flat (plane X stage) x z (wide shift)) := flatN_in X stage x z (by omega) (by omega)
  have hp : (2 : Int) ^ shift.toNat = wide shift := rfl
  have HF := flat_any X stage x z shift
  have HR := rflat_any X stage x z shift
  generalize wide shift = P at *
  generalize flatN X stage x z shift = n at *
  by_cases cc : x < -1099511627776
  · clear hp HE
    go_enter Try.func5, Try.ntmps5
    go_wp2_with fail
    refine (awake_any _).mono ?_
    rintro e w1 ⟨rfl, hw⟩
    have H1 : Hid (Below w.heap.size w w1) := hw
    clear hw
    go_wp2_with fail
    refine (HF _ hX hx hz).mono ?_
    rintro e w2 ⟨rfl, hw⟩
    have H2 : Hid (Below w.heap.size w w2) := H1.out.trans (hw.mono H1.out.size)
    clear hw H1
    go_wp2_with fail
    refine (HR _ hX hx hz).mono ?_
    rintro e w3 ⟨rfl, hw⟩
    have H3 : Hid (Below w.heap.size w w3) := H2.out.trans (hw.mono H2.out.size)
    clear hw H2
    go_wp2
    go_ret
    exact ⟨rfl, H3.out⟩
  by_cases cc : 1099511627776 < x
  · clear hp HE
    go_enter Try.func5, Try.ntmps5
    go_wp2_with fail
    refine (awake_any _).mono ?_
    rintro e w1 ⟨rfl, hw⟩
    have H1 : Hid (Below w.heap.size w w1) := hw
    clear hw
    go_wp2_with fail
    refine (HF _ hX hx hz).mono ?_
    rintro e w2 ⟨rfl, hw⟩
    have H2 : Hid (Below w.heap.size w w2) := H1.out.trans (hw.mono H1.out.size)
    clear hw H1
    go_wp2_with fail
    refine (HR _ hX hx hz).mono ?_
    rintro e w3 ⟨rfl, hw⟩
    have H3 : Hid (Below w.heap.size w w3) := H2.out.trans (hw.mono H2.out.size)
    clear hw H2
    go_wp2
    go_ret
    exact ⟨rfl, H3.out⟩
  by_cases cc : z < -1099511627776
  · clear hp HE
    go_enter Try.func5, Try.ntmps5
    go_wp2_with fail
    refine (awake_any _).mono ?_
    rintro e w1 ⟨rfl, hw⟩
    have H1 : Hid (Below w.heap.size w w1) := hw
    clear hw
    go_wp2_with fail
    refine (HF _ hX hx hz).mono ?_
    rintro e w2 ⟨rfl, hw⟩
    have H2 : Hid (Below w.heap.size w w2) := H1.out.trans (hw.mono H1.out.size)
    clear hw H1
    go_wp2_with fail
    refine (HR _ hX hx hz).mono ?_
    rintro e w3 ⟨rfl, hw⟩
    have H3 : Hid (Below w.heap.size w w3) := H2.out.trans (hw.mono H2.out.size)
    clear hw H2
    go_wp2
    go_ret
    exact ⟨rfl, H3.out⟩
  by_cases cc : 1099511627776 < z
  · clear hp HE
    go_enter Try.func5, Try.ntmps5
    go_wp2_with fail
    refine (awake_any _).mono ?_
    rintro e w1 ⟨rfl, hw⟩
    have H1 : Hid (Below w.heap.size w w1) := hw
    clear hw
    go_wp2_with fail
    refine (HF _ hX hx hz).mono ?_
    rintro e w2 ⟨rfl, hw⟩
    have H2 : Hid (Below w.heap.size w w2) := H1.out.trans (hw.mono H1.out.size)
    clear hw H1
    go_wp2_with fail
    refine (HR _ hX hx hz).mono ?_
    rintro e w3 ⟨rfl, hw⟩
    have H3 : Hid (Below w.heap.size w w3) := H2.out.trans (hw.mono H2.out.size)
    clear hw H2
    go_wp2
    go_ret
    exact ⟨rfl, H3.out⟩
  have hcx := div_near (x := x) (P := P) (by omega) hP.1
  have hcz := div_near (x := z) (P := P) (by omega) hP.1
  have HM : Hid _ := flat_mid X stage x z P hcx hcz
  rw [← HE.out] at HM
  clear HE
  have ka : Hid _ := lat_bd X stage (x / P) (z / P)
  have kb : Hid _ := lat_bd X stage (x / P + 1) (z / P)
  have kc : Hid _ := lat_bd X stage (x / P) (z / P + 1)
  have kd : Hid _ := lat_bd X stage (x / P + 1) (z / P + 1)
  have LA := fun w => lattice_any X stage (x / P) (z / P) w hX
  have LB := fun w => lattice_any X stage (x / P + 1) (z / P) w hX
  have LC := fun w => lattice_any X stage (x / P) (z / P + 1) w hX
  have LD := fun w => lattice_any X stage (x / P + 1) (z / P + 1) w hX
  generalize latN X stage (x / P) (z / P) = a at *
  generalize latN X stage (x / P + 1) (z / P) = b at *
  generalize latN X stage (x / P) (z / P + 1) = c at *
  generalize latN X stage (x / P + 1) (z / P + 1) = d at *
  go_enter Try.func5, Try.ntmps5
  go_wp2_with fail
  refine (awake_any _).mono ?_
  rintro e w1 ⟨rfl, hw⟩
  have H1 : Hid (Below w.heap.size w w1) := hw
  clear hw
  go_wp2_with fail
  refine (HF _ hX hx hz).mono ?_
  rintro e w2 ⟨rfl, hw⟩
  have H2 : Hid (Below w.heap.size w w2) := H1.out.trans (hw.mono H1.out.size)
  clear hw H1
  go_wp2_with fail
  refine (HR _ hX hx hz).mono ?_
  rintro e w3 ⟨rfl, hw⟩
  have H3 : Hid (Below w.heap.size w w3) := H2.out.trans (hw.mono H2.out.size)
  clear hw H2
  go_wp2_with fail
  clear HF HR hp
  go_loop [15, 16, 17] (fun l h i => ∃ k lo hi : Int, 0 ≤ k ∧ k ≤ 4 ∧ i = .int .i64 k ∧ l = .int .i64 lo ∧ h = .int .i64 hi ∧ (1 ≤ k → lo ≤ a ∧ a ≤ hi) ∧ (2 ≤ k → lo ≤ b ∧ b ≤ hi) ∧ (3 ≤ k → lo ≤ c ∧ c ≤ hi) ∧ (4 ≤ k → lo ≤ d ∧ d ≤ hi)) (fun _ _ i => 4 - (intOf i).toNat)
  case atStart => exact ⟨0, 65535, 0, by omega, by omega, rfl, rfl, rfl, by omega, by omega, by omega, by omega⟩
  case round =>
    obtain ⟨k, lo, hi, k0, k4, rfl, rfl, rfl, r1, r2, r3, r4⟩ := hrel
    have HR : Hid _ := And.intro r1 (And.intro r2 (And.intro r3 r4))
    clear r1 r2 r3 r4
    have hk5 : k = 0 ∨ k = 1 ∨ k = 2 ∨ k = 3 ∨ k = 4 := by omega
    rcases hk5 with rfl | rfl | rfl | rfl | rfl
    · by_cases t1 : a < lo
      · by_cases t2 : hi < a
        · go_wp2_with fail
          refine (LA _).mono ?_
          rintro e w' ⟨rfl, hw⟩
          subst w'
          go_wp2
          go_round
          case rel =>
            have r := HR.out
            exact ⟨1, a, a, by omega, by omega, rfl, rfl, rfl, by omega, by omega, by omega, by omega⟩
          case measure => simp [intOf]
        · go_wp2_with fail
          refine (LA _).mono ?_
          rintro e w' ⟨rfl, hw⟩
          subst w'
          go_wp2
          go_round
          case rel =>
            have r := HR.out
            exact ⟨1, a, hi, by omega, by omega, rfl, rfl, rfl, by omega, by omega, by omega, by omega⟩
          case measure => simp [intOf]
      · by_cases t2 : hi < a
        · go_wp2_with fail
          refine (LA _).mono ?_
          rintro e w' ⟨rfl, hw⟩
          subst w'
          go_wp2
          go_round
          case rel =>
            have r := HR.out
            exact ⟨1, lo, a, by omega, by omega, rfl, rfl, rfl, by omega, by omega, by omega, by omega⟩
          case measure => simp [intOf]
        · go_wp2_with fail
          refine (LA _).mono ?_
          rintro e w' ⟨rfl, hw⟩
          subst w'
          go_wp2
          go_round
          case rel =>
            have r := HR.out
            exact ⟨1, lo, hi, by omega, by omega, rfl, rfl, rfl, by omega, by omega, by omega, by omega⟩
          case measure => simp [intOf]
    · by_cases t1 : b < lo
      · by_cases t2 : hi < b
        · go_wp2_with fail
          refine (LB _).mono ?_
          rintro e w' ⟨rfl, hw⟩
          subst w'
          go_wp2
          go_round
          case rel =>
            have r := HR.out
            exact ⟨2, b, b, by omega, by omega, rfl, rfl, rfl, by omega, by omega, by omega, by omega⟩
          case measure => simp [intOf]
        · go_wp2_with fail
          refine (LB _).mono ?_
          rintro e w' ⟨rfl, hw⟩
          subst w'
          go_wp2
          go_round
          case rel =>
            have r := HR.out
            exact ⟨2, b, hi, by omega, by omega, rfl, rfl, rfl, by omega, by omega, by omega, by omega⟩
          case measure => simp [intOf]
      · by_cases t2 : hi < b
        · go_wp2_with fail
          refine (LB _).mono ?_
          rintro e w' ⟨rfl, hw⟩
          subst w'
          go_wp2
          go_round
          case rel =>
            have r := HR.out
            exact ⟨2, lo, b, by omega, by omega, rfl, rfl, rfl, by omega, by omega, by omega, by omega⟩
          case measure => simp [intOf]
        · go_wp2_with fail
          refine (LB _).mono ?_
          rintro e w' ⟨rfl, hw⟩
          subst w'
          go_wp2
          go_round
          case rel =>
            have r := HR.out
            exact ⟨2, lo, hi, by omega, by omega, rfl, rfl, rfl, by omega, by omega, by omega, by omega⟩
          case measure => simp [intOf]
    · by_cases t1 : c < lo
      · by_cases t2 : hi < c
        · go_wp2_with fail
          refine (LC _).mono ?_
          rintro e w' ⟨rfl, hw⟩
          subst w'
          go_wp2
          go_round
          case rel =>
            have r := HR.out
            exact ⟨3, c, c, by omega, by omega, rfl, rfl, rfl, by omega, by omega, by omega, by omega⟩
          case measure => simp [intOf]
        · go_wp2_with fail
          refine (LC _).mono ?_
          rintro e w' ⟨rfl, hw⟩
          subst w'
          go_wp2
          go_round
          case rel =>
            have r := HR.out
            exact ⟨3, c, hi, by omega, by omega, rfl, rfl, rfl, by omega, by omega, by omega, by omega⟩
          case measure => simp [intOf]
      · by_cases t2 : hi < c
        · go_wp2_with fail
          refine (LC _).mono ?_
          rintro e w' ⟨rfl, hw⟩
          subst w'
          go_wp2
          go_round
          case rel =>
            have r := HR.out
            exact ⟨3, lo, c, by omega, by omega, rfl, rfl, rfl, by omega, by omega, by omega, by omega⟩
          case measure => simp [intOf]
        · go_wp2_with fail
          refine (LC _).mono ?_
          rintro e w' ⟨rfl, hw⟩
          subst w'
          go_wp2
          go_round
          case rel =>
            have r := HR.out
            exact ⟨3, lo, hi, by omega, by omega, rfl, rfl, rfl, by omega, by omega, by omega, by omega⟩
          case measure => simp [intOf]
    · by_cases t1 : d < lo
      · by_cases t2 : hi < d
        · go_wp2_with fail
          refine (LD _).mono ?_
          rintro e w' ⟨rfl, hw⟩
          subst w'
          go_wp2
          go_round
          case rel =>
            have r := HR.out
            exact ⟨4, d, d, by omega, by omega, rfl, rfl, rfl, by omega, by omega, by omega, by omega⟩
          case measure => simp [intOf]
        · go_wp2_with fail
          refine (LD _).mono ?_
          rintro e w' ⟨rfl, hw⟩
          subst w'
          go_wp2
          go_round
          case rel =>
            have r := HR.out
            exact ⟨4, d, hi, by omega, by omega, rfl, rfl, rfl, by omega, by omega, by omega, by omega⟩
          case measure => simp [intOf]
      · by_cases t2 : hi < d
        · go_wp2_with fail
          refine (LD _).mono ?_
          rintro e w' ⟨rfl, hw⟩
          subst w'
          go_wp2
          go_round
          case rel =>
            have r := HR.out
            exact ⟨4, lo, d, by omega, by omega, rfl, rfl, rfl, by omega, by omega, by omega, by omega⟩
          case measure => simp [intOf]
        · go_wp2_with fail
          refine (LD _).mono ?_
          rintro e w' ⟨rfl, hw⟩
          subst w'
          go_wp2
          go_round
          case rel =>
            have r := HR.out
            exact ⟨4, lo, hi, by omega, by omega, rfl, rfl, rfl, by omega, by omega, by omega, by omega⟩
          case measure => simp [intOf]
    · have r := HR.out
      have hm := HM.out lo hi (r.1 (by omega)) (r.2.1 (by omega)) (r.2.2.1 (by omega)) (r.2.2.2 (by omega))
      clear r HR
      go_wp2
      go_ret
      exact ⟨rfl, H3.out⟩

set_option maxRecDepth 100000 in
theorem noiseFlats_lifted (os : Os) (started : os.Started) (H : Type) (enc : TypeId × Value → H) :
    ReturnsInHanded {} Try.checked os 5 .any (Rows.noiseFlatsSpec.pre6 enc Try.prog Try.f5 Rows.noiseFlatsRow.domain false) (Rows.noiseFlatsSpec.post enc Try.prog Try.f5 false true false false) := by
  refine returnsInHanded_of_change (C := Try.checked) own started (by kernel_rfl) Try.func5
    (ChangeSpec.witness6 (enc := enc) (C := Try.checked) false ⟨#[], #[.int .u64 0, .int .i64 0, .int .i64 0, .int .i64 0, .int .i64 0], []⟩ 8 (by kernel_rfl) (by kernel_rfl) (by kernel_rfl) (by kernel_rfl)) ?_
  intro W base args ds gs before hval0 hW _ _
  have hval : ∀ (j : Nat) t v, Try.f5.params[j]? = some t → args[j]? = some v → Value.okWide Try.prog W .any base t v := hval0
  have hW' := hW
  obtain ⟨p, q, hA0, hV, rfl, hfz, hnd⟩ := hW
  have hA : DataW.TrodAll enc Try.prog W 0 (fun _ => true) true Try.f5.params.toList args.toList ds p := hA0
  rw [Try.params5] at hA hval
  obtain ⟨v0, vs0, d0, ds0, p0, q0, hargs, rfl, rfl, h0, r0⟩ := trodAll_cons hA
  obtain ⟨v1, vs1, d1, ds1, p1, q1, rfl, rfl, rfl, h1, r1⟩ := trodAll_cons r0
  obtain ⟨v2, vs2, d2, ds2, p2, q2, rfl, rfl, rfl, h2, r2⟩ := trodAll_cons r1
  obtain ⟨v3, vs3, d3, ds3, p3, q3, rfl, rfl, rfl, h3, r3⟩ := trodAll_cons r2
  obtain ⟨v4, vs4, d4, ds4, p4, q4, rfl, rfl, rfl, h4, r4⟩ := trodAll_cons r3
  obtain ⟨rfl, rfl, rfl⟩ := trodAll_nil r4
  obtain rfl : args = #[v0, v1, v2, v3, v4] := by cases args; simp_all
  obtain ⟨rfl, rfl⟩ := trodVars_none hV
  obtain ⟨a0, rfl, rfl, rfl, w0⟩ := open_int Try.underlying22 (hval 0 22 v0 rfl rfl) h0
  obtain ⟨a1, rfl, rfl, rfl, w1⟩ := open_int Try.underlying3 (hval 1 3 v1 rfl rfl) h1
  obtain ⟨a2, rfl, rfl, rfl, w2⟩ := open_int Try.underlying3 (hval 2 3 v2 rfl rfl) h2
  obtain ⟨a3, rfl, rfl, rfl, w3⟩ := open_int Try.underlying3 (hval 3 3 v3 rfl rfl) h3
  obtain ⟨a4, rfl, rfl, rfl, w4⟩ := open_int Try.underlying3 (hval 4 3 v4 rfl rfl) h4
  clear hA0 hval0
  refine (noiseFlats_walk a0 a1 a2 a3 a4 W (bdu64 w0) (bd64 w2) (bd64 w3)).mono fun e W' ⟨he, bel⟩ => ?_
  subst he
  exact ⟨_, rfl, _, _, _, [], _, [], hW', trodAll_mk1 (shut_bool Try.underlying4 _), (trodAll_cons_mk (shut_int Try.underlying22 w0) (trodAll_cons_mk (shut_int Try.underlying3 w1) (trodAll_cons_mk (shut_int Try.underlying3 w2) (trodAll_cons_mk (shut_int Try.underlying3 w3) (trodAll_cons_mk (shut_int Try.underlying3 w4) trodAll_mk0))))), rfl, bel.frame _, fun h => by cases h⟩

theorem noiseFlats_holds : Rows.NoiseFlatsSaid :=
  OpenClaim.holds_of_wide 5 Try.f5 rfl rfl rfl rfl rfl rfl rfl ⟨rfl, rfl, rfl, rfl, rfl⟩ rfl rfl rfl rfl rfl (by kernel_rfl) Try.func5 (by kernel_rfl)
    (of_decide_eq_true (by kernel_rfl)) (by unfold Func.isWrapper; rw [if_neg (of_decide_eq_false (by kernel_rfl))]; exact ⟨rfl, rfl⟩)
    (fun os started H enc _ => noiseFlats_lifted os started H enc)
#print axioms noiseFlats_holds
end Go.Proofs.Ytgjipfjogpcomaa
