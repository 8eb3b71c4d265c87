/-
  NoiseSumsSaid is proved: for every number of 64 bits and every five integers the statement NoiseSums returns true, without any condition.
-/
import Derived.Test.YtgjipfjogpcomaaFrame
import Derived.Test.YtgjipfjogpcomaaRocts
namespace Go.Proofs.Ytgjipfjogpcomaa
open Go.ChangeShapes Go.WideShapes Go.ChangeAt Go.RowKit

set_option maxHeartbeats 1000000 in
theorem noiseSums_walk (s stage x z shift many : Int) (w : World) (hX0 : 0 ≤ s ∧ s ≤ 18446744073709551615) (hstage : -9223372036854775808 ≤ stage ∧ stage ≤ 9223372036854775807) (hx : -9223372036854775808 ≤ x ∧ x ≤ 9223372036854775807) (hz : -9223372036854775808 ≤ z ∧ z ≤ 9223372036854775807) (hmany : -9223372036854775808 ≤ many ∧ many ≤ 9223372036854775807) :
    Calls Try.prog 7 #[.int .u64 s, .int .i64 stage, .int .i64 x, .int .i64 z, .int .i64 shift, .int .i64 many] w fun e w' => e = .returned (.bool true) ∧ Below w.heap.size w w' := by
  obtain ⟨X, rfl⟩ := Int.eq_ofNat_of_zero_le hX0.1
  have hX : X < 18446744073709551616 := by omega
  clear hX0
  by_cases c1 : stage < -1099511627776
  · go_enter Try.func7, Try.ntmps7
    go_wp2_with fail
    refine (awake_any _).mono ?_
    rintro e w1 ⟨rfl, hw⟩
    have H1 : Hid (Below w.heap.size w w1) := hw
    clear hw
    go_wp2
    go_ret
    exact ⟨rfl, H1.out⟩
  · by_cases c2 : 1099511627776 < stage
    · go_enter Try.func7, Try.ntmps7
      go_wp2_with fail
      refine (awake_any _).mono ?_
      rintro e w1 ⟨rfl, hw⟩
      have H1 : Hid (Below w.heap.size w w1) := hw
      clear hw
      go_wp2
      go_ret
      exact ⟨rfl, H1.out⟩
    · have ho := octN_bd X stage x z shift many
      have HO := octaves_any X stage x z shift many
      have HR := roctaves_any X stage x z shift many
      generalize octN X stage x z shift many = n at *
      go_enter Try.func7, Try.ntmps7
      go_wp2_with fail
      refine (awake_any _).mono ?_
      rintro e w1 ⟨rfl, hw⟩
      have H1 : Hid (Below w.heap.size w w1) := hw
      clear hw
      go_wp2_with fail
      refine (HO _ hX hstage hx hz hmany).mono ?_
      rintro e w2 ⟨rfl, hw⟩
      have H2 : Hid (Below w.heap.size w w2) := H1.out.trans (hw.mono H1.out.size)
      clear hw H1
      go_wp2_with fail
      refine (HR _ hX hstage hx hz hmany).mono ?_
      rintro e w3 ⟨rfl, hw⟩
      have H3 : Hid (Below w.heap.size w w3) := H2.out.trans (hw.mono H2.out.size)
      clear hw H2
      go_wp2
      go_ret
      exact ⟨rfl, H3.out⟩

set_option maxRecDepth 100000 in
theorem noiseSums_lifted (os : Os) (started : os.Started) (H : Type) (enc : TypeId × Value → H) :
    ReturnsInHanded {} Try.checked os 7 .any (Rows.noiseSumsSpec.pre6 enc Try.prog Try.f7 Rows.noiseSumsRow.domain false) (Rows.noiseSumsSpec.post enc Try.prog Try.f7 false true false false) := by
  refine returnsInHanded_of_change (C := Try.checked) own started (by kernel_rfl) Try.func7
    (ChangeSpec.witness6 (enc := enc) (C := Try.checked) false ⟨#[], #[.int .u64 0, .int .i64 0, .int .i64 0, .int .i64 0, .int .i64 0, .int .i64 0], []⟩ 8 (by kernel_rfl) (by kernel_rfl) (by kernel_rfl) (by kernel_rfl)) ?_
  intro W base args ds gs before hval0 hW _ _
  have hval : ∀ (j : Nat) t v, Try.f7.params[j]? = some t → args[j]? = some v → Value.okWide Try.prog W .any base t v := hval0
  have hW' := hW
  obtain ⟨p, q, hA0, hV, rfl, hfz, hnd⟩ := hW
  have hA : DataW.TrodAll enc Try.prog W 0 (fun _ => true) true Try.f7.params.toList args.toList ds p := hA0
  rw [Try.params7] at hA hval
  obtain ⟨v0, vs0, d0, ds0, p0, q0, hargs, rfl, rfl, h0, r0⟩ := trodAll_cons hA
  obtain ⟨v1, vs1, d1, ds1, p1, q1, rfl, rfl, rfl, h1, r1⟩ := trodAll_cons r0
  obtain ⟨v2, vs2, d2, ds2, p2, q2, rfl, rfl, rfl, h2, r2⟩ := trodAll_cons r1
  obtain ⟨v3, vs3, d3, ds3, p3, q3, rfl, rfl, rfl, h3, r3⟩ := trodAll_cons r2
  obtain ⟨v4, vs4, d4, ds4, p4, q4, rfl, rfl, rfl, h4, r4⟩ := trodAll_cons r3
  obtain ⟨v5, vs5, d5, ds5, p5, q5, rfl, rfl, rfl, h5, r5⟩ := trodAll_cons r4
  obtain ⟨rfl, rfl, rfl⟩ := trodAll_nil r5
  obtain rfl : args = #[v0, v1, v2, v3, v4, v5] := by cases args; simp_all
  obtain ⟨rfl, rfl⟩ := trodVars_none hV
  obtain ⟨a0, rfl, rfl, rfl, w0⟩ := open_int Try.underlying22 (hval 0 22 v0 rfl rfl) h0
  obtain ⟨a1, rfl, rfl, rfl, w1⟩ := open_int Try.underlying3 (hval 1 3 v1 rfl rfl) h1
  obtain ⟨a2, rfl, rfl, rfl, w2⟩ := open_int Try.underlying3 (hval 2 3 v2 rfl rfl) h2
  obtain ⟨a3, rfl, rfl, rfl, w3⟩ := open_int Try.underlying3 (hval 3 3 v3 rfl rfl) h3
  obtain ⟨a4, rfl, rfl, rfl, w4⟩ := open_int Try.underlying3 (hval 4 3 v4 rfl rfl) h4
  obtain ⟨a5, rfl, rfl, rfl, w5⟩ := open_int Try.underlying3 (hval 5 3 v5 rfl rfl) h5
  clear hA0 hval0
  refine (noiseSums_walk a0 a1 a2 a3 a4 a5 W (bdu64 w0) (bd64 w1) (bd64 w2) (bd64 w3) (bd64 w5)).mono fun e W' ⟨he, bel⟩ => ?_
  subst he
  exact ⟨_, rfl, _, _, _, [], _, [], hW', trodAll_mk1 (shut_bool Try.underlying4 _), (trodAll_cons_mk (shut_int Try.underlying22 w0) (trodAll_cons_mk (shut_int Try.underlying3 w1) (trodAll_cons_mk (shut_int Try.underlying3 w2) (trodAll_cons_mk (shut_int Try.underlying3 w3) (trodAll_cons_mk (shut_int Try.underlying3 w4) (trodAll_cons_mk (shut_int Try.underlying3 w5) trodAll_mk0)))))), rfl, bel.frame _, fun h => by cases h⟩

theorem noiseSums_holds : Rows.NoiseSumsSaid :=
  OpenClaim.holds_of_wide 7 Try.f7 rfl rfl rfl rfl rfl rfl rfl ⟨rfl, rfl, rfl, rfl, rfl⟩ rfl rfl rfl rfl rfl (by kernel_rfl) Try.func7 (by kernel_rfl)
    (of_decide_eq_true (by kernel_rfl)) (by unfold Func.isWrapper; rw [if_neg (of_decide_eq_false (by kernel_rfl))]; exact ⟨rfl, rfl⟩)
    (fun os started H enc _ => noiseSums_lifted os started H enc)
#print axioms noiseSums_holds
end Go.Proofs.Ytgjipfjogpcomaa
