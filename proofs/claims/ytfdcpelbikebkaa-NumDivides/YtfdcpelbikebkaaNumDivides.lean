/-
  NumDividesSaid is proved: for every two integers the statement NumDivides returns true, without any condition.
-/
import Derived.Test.YtfdcpelbikebkaaFrame
import Derived.Test.YtfdcpelbikebkaaDiv
namespace Go.Proofs.Ytfdcpelbikebkaa
open Go.ChangeShapes Go.WideShapes Go.ChangeAt Go.RowKit

set_option maxHeartbeats 2000000 in
theorem numDivides_lo (a b : Int) (w : World) (A : -9223372036854775808 ≤ a ∧ a ≤ 9223372036854775807) (hb : b < 1) :
    Calls Try.prog 3 #[.int .i64 a, .int .i64 b] w fun e w' => e = .returned (.bool true) ∧ Below w.heap.size w w' := by
  by_cases c1 : a < -1099511627776
  · go_enter Try.func3, Try.ntmps3
    go_wp2_with (first | (go_at_call 9; go_must (refine (awake_any _).mono ?_); rintro e w1 ⟨rfl, hb1⟩) | (go_at_call 10; go_must (refine (div_lo a b _ hb).mono ?_); rintro e w2 ⟨rfl, hw⟩; subst w2) | (go_at_call 11; go_must (refine (mod_lo a b _ hb).mono ?_); rintro e w2 ⟨rfl, hw⟩; subst w2) | (go_at_call 12; go_must (refine (rdiv_lo a b _ hb).mono ?_); rintro e w2 ⟨rfl, hw⟩; subst w2) | (go_at_call 13; go_must (refine (rmod_lo a b _ hb).mono ?_); rintro e w2 ⟨rfl, hw⟩; subst w2))
    go_ret
    exact ⟨rfl, hb1⟩
  · by_cases c2 : 1099511627776 < a
    · go_enter Try.func3, Try.ntmps3
      go_wp2_with (first | (go_at_call 9; go_must (refine (awake_any _).mono ?_); rintro e w1 ⟨rfl, hb1⟩) | (go_at_call 10; go_must (refine (div_lo a b _ hb).mono ?_); rintro e w2 ⟨rfl, hw⟩; subst w2) | (go_at_call 11; go_must (refine (mod_lo a b _ hb).mono ?_); rintro e w2 ⟨rfl, hw⟩; subst w2) | (go_at_call 12; go_must (refine (rdiv_lo a b _ hb).mono ?_); rintro e w2 ⟨rfl, hw⟩; subst w2) | (go_at_call 13; go_must (refine (rmod_lo a b _ hb).mono ?_); rintro e w2 ⟨rfl, hw⟩; subst w2))
      go_ret
      exact ⟨rfl, hb1⟩
    · go_enter Try.func3, Try.ntmps3
      go_wp2_with (first | (go_at_call 9; go_must (refine (awake_any _).mono ?_); rintro e w1 ⟨rfl, hb1⟩) | (go_at_call 10; go_must (refine (div_lo a b _ hb).mono ?_); rintro e w2 ⟨rfl, hw⟩; subst w2) | (go_at_call 11; go_must (refine (mod_lo a b _ hb).mono ?_); rintro e w2 ⟨rfl, hw⟩; subst w2) | (go_at_call 12; go_must (refine (rdiv_lo a b _ hb).mono ?_); rintro e w2 ⟨rfl, hw⟩; subst w2) | (go_at_call 13; go_must (refine (rmod_lo a b _ hb).mono ?_); rintro e w2 ⟨rfl, hw⟩; subst w2))
      go_ret
      exact ⟨rfl, hb1⟩

set_option maxHeartbeats 2000000 in
theorem numDivides_hi (a b : Int) (w : World) (A : -9223372036854775808 ≤ a ∧ a ≤ 9223372036854775807) (B : -9223372036854775808 ≤ b ∧ b ≤ 9223372036854775807) (hb : 1 ≤ b) :
    Calls Try.prog 3 #[.int .i64 a, .int .i64 b] w fun e w' => e = .returned (.bool true) ∧ Below w.heap.size w w' := by
  obtain ⟨q, hq⟩ : ∃ q, q = a / b := ⟨_, rfl⟩
  obtain ⟨m, hm⟩ : ∃ m, m = a % b := ⟨_, rfl⟩
  have d := div_bd a b hb
  have m0 := Int.emod_nonneg a (show b ≠ 0 by omega)
  have m1 := Int.emod_lt_of_pos a (show 0 < b by omega)
  have e := Int.ediv_mul_add_emod a b
  rw [← hq] at d
  rw [← hm] at m0 m1
  rw [← hq, ← hm] at e
  have HQ : Hid (q = a / b) := hq
  have HM : Hid (m = a % b) := hm
  have HD : Hid _ := d
  clear hq hm d
  by_cases c1 : a < -1099511627776
  · clear e
    go_enter Try.func3, Try.ntmps3
    go_wp2_with (first | (go_at_call 9; go_must (refine (awake_any _).mono ?_); rintro e w1 ⟨rfl, hb1⟩) | (go_at_call 10; go_must (refine (div_hi a b _ hb B.2 A.1 A.2).mono ?_); rw [← HQ.out]; rintro e w2 ⟨rfl, hw⟩; subst w2) | (go_at_call 11; go_must (refine (mod_hi a b _ hb B.2 A.1 A.2).mono ?_); rw [← HM.out]; rintro e w2 ⟨rfl, hw⟩; subst w2) | (go_at_call 12; go_must (refine (rdiv_hi a b _ hb B.2 A.1 A.2).mono ?_); rw [← HQ.out]; rintro e w2 ⟨rfl, hw⟩; subst w2) | (go_at_call 13; go_must (refine (rmod_hi a b _ hb B.2 A.1 A.2).mono ?_); rw [← HM.out]; rintro e w2 ⟨rfl, hw⟩; subst w2))
    go_ret
    exact ⟨rfl, hb1⟩
  · by_cases c2 : 1099511627776 < a
    · clear e
      go_enter Try.func3, Try.ntmps3
      go_wp2_with (first | (go_at_call 9; go_must (refine (awake_any _).mono ?_); rintro e w1 ⟨rfl, hb1⟩) | (go_at_call 10; go_must (refine (div_hi a b _ hb B.2 A.1 A.2).mono ?_); rw [← HQ.out]; rintro e w2 ⟨rfl, hw⟩; subst w2) | (go_at_call 11; go_must (refine (mod_hi a b _ hb B.2 A.1 A.2).mono ?_); rw [← HM.out]; rintro e w2 ⟨rfl, hw⟩; subst w2) | (go_at_call 12; go_must (refine (rdiv_hi a b _ hb B.2 A.1 A.2).mono ?_); rw [← HQ.out]; rintro e w2 ⟨rfl, hw⟩; subst w2) | (go_at_call 13; go_must (refine (rmod_hi a b _ hb B.2 A.1 A.2).mono ?_); rw [← HM.out]; rintro e w2 ⟨rfl, hw⟩; subst w2))
      go_ret
      exact ⟨rfl, hb1⟩
    · by_cases c3 : 1048576 < b
      · clear e
        go_enter Try.func3, Try.ntmps3
        go_wp2_with (first | (go_at_call 9; go_must (refine (awake_any _).mono ?_); rintro e w1 ⟨rfl, hb1⟩) | (go_at_call 10; go_must (refine (div_hi a b _ hb B.2 A.1 A.2).mono ?_); rw [← HQ.out]; rintro e w2 ⟨rfl, hw⟩; subst w2) | (go_at_call 11; go_must (refine (mod_hi a b _ hb B.2 A.1 A.2).mono ?_); rw [← HM.out]; rintro e w2 ⟨rfl, hw⟩; subst w2) | (go_at_call 12; go_must (refine (rdiv_hi a b _ hb B.2 A.1 A.2).mono ?_); rw [← HQ.out]; rintro e w2 ⟨rfl, hw⟩; subst w2) | (go_at_call 13; go_must (refine (rmod_hi a b _ hb B.2 A.1 A.2).mono ?_); rw [← HM.out]; rintro e w2 ⟨rfl, hw⟩; subst w2))
        go_ret
        exact ⟨rfl, hb1⟩
      · have q0 : -1099511627776 ≤ q ∧ q ≤ 1099511627776 := by
          rcases Int.lt_or_le a 0 with k | k
          · have := HD.out.2 k; omega
          · have := HD.out.1 k; omega
        have p0 : -1099512676352 ≤ q * b ∧ q * b ≤ 1099511627776 := by omega
        have HE : Hid (q * b + m = a) := e
        clear e
        have hE : (q * b + m == a) = true := by simp [HE.out]
        go_enter Try.func3, Try.ntmps3
        go_wp2_with (first | (go_at_call 9; go_must (refine (awake_any _).mono ?_); rintro e w1 ⟨rfl, hb1⟩) | (go_at_call 10; go_must (refine (div_hi a b _ hb B.2 A.1 A.2).mono ?_); rw [← HQ.out]; rintro e w2 ⟨rfl, hw⟩; subst w2) | (go_at_call 11; go_must (refine (mod_hi a b _ hb B.2 A.1 A.2).mono ?_); rw [← HM.out]; rintro e w2 ⟨rfl, hw⟩; subst w2) | (go_at_call 12; go_must (refine (rdiv_hi a b _ hb B.2 A.1 A.2).mono ?_); rw [← HQ.out]; rintro e w2 ⟨rfl, hw⟩; subst w2) | (go_at_call 13; go_must (refine (rmod_hi a b _ hb B.2 A.1 A.2).mono ?_); rw [← HM.out]; rintro e w2 ⟨rfl, hw⟩; subst w2))
        go_ret
        exact ⟨rfl, hb1⟩

theorem numDivides_walk (a b : Int) (w : World) (A : -9223372036854775808 ≤ a ∧ a ≤ 9223372036854775807) (B : -9223372036854775808 ≤ b ∧ b ≤ 9223372036854775807) :
    Calls Try.prog 3 #[.int .i64 a, .int .i64 b] w fun e w' => e = .returned (.bool true) ∧ Below w.heap.size w w' := by
  rcases Int.lt_or_le b 1 with hb | hb
  · exact numDivides_lo a b w A hb
  · exact numDivides_hi a b w A B hb

set_option maxRecDepth 100000 in
theorem numDivides_lifted (os : Os) (started : os.Started) (H : Type) (enc : TypeId × Value → H) :
    ReturnsInHanded {} Try.checked os 3 .any (Rows.numDividesSpec.pre6 enc Try.prog Try.f3 Rows.numDividesRow.domain false) (Rows.numDividesSpec.post enc Try.prog Try.f3 false true false false) := by
  refine returnsInHanded_of_change (C := Try.checked) own started (by kernel_rfl) Try.func3
    (ChangeSpec.witness6 (enc := enc) (C := Try.checked) false ⟨#[], #[.int .i64 0, .int .i64 0], []⟩ 8 (by kernel_rfl) (by kernel_rfl) (by kernel_rfl) (by kernel_rfl)) ?_
  intro W base args ds gs before hval0 hW _ _
  have hval : ∀ (j : Nat) t v, Try.f3.params[j]? = some t → args[j]? = some v → Value.okWide Try.prog W .any base t v := hval0
  have hW' := hW
  obtain ⟨p, q, hA0, hV, rfl, hfz, hnd⟩ := hW
  have hA : DataW.TrodAll enc Try.prog W 0 (fun _ => true) true Try.f3.params.toList args.toList ds p := hA0
  rw [Try.params3] at hA hval
  obtain ⟨v0, vs0, d0, ds0, p0, q0, hargs, rfl, rfl, h0, r0⟩ := trodAll_cons hA
  obtain ⟨v1, vs1, d1, ds1, p1, q1, rfl, rfl, rfl, h1, r1⟩ := trodAll_cons r0
  obtain ⟨rfl, rfl, rfl⟩ := trodAll_nil r1
  obtain rfl : args = #[v0, v1] := by cases args; simp_all
  obtain ⟨rfl, rfl⟩ := trodVars_none hV
  obtain ⟨a0, rfl, rfl, rfl, w0⟩ := open_int Try.underlying3 (hval 0 3 v0 rfl rfl) h0
  obtain ⟨a1, rfl, rfl, rfl, w1⟩ := open_int Try.underlying3 (hval 1 3 v1 rfl rfl) h1
  clear hA0 hval0
  refine (numDivides_walk a0 a1 W (bd64 w0) (bd64 w1)).mono fun e W' ⟨he, bel⟩ => ?_
  subst he
  exact ⟨_, rfl, _, _, _, [], _, [], hW', trodAll_mk1 (shut_bool Try.underlying4 _), (trodAll_cons_mk (shut_int Try.underlying3 w0) (trodAll_cons_mk (shut_int Try.underlying3 w1) trodAll_mk0)), rfl, bel.frame _, fun h => by cases h⟩

theorem numDivides_holds : Rows.NumDividesSaid :=
  OpenClaim.holds_of_wide 3 Try.f3 rfl rfl rfl rfl rfl rfl rfl ⟨rfl, rfl, rfl, rfl, rfl⟩ rfl rfl rfl rfl rfl (by kernel_rfl) Try.func3 (by kernel_rfl)
    (of_decide_eq_true (by kernel_rfl)) (by unfold Func.isWrapper; rw [if_neg (of_decide_eq_false (by kernel_rfl))]; exact ⟨rfl, rfl⟩)
    (fun os started H enc _ => numDivides_lifted os started H enc)
#print axioms numDivides_holds
end Go.Proofs.Ytfdcpelbikebkaa
