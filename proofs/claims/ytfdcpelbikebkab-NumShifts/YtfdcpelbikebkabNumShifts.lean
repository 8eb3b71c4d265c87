/-
  NumShiftsSaid is proved: for every three integers the statement NumShifts returns true, without any condition.
-/
import Derived.Test.YtfdcpelbikebkabFrame
import Derived.Test.YtfdcpelbikebkabDiv
namespace Go.Proofs.Ytfdcpelbikebkab
open Go.ChangeShapes Go.WideShapes Go.ChangeAt Go.RowKit

set_option maxHeartbeats 2000000 in
theorem numShifts_out (a b k : Int) (w : World) (h : a < -1073741824 ∨ 1073741824 < a ∨ b < 1 ∨ 1048576 < b ∨ k < -1073741824 ∨ 1073741824 < k) :
    Calls Try.prog 3 #[.int .i64 a, .int .i64 b, .int .i64 k] w fun e w' => e = .returned (.bool true) ∧ Below w.heap.size w w' := by
  by_cases c1 : a < -1073741824
  · go_enter Try.func3, Try.ntmps3
    go_wp2_with (go_at_call 5; go_must (refine (awake_any _).mono ?_); rintro e w1 ⟨rfl, hb1⟩)
    go_ret
    exact ⟨rfl, hb1⟩
  by_cases c2 : 1073741824 < a
  · go_enter Try.func3, Try.ntmps3
    go_wp2_with (go_at_call 5; go_must (refine (awake_any _).mono ?_); rintro e w1 ⟨rfl, hb1⟩)
    go_ret
    exact ⟨rfl, hb1⟩
  by_cases c3 : b < 1
  · go_enter Try.func3, Try.ntmps3
    go_wp2_with (go_at_call 5; go_must (refine (awake_any _).mono ?_); rintro e w1 ⟨rfl, hb1⟩)
    go_ret
    exact ⟨rfl, hb1⟩
  by_cases c4 : 1048576 < b
  · go_enter Try.func3, Try.ntmps3
    go_wp2_with (go_at_call 5; go_must (refine (awake_any _).mono ?_); rintro e w1 ⟨rfl, hb1⟩)
    go_ret
    exact ⟨rfl, hb1⟩
  by_cases c5 : k < -1073741824
  · go_enter Try.func3, Try.ntmps3
    go_wp2_with (go_at_call 5; go_must (refine (awake_any _).mono ?_); rintro e w1 ⟨rfl, hb1⟩)
    go_ret
    exact ⟨rfl, hb1⟩
  have c6 : 1073741824 < k := by omega
  clear h
  go_enter Try.func3, Try.ntmps3
  go_wp2_with (go_at_call 5; go_must (refine (awake_any _).mono ?_); rintro e w1 ⟨rfl, hb1⟩)
  go_ret
  exact ⟨rfl, hb1⟩

set_option maxHeartbeats 2000000 in
theorem numShifts_in (a b k : Int) (w : World) (a0 : -1073741824 ≤ a) (a1 : a ≤ 1073741824) (b0 : 1 ≤ b) (b1 : b ≤ 1048576) (k0 : -1073741824 ≤ k) (k1 : k ≤ 1073741824) :
    Calls Try.prog 3 #[.int .i64 a, .int .i64 b, .int .i64 k] w fun e w' => e = .returned (.bool true) ∧ Below w.heap.size w w' := by
  have p1 : k * b ≤ 1125899906842624 := by
    have h1 : k * b ≤ 1073741824 * b := Int.mul_le_mul_of_nonneg_right k1 (by omega)
    omega
  have p0 : -1125899906842624 ≤ k * b := by
    have h1 : -1073741824 * b ≤ k * b := Int.mul_le_mul_of_nonneg_right k0 (by omega)
    omega
  have HD : Hid ((a + k * b) / b = a / b + k) := Int.add_mul_ediv_right a k (by omega)
  have HM : Hid ((a + k * b) % b = a % b) := Int.add_mul_emod_self_right a k b
  have d := div_bd a b b0
  have q0 : -1073741824 ≤ a / b ∧ a / b ≤ 1073741824 := by
    rcases Int.lt_or_le a 0 with h | h
    · have := d.2 h; omega
    · have := d.1 h; omega
  clear d
  obtain ⟨q, hq⟩ : ∃ q, q = a / b := ⟨_, rfl⟩
  obtain ⟨m, hm⟩ : ∃ m, m = a % b := ⟨_, rfl⟩
  rw [← hq] at q0 HD
  rw [← hm] at HM
  have HQ : Hid (q = a / b) := hq
  have HR : Hid (m = a % b) := hm
  clear hq hm
  go_enter Try.func3, Try.ntmps3
  go_wp2_with (go_at_call 5; go_must (refine (awake_any _).mono ?_); rintro e w1 ⟨rfl, hb1⟩)
  refine (div_hi (a + k * b) b _ b0 (by omega) (by omega) (by omega)).mono ?_
  rw [HD.out]
  rintro e w2 ⟨rfl, hw⟩
  subst w2
  go_wp2_with fail
  refine (div_hi a b _ b0 (by omega) (by omega) (by omega)).mono ?_
  rw [← HQ.out]
  rintro e w2 ⟨rfl, hw⟩
  subst w2
  go_wp2_with fail
  refine (mod_hi (a + k * b) b _ b0 (by omega) (by omega) (by omega)).mono ?_
  rw [HM.out]
  rintro e w2 ⟨rfl, hw⟩
  subst w2
  go_wp2_with fail
  refine (mod_hi a b _ b0 (by omega) (by omega) (by omega)).mono ?_
  rw [← HR.out]
  rintro e w2 ⟨rfl, hw⟩
  subst w2
  go_wp2_with fail
  go_ret
  exact ⟨rfl, hb1⟩

theorem numShifts_walk (a b k : Int) (w : World) :
    Calls Try.prog 3 #[.int .i64 a, .int .i64 b, .int .i64 k] w fun e w' => e = .returned (.bool true) ∧ Below w.heap.size w w' := by
  by_cases h : a < -1073741824 ∨ 1073741824 < a ∨ b < 1 ∨ 1048576 < b ∨ k < -1073741824 ∨ 1073741824 < k
  · exact numShifts_out a b k w h
  · exact numShifts_in a b k w (by omega) (by omega) (by omega) (by omega) (by omega) (by omega)

set_option maxRecDepth 100000 in
theorem numShifts_lifted (os : Os) (started : os.Started) (H : Type) (enc : TypeId × Value → H) :
    ReturnsInHanded {} Try.checked os 3 .any (Rows.numShiftsSpec.pre6 enc Try.prog Try.f3 Rows.numShiftsRow.domain false) (Rows.numShiftsSpec.post enc Try.prog Try.f3 false true false false) := by
  refine returnsInHanded_of_change (C := Try.checked) own started (by kernel_rfl) Try.func3
    (ChangeSpec.witness6 (enc := enc) (C := Try.checked) false ⟨#[], #[.int .i64 0, .int .i64 0, .int .i64 0], []⟩ 8 (by kernel_rfl) (by kernel_rfl) (by kernel_rfl) (by kernel_rfl)) ?_
  intro W base args ds gs before hval0 hW _ _
  have hval : ∀ (j : Nat) t v, Try.f3.params[j]? = some t → args[j]? = some v → Value.okWide Try.prog W .any base t v := hval0
  have hW' := hW
  obtain ⟨p, q, hA0, hV, rfl, hfz, hnd⟩ := hW
  have hA : DataW.TrodAll enc Try.prog W 0 (fun _ => true) true Try.f3.params.toList args.toList ds p := hA0
  rw [Try.params3] at hA hval
  obtain ⟨v0, vs0, d0, ds0, p0, q0, hargs, rfl, rfl, h0, r0⟩ := trodAll_cons hA
  obtain ⟨v1, vs1, d1, ds1, p1, q1, rfl, rfl, rfl, h1, r1⟩ := trodAll_cons r0
  obtain ⟨v2, vs2, d2, ds2, p2, q2, rfl, rfl, rfl, h2, r2⟩ := trodAll_cons r1
  obtain ⟨rfl, rfl, rfl⟩ := trodAll_nil r2
  obtain rfl : args = #[v0, v1, v2] := by cases args; simp_all
  obtain ⟨rfl, rfl⟩ := trodVars_none hV
  obtain ⟨a0, rfl, rfl, rfl, w0⟩ := open_int Try.underlying3 (hval 0 3 v0 rfl rfl) h0
  obtain ⟨a1, rfl, rfl, rfl, w1⟩ := open_int Try.underlying3 (hval 1 3 v1 rfl rfl) h1
  obtain ⟨a2, rfl, rfl, rfl, w2⟩ := open_int Try.underlying3 (hval 2 3 v2 rfl rfl) h2
  clear hA0 hval0
  refine (numShifts_walk a0 a1 a2 W).mono fun e W' ⟨he, bel⟩ => ?_
  subst he
  exact ⟨_, rfl, _, _, _, [], _, [], hW', trodAll_mk1 (shut_bool Try.underlying4 _), (trodAll_cons_mk (shut_int Try.underlying3 w0) (trodAll_cons_mk (shut_int Try.underlying3 w1) (trodAll_cons_mk (shut_int Try.underlying3 w2) trodAll_mk0))), rfl, bel.frame _, fun h => by cases h⟩

theorem numShifts_holds : Rows.NumShiftsSaid :=
  OpenClaim.holds_of_wide 3 Try.f3 rfl rfl rfl rfl rfl rfl rfl ⟨rfl, rfl, rfl, rfl, rfl⟩ rfl rfl rfl rfl rfl (by kernel_rfl) Try.func3 (by kernel_rfl)
    (of_decide_eq_true (by kernel_rfl)) (by unfold Func.isWrapper; rw [if_neg (of_decide_eq_false (by kernel_rfl))]; exact ⟨rfl, rfl⟩)
    (fun os started H enc _ => numShifts_lifted os started H enc)
#print axioms numShifts_holds
end Go.Proofs.Ytfdcpelbikebkab
