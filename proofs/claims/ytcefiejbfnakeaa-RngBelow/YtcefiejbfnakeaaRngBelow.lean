/-
  RngBelowSaid is proved: for every number of 64 bits and every integer the statement RngBelow returns true, without any condition.
-/
import Derived.Test.YtcefiejbfnakeaaFrame
namespace Go.Proofs.Ytcefiejbfnakeaa
open Go.ChangeShapes Go.WideShapes Go.ChangeAt Go.RowKit

theorem belowN_nonneg (h : Nat) (n : Int) : 0 ≤ belowN h n := by
  by_cases h1 : n < 1
  · rw [belowN_out h n (.inl h1)]; omega
  · by_cases h2 : 2147483647 < n
    · rw [belowN_out h n (.inr h2)]; omega
    · rw [belowN_in h n h1 h2]
      exact Int.ediv_nonneg (Int.mul_nonneg (by omega) (by omega)) (by omega)
theorem belowN_lt (h : Nat) (n : Int) (hh : h < 18446744073709551616) (h1 : ¬ n < 1) : belowN h n < n := by
  by_cases h2 : 2147483647 < n
  · rw [belowN_out h n (.inr h2)]; omega
  · rw [belowN_in h n h1 h2]
    have hb := high_bd h hh
    have : (h : Int) / 4294967296 * n ≤ 4294967295 * n := Int.mul_le_mul_of_nonneg_right hb.2 (by omega)
    generalize (h : Int) / 4294967296 * n = p at *
    omega
set_option maxHeartbeats 1000000 in
theorem rngBelow_walk (x n : Int) (w : World) (hx : 0 ≤ x ∧ x ≤ 18446744073709551615) (hn : -9223372036854775808 ≤ n ∧ n ≤ 9223372036854775807) :
    Calls Try.prog 6 #[.int .u64 x, .int .i64 n] w fun e w' => e = .returned (.bool true) ∧ Below w.heap.size w w' := by
  obtain ⟨X, rfl⟩ := Int.eq_ofNat_of_zero_le hx.1
  have hX : X < 18446744073709551616 := by omega
  have h0 := belowN_nonneg X n
  have HN : Hid (-9223372036854775808 ≤ n ∧ n ≤ 9223372036854775807) := hn
  clear hx hn
  by_cases h1 : n < 1
  · have hz : belowN X n = 0 := belowN_out X n (.inl h1)
    go_enter Try.func6, Try.ntmps6
    go_wp2_with (first | (go_at_call 9; go_must (refine (awake_any _).mono ?_); rintro e w1 ⟨rfl, hb⟩) | (go_at_call 15; go_must (refine (below_any X n _ hX HN.out).mono ?_); rw [hz]; rintro e w' ⟨rfl, hw⟩; subst w') | (go_at_call 16; go_must (refine (rbelow_any X n _ hX HN.out).mono ?_); rw [hz]; rintro e w' ⟨rfl, hw⟩; subst w'))
    go_ret
    exact ⟨rfl, hb⟩
  · have hl := belowN_lt X n hX h1
    obtain ⟨q, eq⟩ : ∃ q, q = belowN X n := ⟨_, rfl⟩
    rw [← eq] at h0 hl
    have HQ : Hid (q = belowN X n) := eq
    clear eq
    go_enter Try.func6, Try.ntmps6
    go_wp2_with (first | (go_at_call 9; go_must (refine (awake_any _).mono ?_); rintro e w1 ⟨rfl, hb⟩) | (go_at_call 15; go_must (refine (below_any X n _ hX HN.out).mono ?_); rw [← HQ.out]; rintro e w' ⟨rfl, hw⟩; subst w') | (go_at_call 16; go_must (refine (rbelow_any X n _ hX HN.out).mono ?_); rw [← HQ.out]; rintro e w' ⟨rfl, hw⟩; subst w'))
    go_ret
    exact ⟨rfl, hb⟩

set_option maxRecDepth 100000 in
theorem rngBelow_lifted (os : Os) (started : os.Started) (H : Type) (enc : TypeId × Value → H) :
    ReturnsInHanded {} Try.checked os 6 .any (Rows.rngBelowSpec.pre6 enc Try.prog Try.f6 Rows.rngBelowRow.domain false) (Rows.rngBelowSpec.post enc Try.prog Try.f6 false true false false) := by
  refine returnsInHanded_of_change (C := Try.checked) own started (by kernel_rfl) Try.func6
    (ChangeSpec.witness6 (enc := enc) (C := Try.checked) false ⟨#[], #[.int .u64 0, .int .i64 0], []⟩ 8 (by kernel_rfl) (by kernel_rfl) (by kernel_rfl) (by kernel_rfl)) ?_
  intro W base args ds gs before hval0 hW _ _
  have hval : ∀ (j : Nat) t v, Try.f6.params[j]? = some t → args[j]? = some v → Value.okWide Try.prog W .any base t v := hval0
  have hW' := hW
  obtain ⟨p, q, hA0, hV, rfl, hfz, hnd⟩ := hW
  have hA : DataW.TrodAll enc Try.prog W 0 (fun _ => true) true Try.f6.params.toList args.toList ds p := hA0
  rw [Try.params6] at hA hval
  obtain ⟨v0, vs0, d0, ds0, p0, q0, hargs, rfl, rfl, h0, r0⟩ := trodAll_cons hA
  obtain ⟨v1, vs1, d1, ds1, p1, q1, rfl, rfl, rfl, h1, r1⟩ := trodAll_cons r0
  obtain ⟨rfl, rfl, rfl⟩ := trodAll_nil r1
  obtain rfl : args = #[v0, v1] := by cases args; simp_all
  obtain ⟨rfl, rfl⟩ := trodVars_none hV
  obtain ⟨a0, rfl, rfl, rfl, w0⟩ := open_int Try.underlying22 (hval 0 22 v0 rfl rfl) h0
  obtain ⟨a1, rfl, rfl, rfl, w1⟩ := open_int Try.underlying3 (hval 1 3 v1 rfl rfl) h1
  clear hA0 hval0
  refine (rngBelow_walk a0 a1 W (bdu64 w0) (bd64 w1)).mono fun e W' ⟨he, bel⟩ => ?_
  subst he
  exact ⟨_, rfl, _, _, _, [], _, [], hW', trodAll_mk1 (shut_bool Try.underlying4 _), (trodAll_cons_mk (shut_int Try.underlying22 w0) (trodAll_cons_mk (shut_int Try.underlying3 w1) trodAll_mk0)), rfl, bel.frame _, fun h => by cases h⟩

theorem rngBelow_holds : Rows.RngBelowSaid :=
  OpenClaim.holds_of_wide 6 Try.f6 rfl rfl rfl rfl rfl rfl rfl ⟨rfl, rfl, rfl, rfl, rfl⟩ rfl rfl rfl rfl rfl (by kernel_rfl) Try.func6 (by kernel_rfl)
    (of_decide_eq_true (by kernel_rfl)) (by unfold Func.isWrapper; rw [if_neg (of_decide_eq_false (by kernel_rfl))]; exact ⟨rfl, rfl⟩)
    (fun os started H enc _ => rngBelow_lifted os started H enc)
#print axioms rngBelow_holds
end Go.Proofs.Ytcefiejbfnakeaa
