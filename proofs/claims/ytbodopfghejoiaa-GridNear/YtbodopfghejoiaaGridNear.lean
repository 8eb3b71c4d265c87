/-
  GridNear: the chunks near any chunk are those that the document lists; it is near each of them.
-/
import Derived.Test.YtbodopfghejoiaaFrame
import Derived.Test.YtbodopfghejoiaaRnear
namespace Go.Proofs.Ytbodopfghejoiaa
open Go.ChangeShapes Go.WideShapes Go.ChangeAt Go.RowKit Go.BigFrame

theorem upto_get (a1 a2 a3 : Int) (S1 S3 n k : Nat) (h : k < n) : (upto a1 a2 a3 S1 S3 n)[k]? = some (cellAt a1 a2 a3 S1 S3 k) := by
  unfold upto
  rw [List.getElem?_map, List.getElem?_range h]
  rfl
theorem flatN_get (cx cz : Int) : ∀ (l : List P3) (k : Nat) (p : P3), l[k]? = some p → (flatN cx cz l)[k * 2]? = some (.int .i64 (wrap64 (cx + p.x))) ∧ (flatN cx cz l)[k * 2 + 1]? = some (.int .i64 (wrap64 (cz + p.z)))
  | [], k, p, h => by simp at h
  | q :: l, 0, p, h => by
    simp at h
    subst h
    exact ⟨rfl, rfl⟩
  | q :: l, k + 1, p, h => by
    have := flatN_get cx cz l k p (by simpa using h)
    have e : flatN cx cz (q :: l) = .int .i64 (wrap64 (cx + q.x)) :: .int .i64 (wrap64 (cz + q.z)) :: flatN cx cz l := by simp [flatN]
    rw [e, show (k + 1) * 2 = k * 2 + 1 + 1 by omega]
    simpa using this
/-- The step at a place of the list, and the place of the step back. -/
theorem near_step (r : Int) (h0 : 0 ≤ r) (h8 : r ≤ 8) (K : Nat) (hK : K < nearN r) :
    ∃ p q j, (nearL r)[K]? = some p ∧ (nearL r)[j]? = some q ∧ j < nearN r ∧ q.x = -p.x ∧ q.z = -p.z ∧ (-8 ≤ p.x ∧ p.x ≤ 8) ∧ (-8 ≤ p.z ∧ p.z ≤ 8) := by
  rw [(near_count r h0 h8).2.1] at hK ⊢
  rw [nearL_eq r h0 h8]
  generalize hS0 : (2 * r + 1).toNat = S at hK ⊢
  have hS : (S : Int) = 2 * r + 1 := by omega
  obtain ⟨M, I, hM, hI, rfl⟩ : ∃ M I, M < S ∧ I < S ∧ K = M * S + I :=
    ⟨K / S, K % S, Nat.div_lt_of_lt_mul hK, Nat.mod_lt _ (by omega), by rw [Nat.mul_comm]; exact (Nat.div_add_mod K S).symm⟩
  have hj : (S - 1 - M) * S + (S - 1 - I) < S * S := by
    have h1 : (S - 1 - M + 1) * S ≤ S * S := Nat.mul_le_mul_right _ (by omega)
    rw [Nat.add_mul] at h1
    omega
  refine ⟨_, _, (S - 1 - M) * S + (S - 1 - I), upto_get _ _ _ _ _ _ _ hK, upto_get _ _ _ _ _ _ _ hj, hj, ?_⟩
  rw [near_at r S _ _ (show S - 1 - I < S by omega) (show S - 1 - M < S by omega), near_at r S _ _ hI hM]
  simp only
  omega
theorem wrap_near {n d : Int} (h : -1099511627776 ≤ n ∧ n ≤ 1099511627776) (hd : -8 ≤ d ∧ d ≤ 8) : wrap64 (n + d) = n + d := by unfold wrap64; omega
theorem ownsRow_len {W : World} {b e size k : Nat} {v : Value} {xs : List Value} (h : W.ownsRow b e size v k xs) (hk : 0 < k) : ∃ g cap, v = .slice (some ⟨g, 0, none⟩) k cap := by
  rcases h.2 with ⟨_, h0⟩ | ⟨g, cap, _, rfl, _⟩
  · omega
  · exact ⟨g, cap, rfl⟩
/-- What a row holds is there in every later world. -/
theorem ownsRow_below {W W' : World} {b e size k : Nat} {v : Value} {xs : List Value} (h : W.ownsRow b e size v k xs) (hB : Below W.heap.size W W') : W'.ownsRow b e size v k xs := by
  refine ⟨h.1, ?_⟩
  rcases h.2 with h0 | ⟨g, cap, cur, hv, hg, hb, rest⟩
  · exact .inl h0
  · exact .inr ⟨g, cap, cur, hv, hg, (hB.block g (Array.getElem?_eq_some_iff.1 hb).1).trans hb, rest⟩

set_option maxRecDepth 100000 in
set_option maxHeartbeats 4000000 in
theorem gridNear_any (cx cz r : Int) (w : World) : Calls Try.prog 7 #[.agg #[.int .i64 cx, .int .i64 cz], .int .i64 r] w fun e w' => e = .returned (.bool true) ∧ Below w.heap.size w w' := by
  by_cases c0 : -1099511627776 ≤ cx
  case neg =>
    go_enter Try.func7, Try.ntmps7
    go_wp2_with fail
    refine (awake_c _).mono ?_
    rintro e w1 ⟨rfl, hw1⟩
    have HB1 : Hid (Below w.heap.size w w1) := ((Below.refl _ w).alloc (Nat.le_refl _) _).trans (hw1.mono (by simp))
    have hX1 := (hw1.block w.heap.size (by simp)).trans (heap_alloc_new w _)
    have k0 := (cell_of_row w1 w.heap.size 0 _ 27 (0, 0) hX1).trans rfl
    have k1 := (cell_of_row w1 w.heap.size 1 _ 27 (0, 0) hX1).trans rfl
    clear hw1
    go_wp2
    go_ret
    exact ⟨rfl, HB1.out⟩
  by_cases c1 : cx ≤ 1099511627776
  case neg =>
    go_enter Try.func7, Try.ntmps7
    go_wp2_with fail
    refine (awake_c _).mono ?_
    rintro e w1 ⟨rfl, hw1⟩
    have HB1 : Hid (Below w.heap.size w w1) := ((Below.refl _ w).alloc (Nat.le_refl _) _).trans (hw1.mono (by simp))
    have hX1 := (hw1.block w.heap.size (by simp)).trans (heap_alloc_new w _)
    have k0 := (cell_of_row w1 w.heap.size 0 _ 27 (0, 0) hX1).trans rfl
    have k1 := (cell_of_row w1 w.heap.size 1 _ 27 (0, 0) hX1).trans rfl
    clear hw1
    go_wp2
    go_ret
    exact ⟨rfl, HB1.out⟩
  by_cases c2 : -1099511627776 ≤ cz
  case neg =>
    go_enter Try.func7, Try.ntmps7
    go_wp2_with fail
    refine (awake_c _).mono ?_
    rintro e w1 ⟨rfl, hw1⟩
    have HB1 : Hid (Below w.heap.size w w1) := ((Below.refl _ w).alloc (Nat.le_refl _) _).trans (hw1.mono (by simp))
    have hX1 := (hw1.block w.heap.size (by simp)).trans (heap_alloc_new w _)
    have k0 := (cell_of_row w1 w.heap.size 0 _ 27 (0, 0) hX1).trans rfl
    have k1 := (cell_of_row w1 w.heap.size 1 _ 27 (0, 0) hX1).trans rfl
    clear hw1
    go_wp2
    go_ret
    exact ⟨rfl, HB1.out⟩
  by_cases c3 : cz ≤ 1099511627776
  case neg =>
    go_enter Try.func7, Try.ntmps7
    go_wp2_with fail
    refine (awake_c _).mono ?_
    rintro e w1 ⟨rfl, hw1⟩
    have HB1 : Hid (Below w.heap.size w w1) := ((Below.refl _ w).alloc (Nat.le_refl _) _).trans (hw1.mono (by simp))
    have hX1 := (hw1.block w.heap.size (by simp)).trans (heap_alloc_new w _)
    have k0 := (cell_of_row w1 w.heap.size 0 _ 27 (0, 0) hX1).trans rfl
    have k1 := (cell_of_row w1 w.heap.size 1 _ 27 (0, 0) hX1).trans rfl
    clear hw1
    go_wp2
    go_ret
    exact ⟨rfl, HB1.out⟩
  by_cases hr : 0 ≤ r ∧ r ≤ 8
  case neg =>
    have hr' : r < 0 ∨ 8 < r := by omega
    go_enter Try.func7, Try.ntmps7
    go_wp2_with fail
    refine (awake_c _).mono ?_
    rintro e w1 ⟨rfl, hw1⟩
    have HB1 : Hid (Below w.heap.size w w1) := ((Below.refl _ w).alloc (Nat.le_refl _) _).trans (hw1.mono (by simp))
    have hX1 := (hw1.block w.heap.size (by simp)).trans (heap_alloc_new w _)
    have k0 := (cell_of_row w1 w.heap.size 0 _ 27 (0, 0) hX1).trans rfl
    have k1 := (cell_of_row w1 w.heap.size 1 _ 27 (0, 0) hX1).trans rfl
    clear hw1
    go_wp2_with fail
    refine (near_none _ _ _ hr' _).mono ?_
    rintro e w2 ⟨rfl, hw2⟩
    have HB2 : Hid (Below w.heap.size w w2) := HB1.out.trans (hw2.mono HB1.out.size)
    have hX2 := (hw2.block _ (Array.getElem?_eq_some_iff.1 hX1).1).trans hX1
    have l0 := (cell_of_row w2 w.heap.size 0 _ 27 (0, 0) hX2).trans rfl
    have l1 := (cell_of_row w2 w.heap.size 1 _ 27 (0, 0) hX2).trans rfl
    go_wp2_with fail
    refine (rnear_none _ _ _ hr' _).mono ?_
    rintro e w3 ⟨rfl, hw3⟩
    have HB3 : Hid (Below w.heap.size w w3) := HB2.out.trans (hw3.mono HB2.out.size)
    go_wp2
    go_loop [8] (fun i => i = .int .i64 0) (fun _ => 0)
    case atStart => rfl
    case round =>
      subst hrel
      go_wp2
      go_ret
      exact ⟨rfl, HB3.out⟩
  go_enter Try.func7, Try.ntmps7
  go_wp2_with fail
  refine (awake_c _).mono ?_
  rintro e w1 ⟨rfl, hw1⟩
  have HB1 : Hid (Below w.heap.size w w1) := ((Below.refl _ w).alloc (Nat.le_refl _) _).trans (hw1.mono (by simp))
  have hX1 := (hw1.block w.heap.size (by simp)).trans (heap_alloc_new w _)
  have k0 := (cell_of_row w1 w.heap.size 0 _ 27 (0, 0) hX1).trans rfl
  have k1 := (cell_of_row w1 w.heap.size 1 _ 27 (0, 0) hX1).trans rfl
  clear hw1
  go_wp2_with fail
  refine (near_c _ _ _ hr.1 hr.2 _).mono ?_
  rintro e w2 ⟨v2, rfl, hrow2, hw2⟩
  have HB2 : Hid (Below w.heap.size w w2) := HB1.out.trans (hw2.mono HB1.out.size)
  have hX2 := (hw2.block _ (Array.getElem?_eq_some_iff.1 hX1).1).trans hX1
  have l0 := (cell_of_row w2 w.heap.size 0 _ 27 (0, 0) hX2).trans rfl
  have l1 := (cell_of_row w2 w.heap.size 1 _ 27 (0, 0) hX2).trans rfl
  go_wp2_with fail
  refine (rnear_c _ _ _ hr.1 hr.2 _).mono ?_
  rintro e w3 ⟨v3, rfl, hrow3, hw3⟩
  have HB3 : Hid (Below w.heap.size w w3) := HB2.out.trans (hw3.mono HB2.out.size)
  have hX3 := (hw3.block _ (Array.getElem?_eq_some_iff.1 hX2).1).trans hX2
  have hrow2' := ownsRow_below hrow2 hw3
  have hstep := near_step r hr.1 hr.2
  obtain ⟨_, hN2, hN3⟩ := near_count r hr.1 hr.2
  have hN1 : 0 < nearN r := by rw [hN2]; exact Nat.mul_pos (by omega) (by omega)
  clear hN2 k0 k1 l0 l1 hX1 hX2 hw2 hw3 hrow2
  generalize hNN : nearN r = N at *
  obtain ⟨g2, cap2, rfl⟩ := ownsRow_len hrow2' hN1
  obtain ⟨g3, cap3, rfl⟩ := ownsRow_len hrow3 hN1
  go_wp2_with fail
  go_loopw [8] (fun i wr => ∃ K : Nat, i = .int .i64 (K : Int) ∧ K ≤ N ∧ Below w3.heap.size w3 wr) (fun i _ => N - (intOf i).toNat)
  case atStart => exact ⟨0, by simp, by omega, Below.refl _ _⟩
  case round =>
    obtain ⟨K, rfl, hK, hB⟩ := hrel
    by_cases hk : K = N
    · have hk' : ¬ (K : Int) < (N : Int) := by omega
      go_wp2
      go_ret
      exact ⟨rfl, HB3.out.trans (hB.mono HB3.out.size)⟩
    · have hk' : (K : Int) < (N : Int) := by omega
      have hk0 : (0 : Int) ≤ (K : Int) := by omega
      obtain ⟨p, q, j, hp, hq, hj, e1, e2, bp1, bp2⟩ := hstep K (by omega)
      have hr2 := ownsRow_below hrow2' hB
      have hr3 := ownsRow_below hrow3 hB
      obtain ⟨m1, m2⟩ := flatN_get cx cz (nearL r) K p hp
      rw [wrap_near ⟨c0, c1⟩ bp1] at m1
      rw [wrap_near ⟨c2, c3⟩ bp2] at m2
      have y0 := (ownsRow_cell hr2 (K * 2) (by omega)).trans m1
      have y1 := (ownsRow_cell hr2 (K * 2 + 1) (by omega)).trans m2
      have y2 := (ownsRow_cell hr3 (K * 2) (by omega)).trans m1
      have y3 := (ownsRow_cell hr3 (K * 2 + 1) (by omega)).trans m2
      go_wp2_with fail
      go_quiet (fail)
      go_wp2_with fail
      refine (near_c _ _ _ hr.1 hr.2 _).mono ?_
      rintro e w4 ⟨v4, rfl, hrow4, hw4⟩
      rw [hNN] at hrow4
      obtain ⟨g4, cap4, rfl⟩ := ownsRow_len hrow4 hN1
      have hX4 : w4.heap[w.heap.size]? = _ := ((hw4.block w.heap.size (by have := (Array.getElem?_eq_some_iff.1 hX3).1; have := hB.size; simp; omega)).trans (hB.block _ (Array.getElem?_eq_some_iff.1 hX3).1)).trans hX3
      have z0 := (cell_of_row w4 w.heap.size 0 _ 27 (0, 0) hX4).trans rfl
      have z1 := (cell_of_row w4 w.heap.size 1 _ 27 (0, 0) hX4).trans rfl
      have hB4 : Hid (Below w3.heap.size w3 w4) := (below_drewN hB nq).trans (hw4.mono hB.size)
      clear y0 y1 y2 y3 m1 m2
      go_wp2_with fail
      go_loopw [10, 11] (fun f k wr => ∃ (b : Bool) (J n : Nat), f = .bool b ∧ k = .int .i64 (J : Int) ∧ J ≤ N ∧ (j < J → b = true) ∧ wr = w4.drewN n) (fun _ k _ => N - (intOf k).toNat)
      case atStart => exact ⟨false, 0, 0, rfl, by simp, by omega, fun h => by omega, rfl⟩
      case round =>
        obtain ⟨b, J, n, rfl, rfl, hJ, hb, rfl⟩ := hrel
        by_cases hJN : J = N
        · have hJ1 : ¬ (J : Int) < (N : Int) := by omega
          have hb1 : b = true := hb (by omega)
          subst hb1
          go_wp2
          exact ⟨⟨K + 1, by simp, by omega, below_drewN hB4.out n⟩, by simp [intOf]; omega⟩
        · have hJ1 : (J : Int) < (N : Int) := by omega
          have hJ0 : (0 : Int) ≤ (J : Int) := by omega
          cases b with
          | true =>
            go_wp2_with fail
            go_quiet (fail)
            go_wp2
            exact ⟨⟨true, J + 1, n + nq, rfl, by simp, by omega, fun _ => rfl, rfl⟩, by simp [intOf]; omega⟩
          | false =>
            have hJj : J ≤ j := by rcases Nat.lt_or_ge j J with h | h; exact absurd (hb h) (by simp); exact h
            have hJlen : J < (nearL r).length := by rw [show (nearL r).length = nearN r from boxL_length _ _ _ _ _ _, hNN]; omega
            have hpj : (nearL r)[J]? = some (nearL r)[J] := List.getElem?_eq_getElem hJlen
            have hback : J = j → wrap64 (cx + p.x + (nearL r)[J].x) = cx ∧ wrap64 (cz + p.z + (nearL r)[J].z) = cz := fun h => by
              subst h
              rw [hpj] at hq
              cases hq
              rw [e1, e2]
              unfold wrap64
              omega
            obtain ⟨o1, o2⟩ := flatN_get (cx + p.x) (cz + p.z) (nearL r) J _ hpj
            generalize wrap64 (cx + p.x + (nearL r)[J].x) = U at o1 hback
            generalize wrap64 (cz + p.z + (nearL r)[J].z) = V at o2 hback
            have x0 := (ownsRow_cell hrow4 (J * 2) (by omega)).trans o1
            have x1 := (ownsRow_cell hrow4 (J * 2 + 1) (by omega)).trans o2
            have HJ : Hid (J = j → U = cx ∧ V = cz) := hback
            clear hback o1 o2 hpj
            by_cases u0 : U = cx
            case neg =>
              go_wp2_with fail
              go_quiet (fail)
              go_wp2
              exact ⟨⟨false, J + 1, n + nq, rfl, by simp, by omega, fun h => absurd (HJ.out (by omega)).1 u0, rfl⟩, by simp [intOf]; omega⟩
            subst u0
            by_cases v0 : V = cz
            case neg =>
              go_wp2_with fail
              go_quiet (fail)
              go_wp2
              exact ⟨⟨false, J + 1, n + nq, rfl, by simp, by omega, fun h => absurd (HJ.out (by omega)).2 v0, rfl⟩, by simp [intOf]; omega⟩
            subst v0
            go_wp2_with fail
            go_quiet (fail)
            go_wp2
            exact ⟨⟨true, J + 1, n + nq, rfl, by simp, by omega, fun _ => rfl, rfl⟩, by simp [intOf]; omega⟩

set_option maxRecDepth 100000 in
theorem gridNear_lifted (os : Os) (started : os.Started) (H : Type) (enc : TypeId × Value → H) :
    ReturnsInHanded {} Try.checked os 7 .any (Rows.gridNearSpec.pre6 enc Try.prog Try.f7 Rows.gridNearRow.domain false) (Rows.gridNearSpec.post enc Try.prog Try.f7 false true false false) := by
  refine returnsInHanded_of_change (C := Try.checked) own started (by kernel_rfl) Try.func7
    (ChangeSpec.witness6 (enc := enc) (C := Try.checked) false ⟨#[], #[.agg #[.int .i64 0, .int .i64 0], .int .i64 0], []⟩ 8 (by kernel_rfl) (by kernel_rfl) (by kernel_rfl) (by kernel_rfl)) ?_
  intro W base args ds gs before hval0 hW _ _
  have hval : ∀ (j : Nat) t v, Try.f7.params[j]? = some t → args[j]? = some v → Value.okWide Try.prog W .any base t v := hval0
  have hW' := hW
  obtain ⟨p, q, hA0, hV, rfl, hfz, hnd⟩ := hW
  have hA : DataW.TrodAll enc Try.prog W 0 (fun _ => true) true Try.f7.params.toList args.toList ds p := hA0
  rw [Try.params7] at hA hval
  obtain ⟨v0, vs0, d0, ds0, p0, q0, hargs, rfl, rfl, h0, r0⟩ := trodAll_cons hA
  obtain ⟨v1, vs1, d1, ds1, p1, q1, rfl, rfl, rfl, h1, r1⟩ := trodAll_cons r0
  obtain ⟨rfl, rfl, rfl⟩ := trodAll_nil r1
  obtain rfl : args = #[v0, v1] := by cases args; simp_all
  obtain ⟨rfl, rfl⟩ := trodVars_none hV
  have lt0 : ∀ x ∈ p0, x.block < W.heap.size := by obtain ⟨m, hm⟩ := h0; exact DataW.trod_lt m _ _ _ hm
  obtain ⟨cx, cz, rfl, B_cx, B_cz⟩ := open_at (hval 0 27 v0 rfl rfl) h0
  obtain ⟨r, rfl, rfl, rfl, w1⟩ := open_int Try.underlying3 (hval 1 3 v1 rfl rfl) h1
  have B_r := bd64 w1
  clear hA0 hval0
  refine (gridNear_any cx cz r W).mono fun e W' ⟨he, bel⟩ => ?_
  subst he
  exact ⟨_, rfl, _, _, _, [], _, [], hW', trodAll_mk1 (shut_bool Try.underlying4 _), (trodAll_cons_mk (Below.trod laidOut (by kernel_rfl) (of_decide_eq_true (by kernel_rfl)) h0 bel lt0) (trodAll_cons_mk (shut_int Try.underlying3 w1) trodAll_mk0)), rfl, bel.frame _, fun h => by cases h⟩

theorem gridNear_holds : Rows.GridNearSaid :=
  OpenClaim.holds_of_wide 7 Try.f7 rfl rfl rfl rfl rfl rfl rfl ⟨rfl, rfl, rfl, rfl, rfl⟩ rfl rfl rfl rfl rfl (by kernel_rfl) Try.func7 (by kernel_rfl)
    (of_decide_eq_true (by kernel_rfl)) (by unfold Func.isWrapper; rw [if_neg (of_decide_eq_false (by kernel_rfl))]; exact ⟨rfl, rfl⟩)
    (fun os started H enc _ => gridNear_lifted os started H enc)
#print axioms gridNear_holds
end Go.Proofs.Ytbodopfghejoiaa
