/-
  No two kinds have one name.
-/
import Derived.Test.YtdkmlhchfclpeaaDoorFrame
import Derived.Test.YtdkmlhchfclpeaaDoorAwake
namespace Go.Proofs.YtdkmlhchfclpeaaDoor
open Go.ChangeShapes Go.WideShapes Go.ChangeAt Go.RowKit

theorem str_full {a : ByteArray} (h : a ≠ ⟨#[]⟩) : a.toList.isEmpty = false := by
  rw [ByteArray.toList_eq]
  cases a with | mk d => cases e : d.toList with
    | nil => exact absurd (by rw [show d = #[] from Array.toList_inj.1 e]) h
    | cons _ _ => rfl
theorem no_name' (K : Nat) (hK : K < 16) : nm K ≠ ⟨#[]⟩ := by
  intro h
  have H : ∀ k : Fin 16, nmL.getD k.1 [] ≠ [] := of_decide_eq_true (by kernel_rfl)
  exact H ⟨K, hK⟩ (by simpa [nm] using congrArg (fun b : ByteArray => b.data.toList) h)
set_option maxRecDepth 100000 in
theorem kindApart_a1 (a b : Int) (x y : ByteArray) (h0 : a < 0) (ex : x = ⟨#[]⟩)
    (ca : ∀ w, Tab w → Calls Tryd.prog 8 #[.int .i64 a] w fun e w' => e = .returned (.string x) ∧ Below w.heap.size w w') (cb : ∀ w, Tab w → Calls Tryd.prog 8 #[.int .i64 b] w fun e w' => e = .returned (.string y) ∧ Below w.heap.size w w')
    (w : World) (T : Tab w) : Calls Tryd.prog 6 #[.int .i64 a, .int .i64 b] w fun e w' => e = .returned (.bool true) ∧ Below w.heap.size w w' := by
  subst ex
  go_enter Tryd.func6, Tryd.ntmps6
  go_wp2_with fail
  refine (awake_c w T).mono ?_
  rintro _ w1 ⟨rfl, b1⟩
  have T1 := T.on b1
  clear T
  go_wp2_with fail
  refine (ca w1 T1).mono ?_
  rintro _ w2 ⟨rfl, b2⟩
  have T2 := T1.on b2
  have B2 := b1.trans (b2.mono b1.size)
  clear T1 b2
  go_wp2_with fail
  refine (cb w2 T2).mono ?_
  rintro _ w3 ⟨rfl, b3⟩
  have T3 := T2.on b3
  have B3 := B2.trans (b3.mono B2.size)
  clear T2 b3
  go_wp2
  go_ret
  exact ⟨rfl, B3⟩
set_option maxRecDepth 100000 in
theorem kindApart_a2 (a b : Int) (x y : ByteArray) (h0 : ¬ a < 0) (h1 : 15 < a) (ex : x = ⟨#[]⟩)
    (ca : ∀ w, Tab w → Calls Tryd.prog 8 #[.int .i64 a] w fun e w' => e = .returned (.string x) ∧ Below w.heap.size w w') (cb : ∀ w, Tab w → Calls Tryd.prog 8 #[.int .i64 b] w fun e w' => e = .returned (.string y) ∧ Below w.heap.size w w')
    (w : World) (T : Tab w) : Calls Tryd.prog 6 #[.int .i64 a, .int .i64 b] w fun e w' => e = .returned (.bool true) ∧ Below w.heap.size w w' := by
  subst ex
  go_enter Tryd.func6, Tryd.ntmps6
  go_wp2_with fail
  refine (awake_c w T).mono ?_
  rintro _ w1 ⟨rfl, b1⟩
  have T1 := T.on b1
  clear T
  go_wp2_with fail
  refine (ca w1 T1).mono ?_
  rintro _ w2 ⟨rfl, b2⟩
  have T2 := T1.on b2
  have B2 := b1.trans (b2.mono b1.size)
  clear T1 b2
  go_wp2_with fail
  refine (cb w2 T2).mono ?_
  rintro _ w3 ⟨rfl, b3⟩
  have T3 := T2.on b3
  have B3 := B2.trans (b3.mono B2.size)
  clear T2 b3
  go_wp2
  go_ret
  exact ⟨rfl, B3⟩
set_option maxRecDepth 100000 in
theorem kindApart_b1 (a b : Int) (x y : ByteArray) (h0 : ¬ a < 0) (h1 : ¬ 15 < a) (h2 : b < 0)
    (ca : ∀ w, Tab w → Calls Tryd.prog 8 #[.int .i64 a] w fun e w' => e = .returned (.string x) ∧ Below w.heap.size w w') (cb : ∀ w, Tab w → Calls Tryd.prog 8 #[.int .i64 b] w fun e w' => e = .returned (.string y) ∧ Below w.heap.size w w')
    (w : World) (T : Tab w) : Calls Tryd.prog 6 #[.int .i64 a, .int .i64 b] w fun e w' => e = .returned (.bool true) ∧ Below w.heap.size w w' := by
  go_enter Tryd.func6, Tryd.ntmps6
  go_wp2_with fail
  refine (awake_c w T).mono ?_
  rintro _ w1 ⟨rfl, b1⟩
  have T1 := T.on b1
  clear T
  go_wp2_with fail
  refine (ca w1 T1).mono ?_
  rintro _ w2 ⟨rfl, b2⟩
  have T2 := T1.on b2
  have B2 := b1.trans (b2.mono b1.size)
  clear T1 b2
  go_wp2_with fail
  refine (cb w2 T2).mono ?_
  rintro _ w3 ⟨rfl, b3⟩
  have T3 := T2.on b3
  have B3 := B2.trans (b3.mono B2.size)
  clear T2 b3
  go_wp2
  go_ret
  exact ⟨rfl, B3⟩
set_option maxRecDepth 100000 in
theorem kindApart_b2 (a b : Int) (x y : ByteArray) (h0 : ¬ a < 0) (h1 : ¬ 15 < a) (h2 : ¬ b < 0) (h3 : 15 < b)
    (ca : ∀ w, Tab w → Calls Tryd.prog 8 #[.int .i64 a] w fun e w' => e = .returned (.string x) ∧ Below w.heap.size w w') (cb : ∀ w, Tab w → Calls Tryd.prog 8 #[.int .i64 b] w fun e w' => e = .returned (.string y) ∧ Below w.heap.size w w')
    (w : World) (T : Tab w) : Calls Tryd.prog 6 #[.int .i64 a, .int .i64 b] w fun e w' => e = .returned (.bool true) ∧ Below w.heap.size w w' := by
  go_enter Tryd.func6, Tryd.ntmps6
  go_wp2_with fail
  refine (awake_c w T).mono ?_
  rintro _ w1 ⟨rfl, b1⟩
  have T1 := T.on b1
  clear T
  go_wp2_with fail
  refine (ca w1 T1).mono ?_
  rintro _ w2 ⟨rfl, b2⟩
  have T2 := T1.on b2
  have B2 := b1.trans (b2.mono b1.size)
  clear T1 b2
  go_wp2_with fail
  refine (cb w2 T2).mono ?_
  rintro _ w3 ⟨rfl, b3⟩
  have T3 := T2.on b3
  have B3 := B2.trans (b3.mono B2.size)
  clear T2 b3
  go_wp2
  go_ret
  exact ⟨rfl, B3⟩
set_option maxRecDepth 100000 in
theorem kindApart_same (a b : Int) (x y : ByteArray) (h0 : ¬ a < 0) (h1 : ¬ 15 < a) (eb : b = a) (ex : x.toList.isEmpty = false) (ey : y = x)
    (ca : ∀ w, Tab w → Calls Tryd.prog 8 #[.int .i64 a] w fun e w' => e = .returned (.string x) ∧ Below w.heap.size w w') (cb : ∀ w, Tab w → Calls Tryd.prog 8 #[.int .i64 b] w fun e w' => e = .returned (.string y) ∧ Below w.heap.size w w')
    (w : World) (T : Tab w) : Calls Tryd.prog 6 #[.int .i64 a, .int .i64 b] w fun e w' => e = .returned (.bool true) ∧ Below w.heap.size w w' := by
  subst eb ey
  go_enter Tryd.func6, Tryd.ntmps6
  go_wp2_with fail
  refine (awake_c w T).mono ?_
  rintro _ w1 ⟨rfl, b1⟩
  have T1 := T.on b1
  clear T
  go_wp2_with fail
  refine (ca w1 T1).mono ?_
  rintro _ w2 ⟨rfl, b2⟩
  have T2 := T1.on b2
  have B2 := b1.trans (b2.mono b1.size)
  clear T1 b2
  go_wp2_with fail
  refine (cb w2 T2).mono ?_
  rintro _ w3 ⟨rfl, b3⟩
  have T3 := T2.on b3
  have B3 := B2.trans (b3.mono B2.size)
  clear T2 b3
  go_wp2
  go_ret
  exact ⟨rfl, B3⟩
set_option maxRecDepth 100000 in
theorem kindApart_two (a b : Int) (x y : ByteArray) (h0 : ¬ a < 0) (h1 : ¬ 15 < a) (h2 : ¬ b < 0) (h3 : ¬ 15 < b) (eb : (a == b) = false) (ex : x.toList.isEmpty = false) (ey : (x.toList == y.toList) = false)
    (ca : ∀ w, Tab w → Calls Tryd.prog 8 #[.int .i64 a] w fun e w' => e = .returned (.string x) ∧ Below w.heap.size w w') (cb : ∀ w, Tab w → Calls Tryd.prog 8 #[.int .i64 b] w fun e w' => e = .returned (.string y) ∧ Below w.heap.size w w')
    (w : World) (T : Tab w) : Calls Tryd.prog 6 #[.int .i64 a, .int .i64 b] w fun e w' => e = .returned (.bool true) ∧ Below w.heap.size w w' := by
  go_enter Tryd.func6, Tryd.ntmps6
  go_wp2_with fail
  refine (awake_c w T).mono ?_
  rintro _ w1 ⟨rfl, b1⟩
  have T1 := T.on b1
  clear T
  go_wp2_with fail
  refine (ca w1 T1).mono ?_
  rintro _ w2 ⟨rfl, b2⟩
  have T2 := T1.on b2
  have B2 := b1.trans (b2.mono b1.size)
  clear T1 b2
  go_wp2_with fail
  refine (cb w2 T2).mono ?_
  rintro _ w3 ⟨rfl, b3⟩
  have T3 := T2.on b3
  have B3 := B2.trans (b3.mono B2.size)
  clear T2 b3
  go_wp2
  go_ret
  exact ⟨rfl, B3⟩
theorem kindApart_walk (a b : Int) (w : World) (T : Tab w) : Calls Tryd.prog 6 #[.int .i64 a, .int .i64 b] w fun e w' => e = .returned (.bool true) ∧ Below w.heap.size w w' := by
  rcases row_cases a with ⟨h0, e⟩ | ⟨h0, h1, e⟩ | ⟨K, rfl, h1, e⟩
  · exact kindApart_a1 a b _ _ h0 rfl (kind_nm a · · 16 e) (kind_nm b · · _ rfl) w T
  · exact kindApart_a2 a b _ _ h0 (by omega) rfl (kind_nm a · · 16 e) (kind_nm b · · _ rfl) w T
  · have i0 : ¬ (K : Int) < 0 := by omega
    have i1 : ¬ (15 : Int) < K := by omega
    rcases row_cases b with ⟨g0, e'⟩ | ⟨g0, g1, e'⟩ | ⟨J, rfl, g1, e'⟩
    · exact kindApart_b1 K b _ _ i0 i1 g0 (kind_nm K · · K e) (kind_nm b · · _ rfl) w T
    · exact kindApart_b2 K b _ _ i0 i1 g0 (by omega) (kind_nm K · · K e) (kind_nm b · · _ rfl) w T
    · by_cases ej : J = K
      · subst ej
        exact kindApart_same J J _ _ i0 i1 rfl (str_full (no_name' J h1)) rfl (kind_nm J · · J e) (kind_nm J · · J e) w T
      · exact kindApart_two K J _ _ i0 i1 (by omega) (by omega) (beq_false_of_ne (by omega)) (str_full (no_name' K h1)) (str_ne fun h => ej (names_apart h1 g1 h).symm) (kind_nm K · · K e) (kind_nm J · · J e') w T

set_option maxRecDepth 100000 in
theorem kindApart_lifted (os : Os) (started : os.Started) (H : Type) (enc : TypeId × Value → H) :
    ReturnsInHanded {} Tryd.checked os 6 .any (fun w args => (Rows.kindApartSpec.pre enc Tryd.prog Tryd.f6 [] false w args ∧ laidMetH Tryd.prog [("outcrop/kind.rows", Rows.laid_outcrop_kind_rows)] w) ∧ sizedMet enc Tryd.prog Tryd.f6 (OpenSpec.ofChange Rows.kindApartSpec) false w args)
      (Rows.kindApartSpec.post enc Tryd.prog Tryd.f6 false true false false) := by
  refine returnsInHanded_of_change_and (C := Tryd.checked) (X := fun w _ => laidMetH Tryd.prog [("outcrop/kind.rows", Rows.laid_outcrop_kind_rows)] w) (fun _ _ _ hh h => h.of_heap hh) own started (by kernel_rfl) Tryd.func6
    (ChangeSpec.witness_shaped (enc := enc) (C := Tryd.checked) (os := os) (X := fun w _ => laidMetH Tryd.prog [("outcrop/kind.rows", Rows.laid_outcrop_kind_rows)] w) false (World.doorLaid Tryd.prog 30 os) #[.int .i64 0, .int .i64 0] 8 rfl (World.shaped_of_RefB (by kernel_rfl) (by kernel_rfl)) (by kernel_rfl) (by kernel_rfl) (by kernel_rfl) (door_met os _)) ?_
  intro W base args ds gs before hval0 hW _ _ hL _
  have hval : ∀ (j : Nat) t v, Tryd.f6.params[j]? = some t → args[j]? = some v → Value.okWide Tryd.prog W .any base t v := hval0
  have hW' := hW
  obtain ⟨p, q, hA0, hV, rfl, hfz, hnd⟩ := hW
  have hA : DataW.TrodAll enc Tryd.prog W 0 (fun _ => true) true Tryd.f6.params.toList args.toList ds p := hA0
  rw [Tryd.params6] at hA hval
  obtain ⟨v0, vs0, d0, ds0, p0, q0, hargs, rfl, rfl, h0, r0⟩ := trodAll_cons hA
  obtain ⟨v1, vs1, d1, ds1, p1, q1, rfl, rfl, rfl, h1, r1⟩ := trodAll_cons r0
  obtain ⟨rfl, rfl, rfl⟩ := trodAll_nil r1
  obtain rfl : args = #[v0, v1] := by cases args; simp_all
  obtain ⟨rfl, rfl⟩ := trodVars_none hV
  obtain ⟨a, rfl, rfl, rfl, w0⟩ := open_int Tryd.underlying3 (hval 0 3 v0 rfl rfl) h0
  obtain ⟨b, rfl, rfl, rfl, w1⟩ := open_int Tryd.underlying3 (hval 1 3 v1 rfl rfl) h1
  have T := tab_of_laid hL
  clear hA0 hval0
  refine (kindApart_walk a b W T).mono fun e W' ⟨he, bel⟩ => ?_
  subst he
  exact ⟨_, rfl, _, _, _, [], _, [], hW', trodAll_mk1 (shut_bool Tryd.underlying4 _), (trodAll_cons_mk (shut_int Tryd.underlying3 w0) (trodAll_cons_mk (shut_int Tryd.underlying3 w1) trodAll_mk0)), rfl, bel.frame _, fun h => by cases h⟩

theorem kindApart_holds : Rows.KindApartSaid :=
  OpenClaim.holds_of_wide 6 Tryd.f6 rfl rfl rfl rfl rfl rfl rfl ⟨rfl, rfl, rfl, rfl, rfl⟩ rfl rfl rfl rfl rfl (by kernel_rfl) Tryd.func6 (by kernel_rfl)
    (of_decide_eq_true (by kernel_rfl)) (by unfold Func.isWrapper; rw [if_neg (of_decide_eq_false (by kernel_rfl))]; exact ⟨rfl, rfl⟩)
    (fun os started H enc _ => kindApart_lifted os started H enc)
theorem kindApart_plain (f : FuncId) (fn : Func) (hf : Tryd.pinned.checked.prog.funcNamed "outcrop/outcroplaw05.KindApart" = some f) (hfn : Tryd.pinned.checked.prog.funcs[f]? = some fn) :
    false = Tryd.pinned.checked.prog.looks [] ∧ ∀ (j : Nat) t, fn.params[j]? = some t → Tryd.pinned.checked.prog.wantsStandIn t = false := by
  obtain rfl : f = 6 := Option.some.inj ((show Tryd.prog.funcNamed "outcrop/outcroplaw05.KindApart" = some 6 by kernel_rfl).symm.trans hf) |>.symm
  obtain rfl : fn = Tryd.f6 := (Option.some.inj (Tryd.func6.symm.trans hfn)).symm
  refine ⟨by kernel_rfl, fun j t ht => ?_⟩
  rw [Tryd.params6] at ht
  obtain rfl : t = 3 := by simpa using Array.mem_of_getElem? ht
  exact (show Tryd.prog.wantsStandIn 3 = false by kernel_rfl)
/-- The card: the row's statement, its listed variable tied to the program's text. -/
theorem kindApart_card : Rows.KindApartCardSaid :=
  Claim7.holds_tied_plain_at .later [] _ _ _ _ kindApart_holds (fun _ h => by cases h) (by kernel_rfl) (fun _ h => by cases h) kindApart_row_tie rfl ⟨rfl, rfl⟩ (by kernel_rfl) rfl kindApart_plain (by kernel_rfl)
#print axioms kindApart_card
end Go.Proofs.YtdkmlhchfclpeaaDoor
