/-
  Any text, as a kind's name, of the program and of the document: the same; a kind's name is that kind's.
-/
import Derived.Test.YtdkmlhchfclpeaaDoorFrame
import Derived.Test.YtdkmlhchfclpeaaDoorAwake
namespace Go.Proofs.YtdkmlhchfclpeaaDoor
open Go.ChangeShapes Go.WideShapes Go.ChangeAt Go.RowKit

/-- The first row that has the name, or 16. -/
theorem first_row (s : ByteArray) : ∃ M, M ≤ 16 ∧ (∀ j, j < M → nm j ≠ s) ∧ (M < 16 → nm M = s) := by
  have h : ∀ n, n ≤ 16 → (∀ j, j < n → nm j ≠ s) ∨ ∃ M, M < 16 ∧ (∀ j, j < M → nm j ≠ s) ∧ nm M = s := by
    intro n
    induction n with
    | zero => exact fun _ => Or.inl fun j hj => absurd hj (Nat.not_lt_zero j)
    | succ n ih =>
      intro hn
      rcases ih (by omega) with h | h
      · by_cases e : nm n = s
        · exact Or.inr ⟨n, by omega, h, e⟩
        · refine Or.inl fun j hj => ?_
          by_cases ej : j = n
          · subst ej; exact e
          · exact h j (by omega)
      · exact Or.inr h
  rcases h 16 (Nat.le_refl _) with h | ⟨M, h1, h2, h3⟩
  · exact ⟨16, Nat.le_refl _, h, fun e => absurd e (Nat.lt_irrefl _)⟩
  · exact ⟨M, by omega, h2, fun _ => h3⟩
theorem kind_of (s : ByteArray) (hs : s.size ≤ maxLen) (M : Nat) (hM : M ≤ 16) (hno : ∀ j, j < M → nm j ≠ s) (hyes : M < 16 → nm M = s) (w : World) (T : Tab w) :
    Calls Tryd.prog 10 #[.string s] w fun e w' => e = .returned (.tuple #[.int .i64 (if M < 16 then M else 0), .bool (decide (M < 16))]) ∧ Below w.heap.size w w' := by
  by_cases h : M < 16
  · rw [← hyes h, if_pos h, decide_eq_true h]
    exact of_yes h w T
  · obtain rfl : M = 16 := by omega
    exact of_no hs hno w T
theorem no_name (K : Nat) (hK : K < 16) : nm K ≠ ⟨#[]⟩ := by
  intro h
  have H : ∀ k : Fin 16, nmL.getD k.1 [] ≠ [] := of_decide_eq_true (by kernel_rfl)
  exact H ⟨K, hK⟩ (by simpa [nm] using congrArg (fun b : ByteArray => b.data.toList) h)
set_option maxRecDepth 100000 in
theorem kindBack_neg (s : ByteArray) (k : Int) (h0 : k < 0) (A : Int) (V : Bool) (hk : ∀ w, Tab w → Calls Tryd.prog 10 #[.string s] w fun e w' => e = .returned (.tuple #[.int .i64 A, .bool V]) ∧ Below w.heap.size w w')
    (hr : ∀ w, Calls Tryd.prog 11 #[.string s] w fun e w' => e = .returned (.tuple #[.int .i64 A, .bool V]) ∧ Below w.heap.size w w') (w : World) (T : Tab w) : Calls Tryd.prog 4 #[.string s, .int .i64 k] w fun e w' => e = .returned (.bool true) ∧ Below w.heap.size w w' := by
  go_enter Tryd.func4, Tryd.ntmps4
  go_wp2_with fail
  refine (awake_c w T).mono ?_
  rintro _ w1 ⟨rfl, b1⟩
  have T1 := T.on b1
  clear T
  go_wp2_with fail
  refine (hk w1 T1).mono ?_
  rintro _ w2 ⟨rfl, b2⟩
  have T2 := T1.on b2
  have B2 := b1.trans (b2.mono b1.size)
  clear T1 b2
  go_wp2_with fail
  refine (hr w2).mono ?_
  rintro _ w3 ⟨rfl, b3⟩
  have T3 := T2.on b3
  have B3 := B2.trans (b3.mono B2.size)
  clear T2 b3
  go_wp2_with fail
  refine (kind_nm _ w3 T3 16 (rowOf_neg h0)).mono ?_
  rintro _ w4 ⟨rfl, b4⟩
  have T4 := T3.on b4
  have B4 := B3.trans (b4.mono B3.size)
  clear T3 b4
  go_wp2_with fail
  refine (of_no (by decide) no_name w4 T4).mono ?_
  rintro _ w5 ⟨rfl, b5⟩
  have T5 := T4.on b5
  have B5 := B4.trans (b5.mono B4.size)
  clear T4 b5
  go_wp2
  go_ret
  exact ⟨rfl, B5⟩
set_option maxRecDepth 100000 in
theorem kindBack_big (s : ByteArray) (k : Int) (h0 : ¬ k < 0) (h1 : 15 < k) (A : Int) (V : Bool) (hk : ∀ w, Tab w → Calls Tryd.prog 10 #[.string s] w fun e w' => e = .returned (.tuple #[.int .i64 A, .bool V]) ∧ Below w.heap.size w w')
    (hr : ∀ w, Calls Tryd.prog 11 #[.string s] w fun e w' => e = .returned (.tuple #[.int .i64 A, .bool V]) ∧ Below w.heap.size w w') (w : World) (T : Tab w) : Calls Tryd.prog 4 #[.string s, .int .i64 k] w fun e w' => e = .returned (.bool true) ∧ Below w.heap.size w w' := by
  go_enter Tryd.func4, Tryd.ntmps4
  go_wp2_with fail
  refine (awake_c w T).mono ?_
  rintro _ w1 ⟨rfl, b1⟩
  have T1 := T.on b1
  clear T
  go_wp2_with fail
  refine (hk w1 T1).mono ?_
  rintro _ w2 ⟨rfl, b2⟩
  have T2 := T1.on b2
  have B2 := b1.trans (b2.mono b1.size)
  clear T1 b2
  go_wp2_with fail
  refine (hr w2).mono ?_
  rintro _ w3 ⟨rfl, b3⟩
  have T3 := T2.on b3
  have B3 := B2.trans (b3.mono B2.size)
  clear T2 b3
  go_wp2_with fail
  refine (kind_nm _ w3 T3 16 (rowOf_big (by omega))).mono ?_
  rintro _ w4 ⟨rfl, b4⟩
  have T4 := T3.on b4
  have B4 := B3.trans (b4.mono B3.size)
  clear T3 b4
  go_wp2_with fail
  refine (of_no (by decide) no_name w4 T4).mono ?_
  rintro _ w5 ⟨rfl, b5⟩
  have T5 := T4.on b5
  have B5 := B4.trans (b5.mono B4.size)
  clear T4 b5
  go_wp2
  go_ret
  exact ⟨rfl, B5⟩
set_option maxRecDepth 100000 in
theorem kindBack_in (s : ByteArray) (k : Int) (K : Nat) (hK : K < 16) (e : k = K) (h0 : ¬ k < 0) (h1 : ¬ 15 < k) (A : Int) (V : Bool) (hk : ∀ w, Tab w → Calls Tryd.prog 10 #[.string s] w fun e w' => e = .returned (.tuple #[.int .i64 A, .bool V]) ∧ Below w.heap.size w w')
    (hr : ∀ w, Calls Tryd.prog 11 #[.string s] w fun e w' => e = .returned (.tuple #[.int .i64 A, .bool V]) ∧ Below w.heap.size w w') (w : World) (T : Tab w) : Calls Tryd.prog 4 #[.string s, .int .i64 k] w fun e w' => e = .returned (.bool true) ∧ Below w.heap.size w w' := by
  subst e
  go_enter Tryd.func4, Tryd.ntmps4
  go_wp2_with fail
  refine (awake_c w T).mono ?_
  rintro _ w1 ⟨rfl, b1⟩
  have T1 := T.on b1
  clear T
  go_wp2_with fail
  refine (hk w1 T1).mono ?_
  rintro _ w2 ⟨rfl, b2⟩
  have T2 := T1.on b2
  have B2 := b1.trans (b2.mono b1.size)
  clear T1 b2
  go_wp2_with fail
  refine (hr w2).mono ?_
  rintro _ w3 ⟨rfl, b3⟩
  have T3 := T2.on b3
  have B3 := B2.trans (b3.mono B2.size)
  clear T2 b3
  go_wp2_with fail
  refine (kind_nm _ w3 T3 K (rowOf_nat hK)).mono ?_
  rintro _ w4 ⟨rfl, b4⟩
  have T4 := T3.on b4
  have B4 := B3.trans (b4.mono B3.size)
  clear T3 b4
  go_wp2_with fail
  refine (of_yes hK w4 T4).mono ?_
  rintro _ w5 ⟨rfl, b5⟩
  have T5 := T4.on b5
  have B5 := B4.trans (b5.mono B4.size)
  clear T4 b5
  go_wp2
  go_ret
  exact ⟨rfl, B5⟩
theorem kindBack_walk (s : ByteArray) (hs : s.size ≤ maxLen) (k : Int) (w : World) (T : Tab w) : Calls Tryd.prog 4 #[.string s, .int .i64 k] w fun e w' => e = .returned (.bool true) ∧ Below w.heap.size w w' := by
  obtain ⟨M, hM, hno, hyes⟩ := first_row s
  have hk := kind_of s hs M hM hno hyes
  have hr := ref_of s M hM hno hyes
  by_cases h0 : k < 0
  · exact kindBack_neg s k h0 _ _ hk hr w T
  · by_cases h1 : 15 < k
    · exact kindBack_big s k h0 h1 _ _ hk hr w T
    · obtain ⟨K, e⟩ := Int.eq_ofNat_of_zero_le (show 0 ≤ k by omega)
      exact kindBack_in s k K (by omega) e h0 h1 _ _ hk hr w T

set_option maxRecDepth 100000 in
theorem kindBack_lifted (os : Os) (started : os.Started) (H : Type) (enc : TypeId × Value → H) :
    ReturnsInHanded {} Tryd.checked os 4 .any (fun w args => (Rows.kindBackSpec.pre enc Tryd.prog Tryd.f4 [] false w args ∧ laidMetH Tryd.prog [("outcrop/kind.rows", Rows.laid_outcrop_kind_rows)] w) ∧ sizedMet enc Tryd.prog Tryd.f4 (OpenSpec.ofChange Rows.kindBackSpec) false w args)
      (Rows.kindBackSpec.post enc Tryd.prog Tryd.f4 false true false false) := by
  refine returnsInHanded_of_change_and (C := Tryd.checked) (X := fun w _ => laidMetH Tryd.prog [("outcrop/kind.rows", Rows.laid_outcrop_kind_rows)] w) (fun _ _ _ hh h => h.of_heap hh) own started (by kernel_rfl) Tryd.func4
    (ChangeSpec.witness_shaped (enc := enc) (C := Tryd.checked) (os := os) (X := fun w _ => laidMetH Tryd.prog [("outcrop/kind.rows", Rows.laid_outcrop_kind_rows)] w) false (World.doorLaid Tryd.prog 30 os) #[.string ByteArray.empty, .int .i64 0] 8 rfl (World.shaped_of_RefB (by kernel_rfl) (by kernel_rfl)) (by kernel_rfl) (by kernel_rfl) (by kernel_rfl) (door_met os _)) ?_
  intro W base args ds gs before hval0 hW _ _ hL _
  have hval : ∀ (j : Nat) t v, Tryd.f4.params[j]? = some t → args[j]? = some v → Value.okWide Tryd.prog W .any base t v := hval0
  have hW' := hW
  obtain ⟨p, q, hA0, hV, rfl, hfz, hnd⟩ := hW
  have hA : DataW.TrodAll enc Tryd.prog W 0 (fun _ => true) true Tryd.f4.params.toList args.toList ds p := hA0
  rw [Tryd.params4] at hA hval
  obtain ⟨v0, vs0, d0, ds0, p0, q0, hargs, rfl, rfl, h0, r0⟩ := trodAll_cons hA
  obtain ⟨v1, vs1, d1, ds1, p1, q1, rfl, rfl, rfl, h1, r1⟩ := trodAll_cons r0
  obtain ⟨rfl, rfl, rfl⟩ := trodAll_nil r1
  obtain rfl : args = #[v0, v1] := by cases args; simp_all
  obtain ⟨rfl, rfl⟩ := trodVars_none hV
  obtain ⟨s, rfl, rfl, rfl, w0⟩ := ChangeMaps.open_string Tryd.underlying9 (hval 0 9 v0 rfl rfl) h0
  obtain ⟨k, rfl, rfl, rfl, w1⟩ := open_int Tryd.underlying3 (hval 1 3 v1 rfl rfl) h1
  have T := tab_of_laid hL
  clear hA0 hval0
  refine (kindBack_walk s w0 k W T).mono fun e W' ⟨he, bel⟩ => ?_
  subst he
  exact ⟨_, rfl, _, _, _, [], _, [], hW', trodAll_mk1 (shut_bool Tryd.underlying4 _), (trodAll_cons_mk (ChangeMaps.shut_string Tryd.underlying9 w0) (trodAll_cons_mk (shut_int Tryd.underlying3 w1) trodAll_mk0)), rfl, bel.frame _, fun h => by cases h⟩

theorem kindBack_holds : Rows.KindBackSaid :=
  OpenClaim.holds_of_wide 4 Tryd.f4 rfl rfl rfl rfl rfl rfl rfl ⟨rfl, rfl, rfl, rfl, rfl⟩ rfl rfl rfl rfl rfl (by kernel_rfl) Tryd.func4 (by kernel_rfl)
    (of_decide_eq_true (by kernel_rfl)) (by unfold Func.isWrapper; rw [if_neg (of_decide_eq_false (by kernel_rfl))]; exact ⟨rfl, rfl⟩)
    (fun os started H enc _ => kindBack_lifted os started H enc)
theorem kindBack_plain (f : FuncId) (fn : Func) (hf : Tryd.pinned.checked.prog.funcNamed "outcrop/outcroplaw05.KindBack" = some f) (hfn : Tryd.pinned.checked.prog.funcs[f]? = some fn) :
    false = Tryd.pinned.checked.prog.looks [] ∧ ∀ (j : Nat) t, fn.params[j]? = some t → Tryd.pinned.checked.prog.wantsStandIn t = false := by
  obtain rfl : f = 4 := Option.some.inj ((show Tryd.prog.funcNamed "outcrop/outcroplaw05.KindBack" = some 4 by kernel_rfl).symm.trans hf) |>.symm
  obtain rfl : fn = Tryd.f4 := (Option.some.inj (Tryd.func4.symm.trans hfn)).symm
  refine ⟨by kernel_rfl, fun j t ht => ?_⟩
  rw [Tryd.params4] at ht
  have : t = 9 ∨ t = 3 := by simpa using Array.mem_of_getElem? ht
  rcases this with rfl | rfl
  · exact (show Tryd.prog.wantsStandIn 9 = false by kernel_rfl)
  · exact (show Tryd.prog.wantsStandIn 3 = false by kernel_rfl)
/-- The card: the row's statement, its listed variable tied to the program's text. -/
theorem kindBack_card : Rows.KindBackCardSaid :=
  Claim7.holds_tied_plain_at .later [] _ _ _ _ kindBack_holds (fun _ h => by cases h) (by kernel_rfl) (fun _ h => by cases h) kindBack_row_tie rfl ⟨rfl, rfl⟩ (by kernel_rfl) rfl kindBack_plain (by kernel_rfl)
#print axioms kindBack_card
end Go.Proofs.YtdkmlhchfclpeaaDoor
