/-
  RngApartSaid is proved: for every number of 64 bits and every six integers the statement RngApart returns true, without any condition.
-/
import Derived.Test.YtcefiejbfnakeaaFrame
namespace Go.Proofs.Ytcefiejbfnakeaa
open Go.ChangeShapes Go.WideShapes Go.ChangeAt Go.RowKit

theorem xor_cancel {a b c : Nat} (h : a ^^^ c = b ^^^ c) : a = b := by
  have e : a ^^^ c ^^^ c = b ^^^ c ^^^ c := by rw [h]
  rwa [Nat.xor_assoc, Nat.xor_assoc, Nat.xor_self, Nat.xor_zero, Nat.xor_zero] at e
theorem add_cancel {a b c : Nat} (ha : a < 18446744073709551616) (hb : b < 18446744073709551616) (h : (a + c) % 18446744073709551616 = (b + c) % 18446744073709551616) : a = b := by omega
theorem link_left {h h' : Nat} {n : Int} (hh : h < 18446744073709551616) (hh' : h' < 18446744073709551616) (e : link h n = link h' n) : h = h' :=
  xor_cancel (add_cancel (xor_lt hh (asN_lt n)) (xor_lt hh' (asN_lt n)) (mixN_inj (Nat.mod_lt _ (by decide)) (Nat.mod_lt _ (by decide)) (by rwa [link_eq, link_eq] at e)))
theorem asN_inj {n m : Int} (hn : -9223372036854775808 ≤ n ∧ n ≤ 9223372036854775807) (hm : -9223372036854775808 ≤ m ∧ m ≤ 9223372036854775807) (e : asN n = asN m) : n = m := by
  have e1 := asN_eq n
  have e2 := asN_eq m
  rw [e] at e1
  omega
theorem link_right {h : Nat} {n m : Int} (hh : h < 18446744073709551616) (hn : -9223372036854775808 ≤ n ∧ n ≤ 9223372036854775807) (hm : -9223372036854775808 ≤ m ∧ m ≤ 9223372036854775807) (e : link h n = link h m) : n = m := by
  have e1 : h ^^^ asN n = h ^^^ asN m := add_cancel (xor_lt hh (asN_lt n)) (xor_lt hh (asN_lt m)) (mixN_inj (Nat.mod_lt _ (by decide)) (Nat.mod_lt _ (by decide)) (by rwa [link_eq, link_eq] at e))
  rw [Nat.xor_comm h, Nat.xor_comm h] at e1
  exact asN_inj hn hm (xor_cancel e1)
theorem hash_4 {S : Nat} {a b c d o : Int} (hd : -9223372036854775808 ≤ d ∧ d ≤ 9223372036854775807) (ho : -9223372036854775808 ≤ o ∧ o ≤ 9223372036854775807) (e : hashN S a b c d = hashN S a b c o) : d = o := by
  unfold hashN at e
  exact link_right (link_lt _ _) hd ho e
theorem hash_3 {S : Nat} {a b c d o : Int} (hc : -9223372036854775808 ≤ c ∧ c ≤ 9223372036854775807) (ho : -9223372036854775808 ≤ o ∧ o ≤ 9223372036854775807) (e : hashN S a b c d = hashN S a b o d) : c = o := by
  unfold hashN at e
  exact link_right (link_lt _ _) hc ho (link_left (link_lt _ _) (link_lt _ _) e)
theorem hash_2 {S : Nat} {a b c d o : Int} (hb : -9223372036854775808 ≤ b ∧ b ≤ 9223372036854775807) (ho : -9223372036854775808 ≤ o ∧ o ≤ 9223372036854775807) (e : hashN S a b c d = hashN S a o c d) : b = o := by
  unfold hashN at e
  exact link_right (link_lt _ _) hb ho (link_left (link_lt _ _) (link_lt _ _) (link_left (link_lt _ _) (link_lt _ _) e))
theorem hash_1 {S : Nat} {a b c d o : Int} (ha : -9223372036854775808 ≤ a ∧ a ≤ 9223372036854775807) (ho : -9223372036854775808 ≤ o ∧ o ≤ 9223372036854775807) (e : hashN S a b c d = hashN S o b c d) : a = o := by
  unfold hashN at e
  exact link_right (mixN_lt _) ha ho (link_left (link_lt _ _) (link_lt _ _) (link_left (link_lt _ _) (link_lt _ _) (link_left (link_lt _ _) (link_lt _ _) e)))
theorem hash_0 {S T : Nat} {a b c d : Int} (hS : S < 18446744073709551616) (hT : T < 18446744073709551616) (e : hashN S a b c d = hashN T a b c d) : S = T := by
  unfold hashN at e
  exact mixN_inj hS hT (link_left (mixN_lt _) (mixN_lt _) (link_left (link_lt _ _) (link_lt _ _) (link_left (link_lt _ _) (link_lt _ _) (link_left (link_lt _ _) (link_lt _ _) e))))
theorem eqb_false {a b : Int} (h : a ≠ b) : (a == b) = false := by simpa using h

set_option maxHeartbeats 1000000 in
theorem apart_0 (S : Nat) (a b c d o : Int) (w : World) (hS : S < 18446744073709551616) :
    Calls Try.prog 8 #[.int .u64 S, .int .i64 a, .int .i64 b, .int .i64 c, .int .i64 d, .int .i64 0, .int .i64 o] w fun e w' => e = .returned (.bool true) ∧ Below w.heap.size w w' := by
  obtain ⟨A, eA⟩ : ∃ A, A = hashN S a b c d := ⟨_, rfl⟩
  have HA : Hid (A = hashN S a b c d) := eA
  obtain ⟨B, eB⟩ : ∃ B, B = hashN (asN o) a b c d := ⟨_, rfl⟩
  have HB : Hid (B = hashN (asN o) a b c d) := eB
  have e1 := go_asN o
  by_cases h : S = asN o
  · have hAB : B = A := by rw [eA, eB, h]
    subst hAB
    have h1 : ((asN o : Int) == (S : Int)) = true := by rw [h]; simp
    clear eA eB h
    go_enter Try.func8, Try.ntmps8
    go_wp2_with fail
    refine (awake_any _).mono ?_
    rintro e w1 ⟨rfl, hb⟩
    go_wp2_with fail
    refine (hash_any S a b c d _ hS).mono ?_
    rw [← HA.out]
    rintro e w' ⟨rfl, hw⟩
    subst w'
    go_wp2_with fail
    refine (hash_any (asN o) a b c d _ (asN_lt o)).mono ?_
    rw [← HB.out]
    rintro e w' ⟨rfl, hw⟩
    subst w'
    go_wp2
    go_ret
    exact ⟨rfl, hb⟩
  · have h2 : ((A : Int) == (B : Int)) = false := eqb_false (fun e => h (hash_0 hS (asN_lt o) (by rw [← eA, ← eB]; omega)))
    have h1 : ((asN o : Int) == (S : Int)) = false := eqb_false (fun e => h (by omega))
    clear eA eB h
    go_enter Try.func8, Try.ntmps8
    go_wp2_with fail
    refine (awake_any _).mono ?_
    rintro e w1 ⟨rfl, hb⟩
    go_wp2_with fail
    refine (hash_any S a b c d _ hS).mono ?_
    rw [← HA.out]
    rintro e w' ⟨rfl, hw⟩
    subst w'
    go_wp2_with fail
    refine (hash_any (asN o) a b c d _ (asN_lt o)).mono ?_
    rw [← HB.out]
    rintro e w' ⟨rfl, hw⟩
    subst w'
    go_wp2
    go_ret
    exact ⟨rfl, hb⟩
set_option maxHeartbeats 1000000 in
theorem apart_1 (S : Nat) (a b c d o : Int) (w : World) (hS : S < 18446744073709551616) (hv : -9223372036854775808 ≤ a ∧ a ≤ 9223372036854775807) (ho : -9223372036854775808 ≤ o ∧ o ≤ 9223372036854775807) :
    Calls Try.prog 8 #[.int .u64 S, .int .i64 a, .int .i64 b, .int .i64 c, .int .i64 d, .int .i64 1, .int .i64 o] w fun e w' => e = .returned (.bool true) ∧ Below w.heap.size w w' := by
  obtain ⟨A, eA⟩ : ∃ A, A = hashN S a b c d := ⟨_, rfl⟩
  have HA : Hid (A = hashN S a b c d) := eA
  obtain ⟨B, eB⟩ : ∃ B, B = hashN S o b c d := ⟨_, rfl⟩
  have HB : Hid (B = hashN S o b c d) := eB
  have HO : Hid (-9223372036854775808 ≤ o ∧ o ≤ 9223372036854775807) := ho
  clear ho
  by_cases h : a = o
  · subst h
    have hAB : B = A := by rw [eA, eB]
    subst hAB
    clear eA eB
    go_enter Try.func8, Try.ntmps8
    go_wp2_with fail
    refine (awake_any _).mono ?_
    rintro e w1 ⟨rfl, hb⟩
    go_wp2_with fail
    refine (hash_any S a b c d _ hS).mono ?_
    rw [← HA.out]
    rintro e w' ⟨rfl, hw⟩
    subst w'
    go_wp2_with fail
    refine (hash_any S a b c d _ hS).mono ?_
    rw [← HA.out]
    rintro e w' ⟨rfl, hw⟩
    subst w'
    go_wp2
    go_ret
    exact ⟨rfl, hb⟩
  · have h2 : ((A : Int) == (B : Int)) = false := eqb_false (fun e => h (hash_1 hv HO.out (by rw [← eA, ← eB]; omega)))
    have h1 : (o == a) = false := eqb_false (fun e => h e.symm)
    clear eA eB h
    go_enter Try.func8, Try.ntmps8
    go_wp2_with fail
    refine (awake_any _).mono ?_
    rintro e w1 ⟨rfl, hb⟩
    go_wp2_with fail
    refine (hash_any S a b c d _ hS).mono ?_
    rw [← HA.out]
    rintro e w' ⟨rfl, hw⟩
    subst w'
    go_wp2_with fail
    refine (hash_any S o b c d _ hS).mono ?_
    rw [← HB.out]
    rintro e w' ⟨rfl, hw⟩
    subst w'
    go_wp2
    go_ret
    exact ⟨rfl, hb⟩
set_option maxHeartbeats 1000000 in
theorem apart_2 (S : Nat) (a b c d o : Int) (w : World) (hS : S < 18446744073709551616) (hv : -9223372036854775808 ≤ b ∧ b ≤ 9223372036854775807) (ho : -9223372036854775808 ≤ o ∧ o ≤ 9223372036854775807) :
    Calls Try.prog 8 #[.int .u64 S, .int .i64 a, .int .i64 b, .int .i64 c, .int .i64 d, .int .i64 2, .int .i64 o] w fun e w' => e = .returned (.bool true) ∧ Below w.heap.size w w' := by
  obtain ⟨A, eA⟩ : ∃ A, A = hashN S a b c d := ⟨_, rfl⟩
  have HA : Hid (A = hashN S a b c d) := eA
  obtain ⟨B, eB⟩ : ∃ B, B = hashN S a o c d := ⟨_, rfl⟩
  have HB : Hid (B = hashN S a o c d) := eB
  have HO : Hid (-9223372036854775808 ≤ o ∧ o ≤ 9223372036854775807) := ho
  clear ho
  by_cases h : b = o
  · subst h
    have hAB : B = A := by rw [eA, eB]
    subst hAB
    clear eA eB
    go_enter Try.func8, Try.ntmps8
    go_wp2_with fail
    refine (awake_any _).mono ?_
    rintro e w1 ⟨rfl, hb⟩
    go_wp2_with fail
    refine (hash_any S a b c d _ hS).mono ?_
    rw [← HA.out]
    rintro e w' ⟨rfl, hw⟩
    subst w'
    go_wp2_with fail
    refine (hash_any S a b c d _ hS).mono ?_
    rw [← HA.out]
    rintro e w' ⟨rfl, hw⟩
    subst w'
    go_wp2
    go_ret
    exact ⟨rfl, hb⟩
  · have h2 : ((A : Int) == (B : Int)) = false := eqb_false (fun e => h (hash_2 hv HO.out (by rw [← eA, ← eB]; omega)))
    have h1 : (o == b) = false := eqb_false (fun e => h e.symm)
    clear eA eB h
    go_enter Try.func8, Try.ntmps8
    go_wp2_with fail
    refine (awake_any _).mono ?_
    rintro e w1 ⟨rfl, hb⟩
    go_wp2_with fail
    refine (hash_any S a b c d _ hS).mono ?_
    rw [← HA.out]
    rintro e w' ⟨rfl, hw⟩
    subst w'
    go_wp2_with fail
    refine (hash_any S a o c d _ hS).mono ?_
    rw [← HB.out]
    rintro e w' ⟨rfl, hw⟩
    subst w'
    go_wp2
    go_ret
    exact ⟨rfl, hb⟩
set_option maxHeartbeats 1000000 in
theorem apart_3 (S : Nat) (a b c d o : Int) (w : World) (hS : S < 18446744073709551616) (hv : -9223372036854775808 ≤ c ∧ c ≤ 9223372036854775807) (ho : -9223372036854775808 ≤ o ∧ o ≤ 9223372036854775807) :
    Calls Try.prog 8 #[.int .u64 S, .int .i64 a, .int .i64 b, .int .i64 c, .int .i64 d, .int .i64 3, .int .i64 o] w fun e w' => e = .returned (.bool true) ∧ Below w.heap.size w w' := by
  obtain ⟨A, eA⟩ : ∃ A, A = hashN S a b c d := ⟨_, rfl⟩
  have HA : Hid (A = hashN S a b c d) := eA
  obtain ⟨B, eB⟩ : ∃ B, B = hashN S a b o d := ⟨_, rfl⟩
  have HB : Hid (B = hashN S a b o d) := eB
  have HO : Hid (-9223372036854775808 ≤ o ∧ o ≤ 9223372036854775807) := ho
  clear ho
  by_cases h : c = o
  · subst h
    have hAB : B = A := by rw [eA, eB]
    subst hAB
    clear eA eB
    go_enter Try.func8, Try.ntmps8
    go_wp2_with fail
    refine (awake_any _).mono ?_
    rintro e w1 ⟨rfl, hb⟩
    go_wp2_with fail
    refine (hash_any S a b c d _ hS).mono ?_
    rw [← HA.out]
    rintro e w' ⟨rfl, hw⟩
    subst w'
    go_wp2_with fail
    refine (hash_any S a b c d _ hS).mono ?_
    rw [← HA.out]
    rintro e w' ⟨rfl, hw⟩
    subst w'
    go_wp2
    go_ret
    exact ⟨rfl, hb⟩
  · have h2 : ((A : Int) == (B : Int)) = false := eqb_false (fun e => h (hash_3 hv HO.out (by rw [← eA, ← eB]; omega)))
    have h1 : (o == c) = false := eqb_false (fun e => h e.symm)
    clear eA eB h
    go_enter Try.func8, Try.ntmps8
    go_wp2_with fail
    refine (awake_any _).mono ?_
    rintro e w1 ⟨rfl, hb⟩
    go_wp2_with fail
    refine (hash_any S a b c d _ hS).mono ?_
    rw [← HA.out]
    rintro e w' ⟨rfl, hw⟩
    subst w'
    go_wp2_with fail
    refine (hash_any S a b o d _ hS).mono ?_
    rw [← HB.out]
    rintro e w' ⟨rfl, hw⟩
    subst w'
    go_wp2
    go_ret
    exact ⟨rfl, hb⟩
set_option maxHeartbeats 1000000 in
theorem apart_4 (S : Nat) (a b c d o : Int) (w : World) (hS : S < 18446744073709551616) (hv : -9223372036854775808 ≤ d ∧ d ≤ 9223372036854775807) (ho : -9223372036854775808 ≤ o ∧ o ≤ 9223372036854775807) :
    Calls Try.prog 8 #[.int .u64 S, .int .i64 a, .int .i64 b, .int .i64 c, .int .i64 d, .int .i64 4, .int .i64 o] w fun e w' => e = .returned (.bool true) ∧ Below w.heap.size w w' := by
  obtain ⟨A, eA⟩ : ∃ A, A = hashN S a b c d := ⟨_, rfl⟩
  have HA : Hid (A = hashN S a b c d) := eA
  obtain ⟨B, eB⟩ : ∃ B, B = hashN S a b c o := ⟨_, rfl⟩
  have HB : Hid (B = hashN S a b c o) := eB
  have HO : Hid (-9223372036854775808 ≤ o ∧ o ≤ 9223372036854775807) := ho
  clear ho
  by_cases h : d = o
  · subst h
    have hAB : B = A := by rw [eA, eB]
    subst hAB
    clear eA eB
    go_enter Try.func8, Try.ntmps8
    go_wp2_with fail
    refine (awake_any _).mono ?_
    rintro e w1 ⟨rfl, hb⟩
    go_wp2_with fail
    refine (hash_any S a b c d _ hS).mono ?_
    rw [← HA.out]
    rintro e w' ⟨rfl, hw⟩
    subst w'
    go_wp2_with fail
    refine (hash_any S a b c d _ hS).mono ?_
    rw [← HA.out]
    rintro e w' ⟨rfl, hw⟩
    subst w'
    go_wp2
    go_ret
    exact ⟨rfl, hb⟩
  · have h2 : ((A : Int) == (B : Int)) = false := eqb_false (fun e => h (hash_4 hv HO.out (by rw [← eA, ← eB]; omega)))
    have h1 : (o == d) = false := eqb_false (fun e => h e.symm)
    clear eA eB h
    go_enter Try.func8, Try.ntmps8
    go_wp2_with fail
    refine (awake_any _).mono ?_
    rintro e w1 ⟨rfl, hb⟩
    go_wp2_with fail
    refine (hash_any S a b c d _ hS).mono ?_
    rw [← HA.out]
    rintro e w' ⟨rfl, hw⟩
    subst w'
    go_wp2_with fail
    refine (hash_any S a b c o _ hS).mono ?_
    rw [← HB.out]
    rintro e w' ⟨rfl, hw⟩
    subst w'
    go_wp2
    go_ret
    exact ⟨rfl, hb⟩
set_option maxHeartbeats 1000000 in
theorem apart_out (S : Nat) (a b c d n o : Int) (w : World) (hS : S < 18446744073709551616) (h0 : ¬ n = 0) (h1 : ¬ n = 1) (h2 : ¬ n = 2) (h3 : ¬ n = 3) (h4 : ¬ n = 4) :
    Calls Try.prog 8 #[.int .u64 S, .int .i64 a, .int .i64 b, .int .i64 c, .int .i64 d, .int .i64 n, .int .i64 o] w fun e w' => e = .returned (.bool true) ∧ Below w.heap.size w w' := by
  obtain ⟨A, eA⟩ : ∃ A, A = hashN S a b c d := ⟨_, rfl⟩
  have HA : Hid (A = hashN S a b c d) := eA
  clear eA
  go_enter Try.func8, Try.ntmps8
  go_wp2_with fail
  refine (awake_any _).mono ?_
  rintro e w1 ⟨rfl, hb⟩
  go_wp2_with fail
  refine (hash_any S a b c d _ hS).mono ?_
  rw [← HA.out]
  rintro e w' ⟨rfl, hw⟩
  subst w'
  go_wp2
  go_ret
  exact ⟨rfl, hb⟩
theorem rngApart_walk (x a b c d n o : Int) (w : World) (hx : 0 ≤ x ∧ x ≤ 18446744073709551615) (ha : -9223372036854775808 ≤ a ∧ a ≤ 9223372036854775807) (hb : -9223372036854775808 ≤ b ∧ b ≤ 9223372036854775807) (hc : -9223372036854775808 ≤ c ∧ c ≤ 9223372036854775807) (hd : -9223372036854775808 ≤ d ∧ d ≤ 9223372036854775807) (ho : -9223372036854775808 ≤ o ∧ o ≤ 9223372036854775807) :
    Calls Try.prog 8 #[.int .u64 x, .int .i64 a, .int .i64 b, .int .i64 c, .int .i64 d, .int .i64 n, .int .i64 o] w fun e w' => e = .returned (.bool true) ∧ Below w.heap.size w w' := by
  obtain ⟨S, rfl⟩ := Int.eq_ofNat_of_zero_le hx.1
  have hS : S < 18446744073709551616 := by omega
  by_cases h0 : n = 0
  · subst h0; exact apart_0 S a b c d o w hS
  by_cases h1 : n = 1
  · subst h1; exact apart_1 S a b c d o w hS ha ho
  by_cases h2 : n = 2
  · subst h2; exact apart_2 S a b c d o w hS hb ho
  by_cases h3 : n = 3
  · subst h3; exact apart_3 S a b c d o w hS hc ho
  by_cases h4 : n = 4
  · subst h4; exact apart_4 S a b c d o w hS hd ho
  exact apart_out S a b c d n o w hS h0 h1 h2 h3 h4

set_option maxRecDepth 100000 in
theorem rngApart_lifted (os : Os) (started : os.Started) (H : Type) (enc : TypeId × Value → H) :
    ReturnsInHanded {} Try.checked os 8 .any (Rows.rngApartSpec.pre6 enc Try.prog Try.f8 Rows.rngApartRow.domain false) (Rows.rngApartSpec.post enc Try.prog Try.f8 false true false false) := by
  refine returnsInHanded_of_change (C := Try.checked) own started (by kernel_rfl) Try.func8
    (ChangeSpec.witness6 (enc := enc) (C := Try.checked) false ⟨#[], #[.int .u64 0, .int .i64 0, .int .i64 0, .int .i64 0, .int .i64 0, .int .i64 0, .int .i64 0], []⟩ 8 (by kernel_rfl) (by kernel_rfl) (by kernel_rfl) (by kernel_rfl)) ?_
  intro W base args ds gs before hval0 hW _ _
  have hval : ∀ (j : Nat) t v, Try.f8.params[j]? = some t → args[j]? = some v → Value.okWide Try.prog W .any base t v := hval0
  have hW' := hW
  obtain ⟨p, q, hA0, hV, rfl, hfz, hnd⟩ := hW
  have hA : DataW.TrodAll enc Try.prog W 0 (fun _ => true) true Try.f8.params.toList args.toList ds p := hA0
  rw [Try.params8] at hA hval
  obtain ⟨v0, vs0, d0, ds0, p0, q0, hargs, rfl, rfl, h0, r0⟩ := trodAll_cons hA
  obtain ⟨v1, vs1, d1, ds1, p1, q1, rfl, rfl, rfl, h1, r1⟩ := trodAll_cons r0
  obtain ⟨v2, vs2, d2, ds2, p2, q2, rfl, rfl, rfl, h2, r2⟩ := trodAll_cons r1
  obtain ⟨v3, vs3, d3, ds3, p3, q3, rfl, rfl, rfl, h3, r3⟩ := trodAll_cons r2
  obtain ⟨v4, vs4, d4, ds4, p4, q4, rfl, rfl, rfl, h4, r4⟩ := trodAll_cons r3
  obtain ⟨v5, vs5, d5, ds5, p5, q5, rfl, rfl, rfl, h5, r5⟩ := trodAll_cons r4
  obtain ⟨v6, vs6, d6, ds6, p6, q6, rfl, rfl, rfl, h6, r6⟩ := trodAll_cons r5
  obtain ⟨rfl, rfl, rfl⟩ := trodAll_nil r6
  obtain rfl : args = #[v0, v1, v2, v3, v4, v5, v6] := by cases args; simp_all
  obtain ⟨rfl, rfl⟩ := trodVars_none hV
  obtain ⟨a0, rfl, rfl, rfl, w0⟩ := open_int Try.underlying22 (hval 0 22 v0 rfl rfl) h0
  obtain ⟨a1, rfl, rfl, rfl, w1⟩ := open_int Try.underlying3 (hval 1 3 v1 rfl rfl) h1
  obtain ⟨a2, rfl, rfl, rfl, w2⟩ := open_int Try.underlying3 (hval 2 3 v2 rfl rfl) h2
  obtain ⟨a3, rfl, rfl, rfl, w3⟩ := open_int Try.underlying3 (hval 3 3 v3 rfl rfl) h3
  obtain ⟨a4, rfl, rfl, rfl, w4⟩ := open_int Try.underlying3 (hval 4 3 v4 rfl rfl) h4
  obtain ⟨a5, rfl, rfl, rfl, w5⟩ := open_int Try.underlying3 (hval 5 3 v5 rfl rfl) h5
  obtain ⟨a6, rfl, rfl, rfl, w6⟩ := open_int Try.underlying3 (hval 6 3 v6 rfl rfl) h6
  clear hA0 hval0
  refine (rngApart_walk a0 a1 a2 a3 a4 a5 a6 W (bdu64 w0) (bd64 w1) (bd64 w2) (bd64 w3) (bd64 w4) (bd64 w6)).mono fun e W' ⟨he, bel⟩ => ?_
  subst he
  exact ⟨_, rfl, _, _, _, [], _, [], hW', trodAll_mk1 (shut_bool Try.underlying4 _), (trodAll_cons_mk (shut_int Try.underlying22 w0) (trodAll_cons_mk (shut_int Try.underlying3 w1) (trodAll_cons_mk (shut_int Try.underlying3 w2) (trodAll_cons_mk (shut_int Try.underlying3 w3) (trodAll_cons_mk (shut_int Try.underlying3 w4) (trodAll_cons_mk (shut_int Try.underlying3 w5) (trodAll_cons_mk (shut_int Try.underlying3 w6) trodAll_mk0))))))), rfl, bel.frame _, fun h => by cases h⟩

theorem rngApart_holds : Rows.RngApartSaid :=
  OpenClaim.holds_of_wide 8 Try.f8 rfl rfl rfl rfl rfl rfl rfl ⟨rfl, rfl, rfl, rfl, rfl⟩ rfl rfl rfl rfl rfl (by kernel_rfl) Try.func8 (by kernel_rfl)
    (of_decide_eq_true (by kernel_rfl)) (by unfold Func.isWrapper; rw [if_neg (of_decide_eq_false (by kernel_rfl))]; exact ⟨rfl, rfl⟩)
    (fun os started H enc _ => rngApart_lifted os started H enc)
#print axioms rngApart_holds
end Go.Proofs.Ytcefiejbfnakeaa
