/-
  NumSumsSaid is proved: for every slice of bytes, every integer and every byte the statement NumSums returns true, without any condition.
-/
import Derived.Test.YtfdcpelbikebkaaFrame
import Derived.Test.YtfdcpelbikebkaaOwn
namespace Go.Proofs.Ytfdcpelbikebkaa
open Go.ChangeShapes Go.WideShapes Go.ChangeAt Go.RowKit

set_option maxHeartbeats 1000000 in
theorem numSums_out (a : Option Addr) (len cap : Nat) (xs : List Int) (i c : Int) (w : World) (hl : len ≤ 140737488355328) (hB : Bytes w a len xs) (h : i < 0 ∨ (len : Int) ≤ i) :
    Calls Try.prog 8 #[.slice a len cap, .int .i64 i, .int .u8 c] w fun e w' => e = .returned (.bool true) ∧ Below w.heap.size w w' := by
  have H : Hid (Bytes w a len xs) := hB
  clear hB
  rcases h with h | h
  · go_enter Try.func8, Try.ntmps8
    go_wp2_with (first | (go_at_call 20; go_must (refine (sum_any a len cap xs _ hl H.out).mono ?_); rintro e w2 ⟨rfl, hw⟩; subst w2) | (go_at_call 9; go_must (refine (awake_any _).mono ?_); rintro e w1 ⟨rfl, hb⟩; replace H : Hid (Bytes w1 a len xs) := H.out.later hb) | (go_at_call 21; go_must (refine (rsum_any a len cap xs _ hl H.out).mono ?_); rintro e w2 ⟨rfl, hw⟩; subst w2))
    go_ret
    exact ⟨rfl, hb⟩
  · have h' : ¬ i < 0 := by omega
    go_enter Try.func8, Try.ntmps8
    go_wp2_with (first | (go_at_call 20; go_must (refine (sum_any a len cap xs _ hl H.out).mono ?_); rintro e w2 ⟨rfl, hw⟩; subst w2) | (go_at_call 9; go_must (refine (awake_any _).mono ?_); rintro e w1 ⟨rfl, hb⟩; replace H : Hid (Bytes w1 a len xs) := H.out.later hb) | (go_at_call 21; go_must (refine (rsum_any a len cap xs _ hl H.out).mono ?_); rintro e w2 ⟨rfl, hw⟩; subst w2))
    go_ret
    exact ⟨rfl, hb⟩

set_option maxHeartbeats 1000000 in
theorem numSums_in (a : Option Addr) (len cap : Nat) (xs : List Int) (k : Nat) (c : Int) (w : World) (hl : len ≤ 140737488355328) (hB : Bytes w a len xs) (hnil : a = none → cap = 0) (hk : k < len) (hc : 0 ≤ c ∧ c ≤ 255) :
    Calls Try.prog 8 #[.slice a len cap, .int .i64 k, .int .u8 c] w fun e w' => e = .returned (.bool true) ∧ Below w.heap.size w w' := by
  have H : Hid (Bytes w a len xs) := hB
  have HN : Hid (a = none → cap = 0) := hnil
  obtain ⟨b, off, z, ha, hcell, z0, z1, hk', hz⟩ := hB.get k hk
  have HZ : Hid (z = xs[k]) := hz
  have hcell' : ∀ w1, Below w.heap.size w w1 → w1.cell? ⟨b, off + k, none⟩ = some (.int .u8 z) := fun w1 h => (h.cell (p := ⟨b, off + k, none⟩) (World.block_lt_of_cell? w _ hcell)).trans hcell
  have HC : Hid (∀ w1, Below w.heap.size w w1 → w1.cell? ⟨b, off + k, none⟩ = some (.int .u8 z)) := hcell'
  subst ha
  clear hB hnil hz hcell hcell'
  by_cases he : z = c
  · have he' : (z == c) = true := by simp [he]
    clear he
    go_enter Try.func8, Try.ntmps8
    go_wp2_with (first | (go_at_call 20; go_must (refine (sum_any _ len cap xs _ hl H.out).mono ?_); rintro e w2 ⟨rfl, hw⟩; subst w2) | (go_at_call 9; go_must (refine (awake_any _).mono ?_); rintro e w1 ⟨rfl, hb⟩; replace H : Hid (Bytes w1 _ len xs) := H.out.later hb; have hcw := HC.out w1 hb) | (go_at_call 21; go_must (refine (rsum_any _ len cap xs _ hl H.out).mono ?_); rintro e w2 ⟨rfl, hw⟩; subst w2))
    go_ret
    exact ⟨rfl, hb⟩
  · have he' : (z == c) = false := by simp [he]
    have HS : Hid (sumL (xs.set k c) ≠ sumL xs) := sumL_set xs k c hk' H.out.fit hc (by rw [← HZ.out]; exact he)
    clear he
    go_enter Try.func8, Try.ntmps8
    go_wp2_with (first | (go_at_call 20; refine (sum_any _ len cap xs _ hl H.out).mono ?_; rintro e w2 ⟨rfl, hw⟩; subst w2) | (go_at_call 20; refine (sum_any _ len c3 (xs.set k c) _ hl HX3.out).mono ?_; rintro e w2 ⟨rfl, hw⟩; subst w2) | (go_at_call 9; go_must (refine (awake_any _).mono ?_); rintro e w1 ⟨rfl, hb⟩; replace H : Hid (Bytes w1 _ len xs) := H.out.later hb; have hcw := HC.out w1 hb) | (go_at_call 21; go_must (refine (rsum_any _ len cap xs _ hl H.out).mono ?_); rintro e w2 ⟨rfl, hw⟩; subst w2) | (at_builtin; refine wpList_append_bytes rfl (.const (.slice none 0 0)) (.tmp 37) rfl w.heap.size none 0 0 [] rfl rfl (Own.nil _ _) _ len cap xs rfl H.out HN.out (by omega) w hb hb.size ?_; intro a3 c3 w3 HO3 hb3 hB3; replace HO3 : Hid (Own w3 w.heap.size a3 c3 xs) := HO3; obtain ⟨g3, rfl, gB, gc, gf⟩ := HO3.out.some (by omega); have hc3 : w3.cell? ⟨g3, k, none⟩ = some (.int .u8 z) := (by rw [gc k hk', HZ.out]); have hf3 := gf k; have HX3 : Hid (Bytes (w3.setCell ⟨g3, k, none⟩ (.int .u8 c)) (some ⟨g3, 0, none⟩) len (xs.set k c)) := (HO3.out.set k c).bytes (fit_set H.out.fit k c hc) len (by rw [List.length_set, H.out.n]); clear gc gf HO3 H))
    go_ret
    refine ⟨?_, hb3.setCell gB _⟩
    have hs : (sumL (xs.set k c) != sumL xs) = true := by simpa using HS.out
    exact ret_bool hs

theorem numSums_walk (a : Option Addr) (len cap : Nat) (xs : List Int) (i c : Int) (w : World) (hl : len ≤ 140737488355328) (hB : Bytes w a len xs) (hnil : a = none → cap = 0) (hc : 0 ≤ c ∧ c ≤ 255) :
    Calls Try.prog 8 #[.slice a len cap, .int .i64 i, .int .u8 c] w fun e w' => e = .returned (.bool true) ∧ Below w.heap.size w w' := by
  by_cases h : i < 0 ∨ (len : Int) ≤ i
  · exact numSums_out a len cap xs i c w hl hB h
  · obtain ⟨k, rfl⟩ : ∃ k : Nat, i = k := ⟨i.toNat, by omega⟩
    exact numSums_in a len cap xs k c w hl hB hnil (by omega) hc

set_option maxRecDepth 100000 in
theorem numSums_lifted (os : Os) (started : os.Started) (H : Type) (enc : TypeId × Value → H) :
    ReturnsInHanded {} Try.checked os 8 .any (Rows.numSumsSpec.pre6 enc Try.prog Try.f8 Rows.numSumsRow.domain false) (Rows.numSumsSpec.post enc Try.prog Try.f8 false true false false) := by
  refine returnsInHanded_of_change_sized (C := Try.checked) own started (by kernel_rfl) Try.func8
    (ChangeSpec.witness6 (enc := enc) (C := Try.checked) false ⟨#[], #[.slice none 0 0, .int .i64 0, .int .u8 0], []⟩ 8 (by kernel_rfl) (by kernel_rfl) (by kernel_rfl) (by kernel_rfl)) ?_
  intro W base args ds gs before hval0 hW _ hsz0 _
  have hval : ∀ (j : Nat) t v, Try.f8.params[j]? = some t → args[j]? = some v → Value.okWide Try.prog W .any base t v := hval0
  have hsz : (DataW.weightsEach Try.prog (Try.f8.params.toList ++ Rows.numSumsSpec.plain.varTypes Try.prog) (ds ++ gs)).all (· ≤ reachBytes) = true := hsz0
  have hW' := hW
  obtain ⟨p, q, hA0, hV, rfl, hfz, hnd⟩ := hW
  have hA : DataW.TrodAll enc Try.prog W 0 (fun _ => true) true Try.f8.params.toList args.toList ds p := hA0
  rw [Try.params8] at hA hval hsz
  obtain ⟨v0, vs0, d0, ds0, p0, q0, hargs, rfl, rfl, h0, r0⟩ := trodAll_cons hA
  obtain ⟨v1, vs1, d1, ds1, p1, q1, rfl, rfl, rfl, h1, r1⟩ := trodAll_cons r0
  obtain ⟨v2, vs2, d2, ds2, p2, q2, rfl, rfl, rfl, h2, r2⟩ := trodAll_cons r1
  obtain ⟨rfl, rfl, rfl⟩ := trodAll_nil r2
  obtain rfl : args = #[v0, v1, v2] := by cases args; simp_all
  obtain ⟨rfl, rfl⟩ := trodVars_none hV
  obtain ⟨a0, len0, cap0, rfl⟩ := okWide_slice Try.underlying27 (hval 0 27 v0 rfl rfl)
  have k0 := h0
  have lt0 : ∀ x ∈ p0, x.block < W.heap.size := by obtain ⟨m, hm⟩ := k0; exact DataW.trod_lt m _ _ _ hm
  obtain ⟨z0, hr0, hb0⟩ : ∃ zs, IsRow .u8 W a0 len0 cap0 zs ∧ cap0 * Try.prog.bytesOf 5 ≤ 140737488351232 := by
    obtain ⟨fuel, hf⟩ := h0
    rcases open_ints Try.underlying27 Try.underlying5 (by kernel_rfl) hf with ⟨hcs, hx⟩ | ⟨x, l, c, zs, hcs, hlc, hl, hm, hz, hx, hcell, hwz⟩
    · simp [Value.cells] at hcs
      obtain ⟨rfl, rfl, rfl⟩ := hcs
      exact ⟨[], .inl ⟨rfl, rfl, rfl, rfl⟩, by simp⟩
    · simp [Value.cells] at hcs
      obtain ⟨rfl, rfl, rfl⟩ := hcs
      simp only [Prod.mk.injEq] at hx
      obtain ⟨rfl, _⟩ := hx
      have hs := sized_slice hsz (j := 0) (t := 27) (e := 5) rfl rfl Try.underlying27
      simp only [lits, List.length_map, List.length_take, List.length_drop, reachBytes] at hs
      refine ⟨zs, .inr ⟨_, rfl, hl, hm, by simpa using hz, hcell, hwz⟩, ?_⟩
      have hz2 : zs.length = cap0 := by simpa using hz
      refine Nat.le_trans (Nat.mul_le_mul_right _ ?_) hs
      omega
  obtain ⟨a1, rfl, rfl, rfl, w1⟩ := open_int Try.underlying3 (hval 1 3 v1 rfl rfl) h1
  obtain ⟨a2, rfl, rfl, rfl, w2⟩ := open_int Try.underlying5 (hval 2 5 v2 rfl rfl) h2
  clear hA0 hval0
  refine (numSums_walk a0 len0 cap0 (z0.take len0) a1 a2 W (by have := hr0.len; rw [bytes5] at hb0; omega) hr0.bytes hr0.nil (bd8 w2)).mono fun e W' ⟨he, bel⟩ => ?_
  subst he
  exact ⟨_, rfl, _, _, _, [], _, [], hW', trodAll_mk1 (shut_bool Try.underlying4 _), (trodAll_cons_mk (Below.trod laidOut (by kernel_rfl) (of_decide_eq_true (by kernel_rfl)) k0 bel lt0) (trodAll_cons_mk (shut_int Try.underlying3 w1) (trodAll_cons_mk (shut_int Try.underlying5 w2) trodAll_mk0))), rfl, bel.frame _, fun h => by cases h⟩

theorem numSums_holds : Rows.NumSumsSaid :=
  OpenClaim.holds_of_wide 8 Try.f8 rfl rfl rfl rfl rfl rfl rfl ⟨rfl, rfl, rfl, rfl, rfl⟩ rfl rfl rfl rfl rfl (by kernel_rfl) Try.func8 (by kernel_rfl)
    (of_decide_eq_true (by kernel_rfl)) (by unfold Func.isWrapper; rw [if_neg (of_decide_eq_false (by kernel_rfl))]; exact ⟨rfl, rfl⟩)
    (fun os started H enc _ => numSums_lifted os started H enc)
#print axioms numSums_holds
end Go.Proofs.Ytfdcpelbikebkaa
