/-
  LadderMays and LadderRadii, walked over any ladder package that keeps what is asked.
-/
import Derived.Test.YtokjbjfpgjincaaLworld
set_option maxRecDepth 20000
namespace Go.Proofs.Ytokjbjfpgjincaa
open Go.RowKit

set_option maxHeartbeats 1000000 in
theorem ladderMays_walk (J : LSpec) (a : Option Addr) (n c : Nat) (L : List Rn) (w : World) (hR : RgAt w a L) (hn : L.length = n) (hle : n ≤ maxLen) :
    Calls Try.prog 3 #[.slice a n c] w fun e w' => e = .returned (.bool true) ∧ Below w.heap.size w w' := by
  obtain ⟨Post, hPost⟩ : ∃ Post : Ending → World → Prop, Post = fun e w' => e = .returned (.bool true) ∧ Below w.heap.size w w' := ⟨_, rfl⟩
  rw [← hPost]
  have HP : Hid (∀ w', Below w.heap.size w w' → Post (.returned (.bool true)) w') := fun w' h => by rw [hPost]; exact ⟨rfl, h⟩
  clear hPost
  have HR : Hid (RgAt w a L) := hR
  clear hR
  go_enter Try.func3, Try.ntmps3
  go_wp2_with fail
  refine (awake_c J w).mono ?_
  rintro _ w1 ⟨rfl, hb1⟩
  go_wp2_with fail
  refine (J.may_ a n c L w1 (HR.out.on hb1) hn hle).mono ?_
  rintro _ w2 ⟨rfl, hb2⟩
  have Hb2 : Hid (Below w.heap.size w w2) := hb1.trans (hb2.mono hb1.size)
  clear hb1 hb2
  go_wp2_with fail
  refine (rmay_c a n c L w2 (HR.out.on Hb2.out) hn).mono ?_
  rintro _ w3 ⟨rfl, hb3⟩
  have R := HP.out w3 (Hb2.out.trans (hb3.mono Hb2.out.size))
  clear HP Hb2 hb3
  generalize mayB (lad L) = m
  cases m <;> go_wp2 <;> exact R
theorem capS_snoc (xs : List Int) (v : Int) : capS (xs ++ [v]) = capS xs + cap1 v := by simp [capS]
theorem capS_bound : ∀ (xs : List Int), (∀ v ∈ xs, -1 ≤ v ∧ v ≤ 8) → 0 ≤ capS xs ∧ capS xs ≤ 289 * (xs.length : Int)
  | [], _ => by simp [capS]
  | x :: xs, h => by
    have ih := capS_bound xs (fun v hv => h v (List.mem_cons_of_mem _ hv))
    obtain ⟨h1, h2⟩ := h x (by simp)
    have e : capS (x :: xs) = cap1 x + capS xs := by simp [capS]
    have hc : 0 ≤ cap1 x ∧ cap1 x ≤ 289 := by
      have hx : x = -1 ∨ x = 0 ∨ x = 1 ∨ x = 2 ∨ x = 3 ∨ x = 4 ∨ x = 5 ∨ x = 6 ∨ x = 7 ∨ x = 8 := by omega
      rcases hx with rfl | rfl | rfl | rfl | rfl | rfl | rfl | rfl | rfl | rfl <;> decide
    rw [e, List.length_cons]
    omega
set_option maxHeartbeats 1000000 in
theorem ladderRadii_walk (J : LSpec) (a : Option Addr) (n c : Nat) (L : List Rn) (k : Int) (w : World) (hR : RgAt w a L) (hn : L.length = n) (hle : n ≤ maxLen) (hk : I64 k) :
    Calls Try.prog 4 #[.slice a n c, .int .i64 k] w fun e w' => e = .returned (.bool true) ∧ Below w.heap.size w w' := by
  obtain ⟨Post, hPost⟩ : ∃ Post : Ending → World → Prop, Post = fun e w' => e = .returned (.bool true) ∧ Below w.heap.size w w' := ⟨_, rfl⟩
  rw [← hPost]
  have HP : Hid (∀ w', Below w.heap.size w w' → Post (.returned (.bool true)) w') := fun w' h => by rw [hPost]; exact ⟨rfl, h⟩
  clear hPost
  have HR : Hid (RgAt w a L) := hR
  have Hk : Hid (I64 k) := hk
  have Hn : Hid (L.length = n) := hn
  clear hR hk hn
  go_enter Try.func4, Try.ntmps4
  go_wp2_with fail
  refine (awake_c J w).mono ?_
  rintro _ w1 ⟨rfl, hb1⟩
  have Hb1 : Hid (Below w.heap.size w w1) := hb1
  clear hb1
  go_wp2_with fail
  refine (rradii_c a n c L k w1 (HR.out.on Hb1.out) Hn.out Hk.out).mono ?_
  rintro _ w2 ⟨hb2, ra, rc, rfl, hI2, h16⟩
  have Hb2 : Hid (Below w.heap.size w w2) := Hb1.out.trans (hb2.mono Hb1.out.size)
  have HI2 : Hid (IntsAt w2 ra (radL (lad L) k)) := hI2
  have Hrng : Hid (∀ v ∈ radL (lad L) k, -1 ≤ v ∧ v ≤ 8) := fun v hv => radL_rng hv
  have HJr : Hid (∀ w3, Below w.heap.size w w3 → Calls Try.prog 14 #[.slice a n c, .int .i64 k] w3 fun e w' => Below w3.heap.size w3 w' ∧ ∃ a' c', e = .returned (.slice a' (radL (lad L) k).length c') ∧ IntsAt w' a' (radL (lad L) k) ∧ (radL (lad L) k).length ≤ c') := fun w3 hb => J.radii_ a n c L k w3 (HR.out.on hb) Hn.out hle Hk.out
  have HJc : Hid (∀ w3, Below w.heap.size w w3 → Calls Try.prog 15 #[.slice a n c, .int .i64 k] w3 fun e w' => e = .returned (.int .i64 (capS (radL (lad L) k))) ∧ Below w3.heap.size w3 w') := fun w3 hb => J.cap_ a n c L k w3 (HR.out.on hb) Hn.out hle Hk.out
  generalize radL (lad L) k = rs at *
  obtain ⟨m, hm⟩ : ∃ m, m = rs.length := ⟨_, rfl⟩
  have Hm : Hid (m = rs.length) := hm
  rw [← hm] at h16 HJr ⊢
  clear hm hb2 hI2 Hb1 HR Hk Hn
  go_wp2_with fail
  go_loopw [7, 8] (fun v y wr => ∃ (i : Nat), i ≤ m ∧ y = .int .i64 (i : Int) ∧ v = .int .i64 (capS (rs.take i)) ∧ Hid (Below w2.heap.size w2 wr)) (fun _ y _ => m - (intOf y).toNat)
  case atStart => exact ⟨0, Nat.zero_le _, by go_num, by simp [capS], Below.refl _ _⟩
  case round =>
    obtain ⟨i, hi, rfl, rfl, HBe⟩ := hrel
    have hcb : 0 ≤ capS (rs.take i) ∧ capS (rs.take i) ≤ 289 * 16 := by
      have := capS_bound (rs.take i) (fun v hv => Hrng.out v (List.mem_of_mem_take hv))
      have h2 : (rs.take i).length ≤ 16 := by rw [List.length_take]; omega
      omega
    by_cases hlt : i < m
    · have hlt' : (i : Int) < (m : Int) := by omega
      have hil : i < rs.length := by rw [← Hm.out]; exact hlt
      have Hsn : Hid (capS (rs.take (i + 1)) = capS (rs.take i) + cap1 rs[i]) := by show _ = _; rw [List.take_succ_eq_append_getElem hil, capS_snoc]
      obtain ⟨rb, ro, rfl, hcs⟩ : ∃ b off, ra = some ⟨b, off, none⟩ ∧ ∀ j (h : j < rs.length), wr.cell? ⟨b, off + j, none⟩ = some (.int .i64 rs[j]) := by
        rcases HI2.out.on HBe.out with h | h
        · rw [h] at hil; simp at hil
        · exact h
      have q0 := hcs i hil
      obtain ⟨hv1, hv8⟩ := Hrng.out rs[i] (List.getElem_mem hil)
      obtain ⟨C, hC⟩ : ∃ C, C = capS (rs.take i) := ⟨_, rfl⟩
      rw [← hC] at hcb Hsn ⊢
      clear hcs HP HJr HJc hC
      generalize rs[i] = V at *
      by_cases h0 : 0 ≤ V
      · have s1 : IntKind.i64.wrap (2 * V) = 2 * V := by rw [IntKind.wrap_i64]; omega
        have s2 : IntKind.i64.wrap (2 * V + 1) = 2 * V + 1 := by rw [IntKind.wrap_i64]; omega
        obtain ⟨U, hU⟩ : ∃ U, U = 2 * V + 1 := ⟨_, rfl⟩
        rw [← hU] at s2
        have hU1 : 0 ≤ U * U ∧ U * U ≤ 289 := ⟨Int.mul_nonneg (by omega) (by omega), Int.mul_le_mul (show U ≤ 17 by omega) (show U ≤ 17 by omega) (by omega) (by omega)⟩
        have s3 : wrap64 (U * U) = U * U := by unfold wrap64; generalize U * U = X at *; omega
        have s4 : wrap64 (C + U * U) = C + U * U := by unfold wrap64; generalize U * U = X at *; omega
        have Hsn2 : Hid (C + U * U = capS (rs.take (i + 1))) := by show _ = _; rw [Hsn.out]; unfold cap1; rw [if_pos h0, ← hU]
        have HsV : Hid (Value.int .i64 (wrap64 (C + wrap64 ((2 * V + 1) * (2 * V + 1)))) = Value.int .i64 (capS (rs.take (i + 1)))) := by
          show _ = _
          rw [← hU, s3, s4, Hsn2.out]
        clear Hsn hU Hsn2 s2 s3 s4 hU1
        go_wp2_with fail
        go_big_quiet (fail)
        have HB2 : Hid (Below w2.heap.size w2 (wr.drewN nq)) := below_drewN HBe.out nq
        go_wp2
        go_roundw
        case rel => exact ⟨i + 1, by omega, by go_num, HsV.out, HB2⟩
        case measure => simp [intOf]; omega
      · have Hsn2 : Hid (C = capS (rs.take (i + 1))) := by show _ = _; rw [Hsn.out]; unfold cap1; rw [if_neg h0]; omega
        clear Hsn
        go_wp2
        go_roundw
        case rel => exact ⟨i + 1, by omega, by go_num, congrArg (Value.int .i64) Hsn2.out, HBe⟩
        case measure => simp [intOf]; omega
    · obtain rfl : i = m := by omega
      have hge : ¬ (i : Int) < (i : Int) := by omega
      have et : rs.take i = rs := List.take_of_length_le (by rw [← Hm.out]; exact Nat.le_refl _)
      rw [et] at hcb ⊢
      have Hb3 : Hid (Below w.heap.size w wr) := Hb2.out.trans (HBe.out.mono Hb2.out.size)
      have HI3 : Hid (IntsAt wr ra rs) := HI2.out.on HBe.out
      clear et HBe HI2
      go_wp2_with fail
      refine (HJr.out wr Hb3.out).mono ?_
      rintro _ w4 ⟨hb4, a4, c4, rfl, hI4, _⟩
      have HI4 : Hid (IntsAt w4 a4 rs) := hI4
      have HI5 : Hid (IntsAt w4 ra rs) := HI3.out.on hb4
      have Hb4 : Hid (Below w.heap.size w w4) := Hb3.out.trans (hb4.mono Hb3.out.size)
      clear hb4 hI4 HI3 Hb3
      go_wp2_with fail
      refine (numbers_c a4 ra i c4 rc rs w4 HI4.out HI5.out Hm.out.symm (by omega)).mono ?_
      rintro _ w5 ⟨rfl, hb5⟩
      have Hb5 : Hid (Below w.heap.size w w5) := Hb4.out.trans (hb5.mono Hb4.out.size)
      clear HI4 HI5 Hb4 hb5
      go_wp2_with fail
      refine (HJc.out w5 Hb5.out).mono ?_
      rintro _ w6 ⟨rfl, hb6⟩
      have R := HP.out w6 (Hb5.out.trans (hb6.mono Hb5.out.size))
      clear HP HJr HJc Hb5 hb6
      generalize capS rs = C at *
      go_wp2
      exact R
end Go.Proofs.Ytokjbjfpgjincaa
