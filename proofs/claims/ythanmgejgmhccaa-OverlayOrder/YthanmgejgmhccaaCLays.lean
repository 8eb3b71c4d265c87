/-
  Fill and Top of the program.
-/
import Derived.Test.YthanmgejgmhccaaCCells
namespace Go.Proofs.Ythanmgejgmhccaa.C
open Go.RowKit

theorem len65 : Try.prog.arrayLen 65 = 32768 := by kernel_rfl
theorem under65 : Try.prog.underlying 65 = some (.array (Try.prog.arrayLen 65) (Try.prog.elem 65)) := by kernel_rfl
theorem elem65 : Try.prog.elem 65 = 5 := by kernel_rfl
theorem sizeOf5 (w : World) : (sizeOf 5).run Try.prog w = .ok 1 w := by kernel_rfl
theorem slice_part (g S N : Nat) (h0 : 0 < N) (h1 : S + N ≤ 32768) (w : World) :
    (Instr.sliceAt 65 (.pointer (some ⟨g, 0, none⟩)) (some (.int .i64 (S : Int))) (some (.int .i64 ((S : Int) + (N : Int)))) none).run Try.prog w = .ok (.slice (some ⟨g, S, none⟩) N (32768 - S)) w := by
  rw [run_sliceAt_array_lh w 65 ⟨g, 0, none⟩ under65 .i64 .i64 S (S + N) (by omega) (by omega) (by rw [len65]; omega), elem65, sizeOf5, Result.andThen_ok, len65]
  unfold slicedAt
  rw [if_neg (by omega), Int.toNat_natCast, show ((S : Int) + (N : Int)).toNat = S + N by omega, Nat.add_sub_cancel_left, Addr.add_mid, Nat.zero_add, Nat.mul_one]

set_option maxRecDepth 100000 in
theorem fill_c (g : Nat) (cs : List Int) (a b k : Int) (w : World) (hB : Blk w g 67 cs) (hl : cs.length = 32768) :
    Calls Try.prog 26 #[.pointer (some ⟨g, 0, none⟩), .int .i64 a, .int .i64 b, .int .i64 k] w fun e w' => e = .returned (.bool (okFill a b k)) ∧ Blk w' g 67 (filC cs a b k) ∧ Only g w w' := by
  have hq := isKind_c k w
  by_cases hok : 0 ≤ a ∧ b < 128 ∧ a ≤ b ∧ 0 ≤ k ∧ k ≤ 16
  · obtain ⟨e1, e2⟩ := okFill_yes hok cs
    rw [e1, e2]
    clear e1 e2
    obtain ⟨i0, i1, i2, k0, k1⟩ := hok
    rw [decide_eq_true ⟨k0, k1⟩] at hq
    obtain ⟨A, rfl⟩ := Int.eq_ofNat_of_zero_le i0
    obtain ⟨H, rfl⟩ := Int.eq_ofNat_of_zero_le (show 0 ≤ b by omega)
    simp only [Int.toNat_natCast]
    obtain ⟨S, hS⟩ : ∃ S : Nat, S = A * 256 := ⟨_, rfl⟩
    obtain ⟨N, hN⟩ : ∃ N : Nat, N = (H + 1 - A) * 256 := ⟨_, rfl⟩
    rw [← hS, ← hN]
    have hE : ((H : Int) + 1) * 256 = ((S + N : Nat) : Int) := by omega
    have hS' : (A : Int) * 256 = (S : Int) := by omega
    have hSN : S + N ≤ 32768 := by omega
    have hA : A ≤ 127 ∧ H ≤ 127 := by omega
    have hsl := slice_part g S N (by omega) hSN w
    clear hS hN
    have n0 : ¬ (A : Int) < 0 := by omega
    have n1 : ¬ (128 : Int) ≤ H := by omega
    have n2 : ¬ (H : Int) < A := by omega
    go_enter Try.func26, Try.ntmps26
    go_wp2_with fail
    refine hq.mono ?_
    clear hq
    rintro _ w1 ⟨rfl, hw⟩
    rw [hw]
    clear hw w1
    go_wp2
    go_loopw [42] (fun i wr => ∃ n : Nat, n ≤ N ∧ i = .int .i64 (n : Int) ∧ Blk wr g 67 (filTo cs S k n) ∧ Only g w wr) (fun i _ => N - (intOf i).toNat)
    case atStart => exact ⟨0, Nat.zero_le _, by simp, hB, Only.refl _ _⟩
    case round =>
      obtain ⟨n, hn, rfl, hB1, ho⟩ := hrel
      by_cases hlt : n < N
      · have hc := hB1.cell (k := S + n) (by rw [filTo_length, hl]; omega)
        have hf := hB1.free (S + n)
        have hlt' : (n : Int) < (N : Int) := by omega
        generalize (filTo cs S k n).getD (S + n) 0 = x at hc
        have R1 : Blk (wr.setCell ⟨g, S + n, none⟩ (.int .u8 k)) g 67 (filTo cs S k (n + 1)) := hB1.set (S + n) k
        have R2 : Only g w (wr.setCell ⟨g, S + n, none⟩ (.int .u8 k)) := ho.set (S + n) _
        have hlm : S + n < 32768 := by omega
        clear hB1 ho
        go_wp2
        go_roundw
        case rel => exact ⟨n + 1, by omega, by go_num, R1, R2⟩
        case measure => simp [intOf]; omega
      · obtain rfl : n = N := by omega
        go_wp2
        go_ret
        exact ⟨rfl, hB1, ho⟩
  · obtain ⟨e1, e2⟩ := okFill_no hok cs
    rw [e1, e2]
    clear e1 e2
    by_cases i0 : a < 0
    · go_enter Try.func26, Try.ntmps26
      go_wp2
      go_ret
      exact ⟨rfl, hB, Only.refl _ _⟩
    · by_cases i1 : 128 ≤ b
      · go_enter Try.func26, Try.ntmps26
        go_wp2
        go_ret
        exact ⟨rfl, hB, Only.refl _ _⟩
      · by_cases i2 : b < a
        · go_enter Try.func26, Try.ntmps26
          go_wp2
          go_ret
          exact ⟨rfl, hB, Only.refl _ _⟩
        · rw [decide_eq_false (by omega)] at hq
          go_enter Try.func26, Try.ntmps26
          go_wp2_with fail
          refine hq.mono ?_
          clear hq
          rintro _ _ ⟨rfl, rfl⟩
          go_wp2
          go_ret
          exact ⟨rfl, hB, Only.refl _ _⟩

end Go.Proofs.Ythanmgejgmhccaa.C