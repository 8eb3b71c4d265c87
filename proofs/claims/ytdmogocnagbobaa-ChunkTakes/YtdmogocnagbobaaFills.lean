/-
  Fill, of the program and of the document: what it makes of the cells, and what it answers.
-/
import Derived.Test.YtdmogocnagbobaaSets
namespace Go.Proofs.Ytdmogocnagbobaa
open Go.RowKit

set_option maxRecDepth 100000 in
theorem rfill_c (g : Nat) (cs : List Int) (a b k : Int) (w : World) (hB : Blk w g 5 cs) (hl : cs.length = 32768) :
    Calls Try.prog 23 #[.slice (some ⟨g, 0, none⟩) 32768 32768, .int .i64 a, .int .i64 b, .int .i64 k] w fun e w' => e = .returned (.bool (okFill a b k)) ∧ Blk w' g 5 (filC cs a b k) ∧ Only g w w' := by
  by_cases hok : 0 ≤ a ∧ b < 128 ∧ a ≤ b ∧ 0 ≤ k ∧ k ≤ 16
  · obtain ⟨e1, e2⟩ := okFill_yes hok cs
    rw [e1, e2]
    clear e1 e2
    obtain ⟨i0, i1, i2, k0, k1⟩ := hok
    obtain ⟨A, rfl⟩ := Int.eq_ofNat_of_zero_le i0
    obtain ⟨H, rfl⟩ := Int.eq_ofNat_of_zero_le (show 0 ≤ b by omega)
    simp only [Int.toNat_natCast]
    obtain ⟨S, hS⟩ : ∃ S : Nat, S = A * 256 := ⟨_, rfl⟩
    obtain ⟨N, hN⟩ : ∃ N : Nat, N = (H + 1 - A) * 256 := ⟨_, rfl⟩
    rw [← hS, ← hN]
    have hE : ((H : Int) + 1) * 256 = ((S + N : Nat) : Int) := by omega
    have hS' : (A : Int) * 256 = (S : Int) := by omega
    have hSN : S + N ≤ 32768 := by omega
    have hA : A ≤ 127 ∧ H ≤ 127 := by omega
    clear hS hN
    have n0 : ¬ (A : Int) < 0 := by omega
    have n1 : ¬ (128 : Int) ≤ H := by omega
    have n2 : ¬ (H : Int) < A := by omega
    have n3 : ¬ k < 0 := by omega
    have n4 : ¬ 16 < k := by omega
    go_enter Try.func23, Try.ntmps23
    go_wp2
    go_loopw [9] (fun i wr => ∃ n : Nat, n ≤ N ∧ i = .int .i64 ((S + n : Nat) : Int) ∧ Blk wr g 5 (filTo cs S k n) ∧ Only g w wr) (fun i _ => 32768 - (intOf i).toNat)
    case atStart => exact ⟨0, Nat.zero_le _, by simp, hB, Only.refl _ _⟩
    case round =>
      obtain ⟨n, hn, rfl, hB1, ho⟩ := hrel
      by_cases hlt : n < N
      · have hc := hB1.cell (k := S + n) (by rw [filTo_length, hl]; omega)
        have hf := hB1.free (S + n)
        have hlt' : ((S + n : Nat) : Int) < ((S + N : Nat) : Int) := by omega
        generalize (filTo cs S k n).getD (S + n) 0 = x at hc
        have R1 : Blk (wr.setCell ⟨g, S + n, none⟩ (.int .u8 k)) g 5 (filTo cs S k (n + 1)) := hB1.set (S + n) k
        have R2 : Only g w (wr.setCell ⟨g, S + n, none⟩ (.int .u8 k)) := ho.set (S + n) _
        have hlm : S + n < 32768 := by omega
        clear hB1 ho
        go_wp2
        go_roundw
        case rel => exact ⟨n + 1, by omega, by go_num, R1, R2⟩
        case measure => simp [intOf]; omega
      · obtain rfl : n = N := by omega
        go_wp2
        go_ret
        exact ⟨rfl, hB1, ho⟩
  · obtain ⟨e1, e2⟩ := okFill_no hok cs
    rw [e1, e2]
    clear e1 e2
    by_cases i0 : a < 0
    · go_enter Try.func23, Try.ntmps23
      go_wp2
      go_ret
      exact ⟨rfl, hB, Only.refl _ _⟩
    · by_cases i1 : 128 ≤ b
      · go_enter Try.func23, Try.ntmps23
        go_wp2
        go_ret
        exact ⟨rfl, hB, Only.refl _ _⟩
      · by_cases i2 : b < a
        · go_enter Try.func23, Try.ntmps23
          go_wp2
          go_ret
          exact ⟨rfl, hB, Only.refl _ _⟩
        · by_cases k0 : k < 0
          · go_enter Try.func23, Try.ntmps23
            go_wp2
            go_ret
            exact ⟨rfl, hB, Only.refl _ _⟩
          · have k1 : 16 < k := by omega
            go_enter Try.func23, Try.ntmps23
            go_wp2
            go_ret
            exact ⟨rfl, hB, Only.refl _ _⟩
end Go.Proofs.Ytdmogocnagbobaa
