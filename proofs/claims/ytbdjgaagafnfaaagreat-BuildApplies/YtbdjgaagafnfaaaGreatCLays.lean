/-
  The cells as a slice, whether there is such a place, Get and Set of the program.
  Fill and Top of the program.
-/
import Derived.Test.YtbdjgaagafnfaaaGreatCTops
namespace Go.Proofs.YtbdjgaagafnfaaaGreat.C
section
open Go.RowKit

theorem all_c (g : Nat) (w : World) :
    Calls Tryz.prog 29 #[.pointer (some ⟨g, 0, none⟩)] w fun e w' => e = .returned (.slice (some ⟨g, 0, none⟩) 32768 32768) ∧ w' = w := by
  go_enter Tryz.func29, Tryz.ntmps29
  go_wp2
  go_ret
  exact ⟨rfl, rfl⟩
theorem has_c (g : Nat) (i : Int) (w : World) :
    Calls Tryz.prog 67 #[.pointer (some ⟨g, 0, none⟩), .int .i64 i] w fun e w' => e = .returned (.bool (decide (0 ≤ i ∧ i < 32768))) ∧ w' = w := by
  by_cases h0 : 0 ≤ i
  · by_cases h1 : i < 32768
    · go_enter Tryz.func67, Tryz.ntmps67
      go_wp2_with fail
      refine (all_c g _).mono ?_
      rintro _ _ ⟨rfl, rfl⟩
      go_wp2
      go_ret
      exact ⟨ret_bool (by simp; omega), rfl⟩
    · go_enter Tryz.func67, Tryz.ntmps67
      go_wp2_with fail
      refine (all_c g _).mono ?_
      rintro _ _ ⟨rfl, rfl⟩
      go_wp2
      go_ret
      exact ⟨ret_bool (by simp; omega), rfl⟩
  · go_enter Tryz.func67, Tryz.ntmps67
    go_wp2
    go_ret
    exact ⟨ret_bool (by simp; omega), rfl⟩
theorem get_c (g : Nat) (cs : List Int) (i : Int) (w : World) (hB : Blk w g 58 cs) (hl : cs.length = 32768) (hk : Kinds cs) :
    Calls Tryz.prog 46 #[.pointer (some ⟨g, 0, none⟩), .int .i64 i] w fun e w' => e = .returned (.int .i64 (getC cs i)) ∧ w' = w := by
  unfold getC
  by_cases hi : 0 ≤ i ∧ i < 32768
  · rw [if_pos hi]
    have hh := has_c g i w
    rw [decide_eq_true hi] at hh
    obtain ⟨I, rfl⟩ := Int.eq_ofNat_of_zero_le hi.1
    have hc := hB.cell (k := I) (by omega)
    rw [Int.toNat_natCast]
    have hI : I < 32768 := by omega
    obtain ⟨v0, v1⟩ := hk.at I
    generalize cs.getD I 0 = x at *
    go_enter Tryz.func46, Tryz.ntmps46
    go_wp2_with fail
    refine hh.mono ?_
    clear hh
    rintro _ _ ⟨rfl, rfl⟩
    go_wp2
    go_ret
    exact ⟨rfl, rfl⟩
  · rw [if_neg hi]
    have hh := has_c g i w
    rw [decide_eq_false hi] at hh
    go_enter Tryz.func46, Tryz.ntmps46
    go_wp2_with fail
    refine hh.mono ?_
    clear hh
    rintro _ _ ⟨rfl, rfl⟩
    go_wp2
    go_ret
    exact ⟨rfl, rfl⟩
theorem set_c (g : Nat) (cs : List Int) (i k : Int) (w : World) (hB : Blk w g 58 cs) (hl : cs.length = 32768) :
    Calls Tryz.prog 47 #[.pointer (some ⟨g, 0, none⟩), .int .i64 i, .int .i64 k] w fun e w' => e = .returned (.bool (okSet i k)) ∧ Blk w' g 58 (setC cs i k) ∧ Only g w w' := by
  have hh := has_c g i w
  have hq := isKind_c k w
  by_cases hok : 0 ≤ i ∧ i < 32768 ∧ 0 ≤ k ∧ k ≤ 16
  · obtain ⟨e1, e2⟩ := okSet_yes hok cs
    rw [e1, e2]
    obtain ⟨i0, i1, k0, k1⟩ := hok
    rw [decide_eq_true ⟨i0, i1⟩] at hh
    rw [decide_eq_true ⟨k0, k1⟩] at hq
    obtain ⟨I, rfl⟩ := Int.eq_ofNat_of_zero_le i0
    have hI : I < 32768 := by omega
    have hc := hB.cell (k := I) (by omega)
    have hf := hB.free I
    generalize cs.getD I 0 = x at hc
    have R1 : Blk (w.setCell ⟨g, I, none⟩ (.int .u8 k)) g 58 (cs.set I k) := hB.set I k
    have R2 : Only g w (w.setCell ⟨g, I, none⟩ (.int .u8 k)) := (Only.refl g w).set I _
    clear hB e1 e2
    simp only [Int.toNat_natCast]
    go_enter Tryz.func47, Tryz.ntmps47
    go_wp2_with fail
    refine hh.mono ?_
    clear hh
    rintro _ _ ⟨rfl, rfl⟩
    go_wp2_with fail
    refine hq.mono ?_
    clear hq
    rintro _ _ ⟨rfl, rfl⟩
    go_wp2
    go_ret
    exact ⟨rfl, R1, R2⟩
  · obtain ⟨e1, e2⟩ := okSet_no hok cs
    rw [e1, e2]
    clear e1 e2
    by_cases hi : 0 ≤ i ∧ i < 32768
    · rw [decide_eq_true hi] at hh
      rw [decide_eq_false (by omega)] at hq
      go_enter Tryz.func47, Tryz.ntmps47
      go_wp2_with fail
      refine hh.mono ?_
      clear hh
      rintro _ _ ⟨rfl, rfl⟩
      go_wp2_with fail
      refine hq.mono ?_
      clear hq
      rintro _ _ ⟨rfl, rfl⟩
      go_wp2
      go_ret
      exact ⟨rfl, hB, Only.refl _ _⟩
    · rw [decide_eq_false hi] at hh
      go_enter Tryz.func47, Tryz.ntmps47
      go_wp2_with fail
      refine hh.mono ?_
      clear hh
      rintro _ _ ⟨rfl, rfl⟩
      go_wp2
      go_ret
      exact ⟨rfl, hB, Only.refl _ _⟩
end
section
open Go.RowKit

theorem len56 : Tryz.prog.arrayLen 56 = 32768 := by kernel_rfl
theorem under56 : Tryz.prog.underlying 56 = some (.array (Tryz.prog.arrayLen 56) (Tryz.prog.elem 56)) := by kernel_rfl
theorem elem56 : Tryz.prog.elem 56 = 5 := by kernel_rfl
theorem sizeOf5 (w : World) : (sizeOf 5).run Tryz.prog w = .ok 1 w := by kernel_rfl
theorem slice_part (g S N : Nat) (h0 : 0 < N) (h1 : S + N ≤ 32768) (w : World) :
    (Instr.sliceAt 56 (.pointer (some ⟨g, 0, none⟩)) (some (.int .i64 (S : Int))) (some (.int .i64 ((S : Int) + (N : Int)))) none).run Tryz.prog w = .ok (.slice (some ⟨g, S, none⟩) N (32768 - S)) w := by
  rw [run_sliceAt_array_lh w 56 ⟨g, 0, none⟩ under56 .i64 .i64 S (S + N) (by omega) (by omega) (by rw [len56]; omega), elem56, sizeOf5, Result.andThen_ok, len56]
  unfold slicedAt
  rw [if_neg (by omega), Int.toNat_natCast, show ((S : Int) + (N : Int)).toNat = S + N by omega, Nat.add_sub_cancel_left, Addr.add_mid, Nat.zero_add, Nat.mul_one]
end
end Go.Proofs.YtbdjgaagafnfaaaGreat.C
