/-
  The cells as a slice, whether there is such a place, Get and Set of the program.
-/
import Derived.Test.YthanmgejgmhccaaCTops
namespace Go.Proofs.Ythanmgejgmhccaa.C
open Go.RowKit

theorem all_c (g : Nat) (w : World) :
    Calls Try.prog 37 #[.pointer (some ⟨g, 0, none⟩)] w fun e w' => e = .returned (.slice (some ⟨g, 0, none⟩) 32768 32768) ∧ w' = w := by
  go_enter Try.func37, Try.ntmps37
  go_wp2
  go_ret
  exact ⟨rfl, rfl⟩
theorem has_c (g : Nat) (i : Int) (w : World) :
    Calls Try.prog 40 #[.pointer (some ⟨g, 0, none⟩), .int .i64 i] w fun e w' => e = .returned (.bool (decide (0 ≤ i ∧ i < 32768))) ∧ w' = w := by
  by_cases h0 : 0 ≤ i
  · by_cases h1 : i < 32768
    · go_enter Try.func40, Try.ntmps40
      go_wp2_with fail
      refine (all_c g _).mono ?_
      rintro _ _ ⟨rfl, rfl⟩
      go_wp2
      go_ret
      exact ⟨ret_bool (by simp; omega), rfl⟩
    · go_enter Try.func40, Try.ntmps40
      go_wp2_with fail
      refine (all_c g _).mono ?_
      rintro _ _ ⟨rfl, rfl⟩
      go_wp2
      go_ret
      exact ⟨ret_bool (by simp; omega), rfl⟩
  · go_enter Try.func40, Try.ntmps40
    go_wp2
    go_ret
    exact ⟨ret_bool (by simp; omega), rfl⟩
theorem get_c (g : Nat) (cs : List Int) (i : Int) (w : World) (hB : Blk w g 67 cs) (hl : cs.length = 32768) (hk : Kinds cs) :
    Calls Try.prog 29 #[.pointer (some ⟨g, 0, none⟩), .int .i64 i] w fun e w' => e = .returned (.int .i64 (getC cs i)) ∧ w' = w := by
  unfold getC
  by_cases hi : 0 ≤ i ∧ i < 32768
  · rw [if_pos hi]
    have hh := has_c g i w
    rw [decide_eq_true hi] at hh
    obtain ⟨I, rfl⟩ := Int.eq_ofNat_of_zero_le hi.1
    have hc := hB.cell (k := I) (by omega)
    rw [Int.toNat_natCast]
    have hI : I < 32768 := by omega
    obtain ⟨v0, v1⟩ := hk.at I
    generalize cs.getD I 0 = x at *
    go_enter Try.func29, Try.ntmps29
    go_wp2_with fail
    refine hh.mono ?_
    clear hh
    rintro _ _ ⟨rfl, rfl⟩
    go_wp2
    go_ret
    exact ⟨rfl, rfl⟩
  · rw [if_neg hi]
    have hh := has_c g i w
    rw [decide_eq_false hi] at hh
    go_enter Try.func29, Try.ntmps29
    go_wp2_with fail
    refine hh.mono ?_
    clear hh
    rintro _ _ ⟨rfl, rfl⟩
    go_wp2
    go_ret
    exact ⟨rfl, rfl⟩
theorem set_c (g : Nat) (cs : List Int) (i k : Int) (w : World) (hB : Blk w g 67 cs) (hl : cs.length = 32768) :
    Calls Try.prog 31 #[.pointer (some ⟨g, 0, none⟩), .int .i64 i, .int .i64 k] w fun e w' => e = .returned (.bool (okSet i k)) ∧ Blk w' g 67 (setC cs i k) ∧ Only g w w' := by
  have hh := has_c g i w
  have hq := isKind_c k w
  by_cases hok : 0 ≤ i ∧ i < 32768 ∧ 0 ≤ k ∧ k ≤ 16
  · obtain ⟨e1, e2⟩ := okSet_yes hok cs
    rw [e1, e2]
    obtain ⟨i0, i1, k0, k1⟩ := hok
    rw [decide_eq_true ⟨i0, i1⟩] at hh
    rw [decide_eq_true ⟨k0, k1⟩] at hq
    obtain ⟨I, rfl⟩ := Int.eq_ofNat_of_zero_le i0
    have hI : I < 32768 := by omega
    have hc := hB.cell (k := I) (by omega)
    have hf := hB.free I
    generalize cs.getD I 0 = x at hc
    have R1 : Blk (w.setCell ⟨g, I, none⟩ (.int .u8 k)) g 67 (cs.set I k) := hB.set I k
    have R2 : Only g w (w.setCell ⟨g, I, none⟩ (.int .u8 k)) := (Only.refl g w).set I _
    clear hB e1 e2
    simp only [Int.toNat_natCast]
    go_enter Try.func31, Try.ntmps31
    go_wp2_with fail
    refine hh.mono ?_
    clear hh
    rintro _ _ ⟨rfl, rfl⟩
    go_wp2_with fail
    refine hq.mono ?_
    clear hq
    rintro _ _ ⟨rfl, rfl⟩
    go_wp2
    go_ret
    exact ⟨rfl, R1, R2⟩
  · obtain ⟨e1, e2⟩ := okSet_no hok cs
    rw [e1, e2]
    clear e1 e2
    by_cases hi : 0 ≤ i ∧ i < 32768
    · rw [decide_eq_true hi] at hh
      rw [decide_eq_false (by omega)] at hq
      go_enter Try.func31, Try.ntmps31
      go_wp2_with fail
      refine hh.mono ?_
      clear hh
      rintro _ _ ⟨rfl, rfl⟩
      go_wp2_with fail
      refine hq.mono ?_
      clear hq
      rintro _ _ ⟨rfl, rfl⟩
      go_wp2
      go_ret
      exact ⟨rfl, hB, Only.refl _ _⟩
    · rw [decide_eq_false hi] at hh
      go_enter Try.func31, Try.ntmps31
      go_wp2_with fail
      refine hh.mono ?_
      clear hh
      rintro _ _ ⟨rfl, rfl⟩
      go_wp2
      go_ret
      exact ⟨rfl, hB, Only.refl _ _⟩
end Go.Proofs.Ythanmgejgmhccaa.C